/- home: the document's Takes. -/
import Derived.Test.YthkielaicnmaeaaHomV
namespace Go.Proofs.Ythkielaicnmaeaa
open Go.ChangeShapes Go.WideShapes Go.ChangeAt Go.RowKit
set_option linter.unusedVariables false
set_option linter.unusedSimpArgs false
attribute [local go_sem ↓] ldM_eq stM_eq bdM_eq bsM_eq
variable {n0 db : Nat} {d d' : W.Dm} {sv wv sv' wv' sv'' wv'' : Value} {w w' w'' : World}

theorem dtakes_no (H : Dh n0 db d sv wv w) (m : W.Mg) (hq : m.l ≠ d.ln ∨ m.t ≠ -1 ∨ m.f < 0 ∨ d.hs ≤ m.f) : Calls Try.prog 13 #[.pointer (some ⟨db, 0, none⟩), mgV m] w fun e w' => e = .returned (.bool false) ∧ Below w.heap.size w w' := by
  have hba := below_alloc w (.cells (mgL m).toArray 35)
  have H1 := H.below hba
  have hm := msgAt_new w m
  have c0 : (w.alloc (.cells (mgL m).toArray 35)).cell? ⟨db, 0, none⟩ = some (.int .i64 d.ln) := H1.c 0 (by decide)
  have c1 : (w.alloc (.cells (mgL m).toArray 35)).cell? ⟨db, 1, none⟩ = some (.int .i64 d.hs) := H1.c 1 (by decide)
  have m1 : (w.alloc (.cells (mgL m).toArray 35)).cell? ⟨w.heap.size, 1, none⟩ = some (.int .i64 m.l) := hm.cAt 1
  have m2 : (w.alloc (.cells (mgL m).toArray 35)).cell? ⟨w.heap.size, 2, none⟩ = some (.int .i64 m.f) := hm.cAt 2
  have m3 : (w.alloc (.cells (mgL m).toArray 35)).cell? ⟨w.heap.size, 3, none⟩ = some (.int .i64 m.t) := hm.cAt 3
  have HB : Hid (_) := hba
  clear H H1 hba hm
  unfold mgV
  unfold mgL at *
  obtain ⟨k, l, f, t, d0, d1, d2, d3, h, dd, a⟩ := m
  dsimp only at *
  by_cases e1 : l = d.ln
  · have q1 : (l != d.ln) = false := by simp [e1]
    by_cases e2 : t = -1
    · subst e2
      by_cases e3 : f < 0
      · have q3 : decide (f < 0) = true := decide_eq_true e3
        clear hq e1
        go_enter Try.func13, Try.ntmps13
        go_wp2_with (fail)
        generalize World.alloc w _ = W1 at *
        go_quiet (fail)
        go_wp2
        go_ret
        exact ⟨rfl, below_drewN HB.out _⟩
      · have q3 : decide (f < 0) = false := decide_eq_false e3
        have e4 : d.hs ≤ f := by
          rcases hq with h | h | h | h
          · exact absurd e1 h
          · exact absurd rfl h
          · exact absurd h e3
          · exact h
        have q4 : decide (d.hs ≤ f) = true := decide_eq_true e4
        clear hq e1
        go_enter Try.func13, Try.ntmps13
        go_wp2_with (fail)
        generalize World.alloc w _ = W1 at *
        go_quiet (fail)
        go_wp2
        go_ret
        exact ⟨rfl, below_drewN HB.out _⟩
    · have q2 : (t != -1) = true := by simpa using e2
      clear hq e1
      go_enter Try.func13, Try.ntmps13
      go_wp2_with (fail)
      generalize World.alloc w _ = W1 at *
      go_quiet (fail)
      go_wp2
      go_ret
      exact ⟨rfl, below_drewN HB.out _⟩
  · have q1 : (l != d.ln) = true := by simpa using e1
    clear hq e1
    go_enter Try.func13, Try.ntmps13
    go_wp2_with (fail)
    generalize World.alloc w _ = W1 at *
    go_quiet (fail)
    go_wp2
    go_ret
    exact ⟨rfl, below_drewN HB.out _⟩

set_option maxHeartbeats 6000000 in
theorem dtakes_yes (H : Dh n0 db d sv wv w) (hl : d.ws.length ≤ 4096) (m : W.Mg) (e1 : m.l = d.ln) (e2 : m.t = -1) (e3 : 0 ≤ m.f) (e4 : m.f < d.hs) (hr : -9223372036854775808 ≤ m.k ∧ m.k ≤ 9223372036854775807) : Calls Try.prog 13 #[.pointer (some ⟨db, 0, none⟩), mgV m] w fun e w' => e = .returned (.bool (W.dtk d m)) ∧ Below w.heap.size w w' := by
  have hba := below_alloc w (.cells (mgL m).toArray 35)
  have H1 := H.below hba
  have hm := msgAt_new w m
  have HT : Hid (W.dtk d m = (if m.k = 1 ∨ m.k = 2 ∨ m.k = 3 then !d.bz else if m.k = 10 then d.bz && decide (m.f ∈ d.ws) else if m.k = 11 then d.bz && decide (d.fr = m.f) else if m.k = 12 then d.bz && (decide (d.ws = []) && (decide (d.fr < 0) && decide (d.by_ = m.f))) else false)) := by
    show W.dtk d m = _
    unfold W.dtk
    rw [if_neg (by omega)]
  have c0 : (w.alloc (.cells (mgL m).toArray 35)).cell? ⟨db, 0, none⟩ = some (.int .i64 d.ln) := H1.c 0 (by decide)
  have c1 : (w.alloc (.cells (mgL m).toArray 35)).cell? ⟨db, 1, none⟩ = some (.int .i64 d.hs) := H1.c 1 (by decide)
  have c8 : (w.alloc (.cells (mgL m).toArray 35)).cell? ⟨db, 8, none⟩ = some (.bool d.bz) := H1.c 8 (by decide)
  have c10 : (w.alloc (.cells (mgL m).toArray 35)).cell? ⟨db, 10, none⟩ = some (.int .i64 d.by_) := H1.c 10 (by decide)
  have c11 : (w.alloc (.cells (mgL m).toArray 35)).cell? ⟨db, 11, none⟩ = some wv := H1.c 11 (by decide)
  have c12 : (w.alloc (.cells (mgL m).toArray 35)).cell? ⟨db, 12, none⟩ = some (.int .i64 d.fr) := H1.c 12 (by decide)
  have m0 : (w.alloc (.cells (mgL m).toArray 35)).cell? ⟨w.heap.size, 0, none⟩ = some (.int .i64 m.k) := hm.cAt 0
  have m1 : (w.alloc (.cells (mgL m).toArray 35)).cell? ⟨w.heap.size, 1, none⟩ = some (.int .i64 m.l) := hm.cAt 1
  have m2 : (w.alloc (.cells (mgL m).toArray 35)).cell? ⟨w.heap.size, 2, none⟩ = some (.int .i64 m.f) := hm.cAt 2
  have m3 : (w.alloc (.cells (mgL m).toArray 35)).cell? ⟨w.heap.size, 3, none⟩ = some (.int .i64 m.t) := hm.cAt 3
  have HB : Hid (_) := hba
  have HM : Hid (w.heap.size < (w.alloc (.cells (mgL m).toArray 35)).heap.size) := (by simp : w.heap.size < (w.alloc (.cells (mgL m).toArray 35)).heap.size)
  have HH : Hid (Dh n0 db d sv wv (w.alloc (.cells (mgL m).toArray 35))) := H1
  clear H H1 hba hm
  unfold mgV
  unfold mgL at *
  obtain ⟨k, l, f, t, d0, d1, d2, d3, h, dd, a⟩ := m
  dsimp only at *
  subst e2
  have HTT : ∀ b, (if k = 1 ∨ k = 2 ∨ k = 3 then !d.bz else if k = 10 then d.bz && decide (f ∈ d.ws) else if k = 11 then d.bz && decide (d.fr = f) else if k = 12 then d.bz && (decide (d.ws = []) && (decide (d.fr < 0) && decide (d.by_ = f))) else false) = b → W.dtk d ⟨k, l, f, -1, d0, d1, d2, d3, h, dd, a⟩ = b := fun b hb => HT.out.trans hb
  have HTH : Hid (_) := HTT
  clear HT HTT
  have q1 : (l != d.ln) = false := by simp [e1]
  have q3 : decide (f < 0) = false := decide_eq_false (by omega)
  have q4 : decide (d.hs ≤ f) = false := decide_eq_false (by omega)
  clear e1 e3 e4
  have hk : k = 1 ∨ k = 2 ∨ k = 3 ∨ k = 10 ∨ k = 11 ∨ k = 12 ∨ (k ≠ 1 ∧ k ≠ 2 ∧ k ≠ 3 ∧ k ≠ 10 ∧ k ≠ 11 ∧ k ≠ 12) := by omega
  rcases hk with rfl | rfl | rfl | rfl | rfl | rfl | ⟨n1, n2, n3, n10, n11, n12⟩
  · have HP := HTH.out (!d.bz) (by simp)
    rw [HP]
    clear HP HTH
    go_enter Try.func13, Try.ntmps13
    go_wp2_with (fail)
    generalize World.alloc w _ = W1 at *
    go_quiet (fail)
    go_wp2
    go_ret
    exact ⟨rfl, below_drewN HB.out _⟩
  · have HP := HTH.out (!d.bz) (by simp)
    rw [HP]
    clear HP HTH
    go_enter Try.func13, Try.ntmps13
    go_wp2_with (fail)
    generalize World.alloc w _ = W1 at *
    go_quiet (fail)
    go_wp2
    go_ret
    exact ⟨rfl, below_drewN HB.out _⟩
  · have HP := HTH.out (!d.bz) (by simp)
    rw [HP]
    clear HP HTH
    go_enter Try.func13, Try.ntmps13
    go_wp2_with (fail)
    generalize World.alloc w _ = W1 at *
    go_quiet (fail)
    go_wp2
    go_ret
    exact ⟨rfl, below_drewN HB.out _⟩
  · cases hz : d.bz
    · rw [hz] at c8
      have HP := HTH.out false (by simp [hz])
      rw [HP]
      clear HP HTH hz
      go_enter Try.func13, Try.ntmps13
      go_wp2_with (fail)
      generalize World.alloc w _ = W1 at *
      go_quiet (fail)
      have hb2 : Below W1.heap.size W1 (W1.drewN nq) := below_drewN (Below.refl _ _) nq
      have HB2 : Hid (_) := HB.out.trans (hb2.mono HB.out.size)
      have c8' : (W1.drewN nq).cell? ⟨db, 8, none⟩ = some (.bool false) := c8
      have c10' : (W1.drewN nq).cell? ⟨db, 10, none⟩ = some (.int .i64 d.by_) := c10
      have c11' : (W1.drewN nq).cell? ⟨db, 11, none⟩ = some wv := c11
      have c12' : (W1.drewN nq).cell? ⟨db, 12, none⟩ = some (.int .i64 d.fr) := c12
      have m2' := (hb2.cell (p := ⟨w.heap.size, 2, none⟩) HM.out).trans m2; have m0' := (hb2.cell (p := ⟨w.heap.size, 0, none⟩) HM.out).trans m0
      have HH2 : Hid (_) := HH.out.below hb2
      clear c0 c1 c8 c10 c11 c12 m0 m1 m2 m3 hb2 HB HH
      generalize W1.drewN nq = W2 at *
      go_wp2_with (fail)
      go_quiet (fail)
      go_wp2
      go_ret
      exact ⟨rfl, below_drewN HB2.out _⟩
    · rw [hz] at c8
      have HP := HTH.out (decide (f ∈ d.ws)) (by simp [hz])
      rw [HP]
      clear HP HTH hz
      go_enter Try.func13, Try.ntmps13
      go_wp2_with (fail)
      generalize World.alloc w _ = W1 at *
      go_quiet (fail)
      have hb2 : Below W1.heap.size W1 (W1.drewN nq) := below_drewN (Below.refl _ _) nq
      have HB2 : Hid (_) := HB.out.trans (hb2.mono HB.out.size)
      have c8' : (W1.drewN nq).cell? ⟨db, 8, none⟩ = some (.bool true) := c8
      have c10' : (W1.drewN nq).cell? ⟨db, 10, none⟩ = some (.int .i64 d.by_) := c10
      have c11' : (W1.drewN nq).cell? ⟨db, 11, none⟩ = some wv := c11
      have c12' : (W1.drewN nq).cell? ⟨db, 12, none⟩ = some (.int .i64 d.fr) := c12
      have m2' := (hb2.cell (p := ⟨w.heap.size, 2, none⟩) HM.out).trans m2; have m0' := (hb2.cell (p := ⟨w.heap.size, 0, none⟩) HM.out).trans m0
      have HH2 : Hid (_) := HH.out.below hb2
      clear c0 c1 c8 c10 c11 c12 m0 m1 m2 m3 hb2 HB HH
      generalize W1.drewN nq = W2 at *
      obtain ⟨sl, rfl, _⟩ := HH2.out.oa.li hl
      have HC : Hid (∀ w', Below W2.heap.size W2 w' → Calls Try.prog 26 #[slV sl, .int .i64 f] w' fun e w'' => e = .returned (.bool (decide (f ∈ d.ws))) ∧ w'' = w') := fun w' hb' => by
        obtain ⟨sl2, e2, hL2⟩ := HH2.out.oa.li hl
        have : sl2 = sl := by cases sl; cases sl2; simp [slV] at e2; simp [e2]
        subst this
        exact (among_any _ _ f w' (hL2.below hb')).mono fun _ _ ⟨a, b⟩ => ⟨a, b.symm⟩
      generalize slV sl = vv at *
      generalize hres : decide (f ∈ d.ws) = res at *
      have HRes : Hid (decide (f ∈ d.ws) = res) := hres
      clear hres
      go_wp2_with (fail)
      go_quiet ((go_at_call 26; exact Calls.quiet_of_same (HC.out _ (below_drewN (Below.refl _ _) _))))
      go_wp2
      go_ret
      exact ⟨by rw [HRes.out]; rfl, below_drewN HB2.out _⟩
  · cases hz : d.bz
    · rw [hz] at c8
      have HP := HTH.out false (by simp [hz])
      rw [HP]
      clear HP HTH hz
      go_enter Try.func13, Try.ntmps13
      go_wp2_with (fail)
      generalize World.alloc w _ = W1 at *
      go_quiet (fail)
      have hb2 : Below W1.heap.size W1 (W1.drewN nq) := below_drewN (Below.refl _ _) nq
      have HB2 : Hid (_) := HB.out.trans (hb2.mono HB.out.size)
      have c8' : (W1.drewN nq).cell? ⟨db, 8, none⟩ = some (.bool false) := c8
      have c10' : (W1.drewN nq).cell? ⟨db, 10, none⟩ = some (.int .i64 d.by_) := c10
      have c11' : (W1.drewN nq).cell? ⟨db, 11, none⟩ = some wv := c11
      have c12' : (W1.drewN nq).cell? ⟨db, 12, none⟩ = some (.int .i64 d.fr) := c12
      have m2' := (hb2.cell (p := ⟨w.heap.size, 2, none⟩) HM.out).trans m2; have m0' := (hb2.cell (p := ⟨w.heap.size, 0, none⟩) HM.out).trans m0
      have HH2 : Hid (_) := HH.out.below hb2
      clear c0 c1 c8 c10 c11 c12 m0 m1 m2 m3 hb2 HB HH
      generalize W1.drewN nq = W2 at *
      go_wp2_with (fail)
      go_quiet (fail)
      go_wp2
      go_ret
      exact ⟨rfl, below_drewN HB2.out _⟩
    · rw [hz] at c8
      have HP := HTH.out (d.fr == f) (by simp [hz]; by_cases e : d.fr = f <;> simp [e])
      rw [HP]
      clear HP HTH hz
      go_enter Try.func13, Try.ntmps13
      go_wp2_with (fail)
      generalize World.alloc w _ = W1 at *
      go_quiet (fail)
      have hb2 : Below W1.heap.size W1 (W1.drewN nq) := below_drewN (Below.refl _ _) nq
      have HB2 : Hid (_) := HB.out.trans (hb2.mono HB.out.size)
      have c8' : (W1.drewN nq).cell? ⟨db, 8, none⟩ = some (.bool true) := c8
      have c10' : (W1.drewN nq).cell? ⟨db, 10, none⟩ = some (.int .i64 d.by_) := c10
      have c11' : (W1.drewN nq).cell? ⟨db, 11, none⟩ = some wv := c11
      have c12' : (W1.drewN nq).cell? ⟨db, 12, none⟩ = some (.int .i64 d.fr) := c12
      have m2' := (hb2.cell (p := ⟨w.heap.size, 2, none⟩) HM.out).trans m2; have m0' := (hb2.cell (p := ⟨w.heap.size, 0, none⟩) HM.out).trans m0
      have HH2 : Hid (_) := HH.out.below hb2
      clear c0 c1 c8 c10 c11 c12 m0 m1 m2 m3 hb2 HB HH
      generalize W1.drewN nq = W2 at *
      go_wp2_with (fail)
      go_quiet (fail)
      go_wp2
      go_ret
      exact ⟨rfl, below_drewN HB2.out _⟩
  · cases hz : d.bz
    · rw [hz] at c8
      have HP := HTH.out false (by simp [hz])
      rw [HP]
      clear HP HTH hz
      go_enter Try.func13, Try.ntmps13
      go_wp2_with (fail)
      generalize World.alloc w _ = W1 at *
      go_quiet (fail)
      have hb2 : Below W1.heap.size W1 (W1.drewN nq) := below_drewN (Below.refl _ _) nq
      have HB2 : Hid (_) := HB.out.trans (hb2.mono HB.out.size)
      have c8' : (W1.drewN nq).cell? ⟨db, 8, none⟩ = some (.bool false) := c8
      have c10' : (W1.drewN nq).cell? ⟨db, 10, none⟩ = some (.int .i64 d.by_) := c10
      have c11' : (W1.drewN nq).cell? ⟨db, 11, none⟩ = some wv := c11
      have c12' : (W1.drewN nq).cell? ⟨db, 12, none⟩ = some (.int .i64 d.fr) := c12
      have m2' := (hb2.cell (p := ⟨w.heap.size, 2, none⟩) HM.out).trans m2; have m0' := (hb2.cell (p := ⟨w.heap.size, 0, none⟩) HM.out).trans m0
      have HH2 : Hid (_) := HH.out.below hb2
      clear c0 c1 c8 c10 c11 c12 m0 m1 m2 m3 hb2 HB HH
      generalize W1.drewN nq = W2 at *
      go_wp2_with (fail)
      go_quiet (fail)
      go_wp2
      go_ret
      exact ⟨rfl, below_drewN HB2.out _⟩
    · rw [hz] at c8
      obtain ⟨a2, cap2, hv2, hcap2⟩ := HH.out.oa.len
      subst hv2
      cases hw : d.ws with
      | cons x0 l0 =>
        have hz' : ((x0 :: l0).length : Nat) = l0.length + 1 := rfl
        have HP := HTH.out false (by simp [hz, hw])
        rw [HP]
        clear HP HTH hz
        rw [hw] at c11 HH hcap2
        rw [hz'] at c11 HH hcap2
        clear hz'
        generalize hn5 : l0.length = n5 at *
        have hp5 : ((n5 + 1 : Nat) : Int) ≠ 0 := by omega
        have hp7 : (((n5 + 1 : Nat) : Int) == 0) = false := by simpa using hp5
        have hp8 : ((n5 : Int) + 1 == 0) = false := by simp; omega
        clear hw hn5
        go_enter Try.func13, Try.ntmps13
        go_wp2_with (fail)
        generalize World.alloc w _ = W1 at *
        go_quiet (fail)
        have hb2 : Below W1.heap.size W1 (W1.drewN nq) := below_drewN (Below.refl _ _) nq
        have HB2 : Hid (_) := HB.out.trans (hb2.mono HB.out.size)
        have c8' : (W1.drewN nq).cell? ⟨db, 8, none⟩ = some (.bool true) := c8
        have c10' : (W1.drewN nq).cell? ⟨db, 10, none⟩ = some (.int .i64 d.by_) := c10
        have c11' : (W1.drewN nq).cell? ⟨db, 11, none⟩ = some (.slice a2 (n5 + 1) cap2) := c11
        have c12' : (W1.drewN nq).cell? ⟨db, 12, none⟩ = some (.int .i64 d.fr) := c12
        have m2' := (hb2.cell (p := ⟨w.heap.size, 2, none⟩) HM.out).trans m2; have m0' := (hb2.cell (p := ⟨w.heap.size, 0, none⟩) HM.out).trans m0
        have HH2 : Hid (_) := HH.out.below hb2
        clear c0 c1 c8 c10 c11 c12 m0 m1 m2 m3 hb2 HB HH
        generalize W1.drewN nq = W2 at *
        go_wp2_with (fail)
        go_quiet (fail)
        go_wp2
        go_ret
        exact ⟨rfl, below_drewN HB2.out _⟩
      | nil =>
        rw [hw] at c11 HH hcap2
        have hz' : (([] : List Int).length : Nat) = 0 := rfl
        rw [hz'] at c11 HH hcap2
        clear hz'
        cases hf : decide (d.fr < 0)
        · have HP := HTH.out false (by rw [hf]; simp)
          rw [HP]
          clear HP HTH hz hw
          go_enter Try.func13, Try.ntmps13
          go_wp2_with (fail)
          generalize World.alloc w _ = W1 at *
          go_quiet (fail)
          have hb2 : Below W1.heap.size W1 (W1.drewN nq) := below_drewN (Below.refl _ _) nq
          have HB2 : Hid (_) := HB.out.trans (hb2.mono HB.out.size)
          have c8' : (W1.drewN nq).cell? ⟨db, 8, none⟩ = some (.bool true) := c8
          have c10' : (W1.drewN nq).cell? ⟨db, 10, none⟩ = some (.int .i64 d.by_) := c10
          have c11' : (W1.drewN nq).cell? ⟨db, 11, none⟩ = some (.slice a2 0 cap2) := c11
          have c12' : (W1.drewN nq).cell? ⟨db, 12, none⟩ = some (.int .i64 d.fr) := c12
          have m2' := (hb2.cell (p := ⟨w.heap.size, 2, none⟩) HM.out).trans m2; have m0' := (hb2.cell (p := ⟨w.heap.size, 0, none⟩) HM.out).trans m0
          have HH2 : Hid (_) := HH.out.below hb2
          clear c0 c1 c8 c10 c11 c12 m0 m1 m2 m3 hb2 HB HH
          generalize W1.drewN nq = W2 at *
          go_wp2_with (fail)
          go_quiet (fail)
          go_wp2
          go_ret
          exact ⟨rfl, below_drewN HB2.out _⟩
        · have HP := HTH.out (d.by_ == f) (by rw [hf]; simp [hz, hw]; by_cases e : d.by_ = f <;> simp [e])
          rw [HP]
          clear HP HTH hz hw
          go_enter Try.func13, Try.ntmps13
          go_wp2_with (fail)
          generalize World.alloc w _ = W1 at *
          go_quiet (fail)
          have hb2 : Below W1.heap.size W1 (W1.drewN nq) := below_drewN (Below.refl _ _) nq
          have HB2 : Hid (_) := HB.out.trans (hb2.mono HB.out.size)
          have c8' : (W1.drewN nq).cell? ⟨db, 8, none⟩ = some (.bool true) := c8
          have c10' : (W1.drewN nq).cell? ⟨db, 10, none⟩ = some (.int .i64 d.by_) := c10
          have c11' : (W1.drewN nq).cell? ⟨db, 11, none⟩ = some (.slice a2 0 cap2) := c11
          have c12' : (W1.drewN nq).cell? ⟨db, 12, none⟩ = some (.int .i64 d.fr) := c12
          have m2' := (hb2.cell (p := ⟨w.heap.size, 2, none⟩) HM.out).trans m2; have m0' := (hb2.cell (p := ⟨w.heap.size, 0, none⟩) HM.out).trans m0
          have HH2 : Hid (_) := HH.out.below hb2
          clear c0 c1 c8 c10 c11 c12 m0 m1 m2 m3 hb2 HB HH
          generalize W1.drewN nq = W2 at *
          go_wp2_with (fail)
          go_quiet (fail)
          go_wp2
          go_ret
          exact ⟨rfl, below_drewN HB2.out _⟩
  · have HP := HTH.out false (by rw [if_neg (by omega), if_neg n10, if_neg n11, if_neg n12])
    rw [HP]
    clear HP HTH
    have k1 : (k == 1) = false := by simpa using n1
    have k2 : (k == 2) = false := by simpa using n2
    have k3 : (k == 3) = false := by simpa using n3
    have k10 : (k == 10) = false := by simpa using n10
    have k11 : (k == 11) = false := by simpa using n11
    have k12 : (k == 12) = false := by simpa using n12
    clear n1 n2 n3 n10 n11 n12
    go_enter Try.func13, Try.ntmps13
    go_wp2_with (fail)
    generalize World.alloc w _ = W1 at *
    go_quiet (fail)
    go_wp2_with (fail)
    go_ret
    exact ⟨rfl, below_drewN HB.out _⟩

theorem dtakes_any (H : Dh n0 db d sv wv w) (hl : d.ws.length ≤ 4096) (m : W.Mg) (hr : -9223372036854775808 ≤ m.k ∧ m.k ≤ 9223372036854775807) : Calls Try.prog 13 #[.pointer (some ⟨db, 0, none⟩), mgV m] w fun e w' => e = .returned (.bool (W.dtk d m)) ∧ Below w.heap.size w w' := by
  by_cases h : m.l ≠ d.ln ∨ m.t ≠ -1 ∨ m.f < 0 ∨ d.hs ≤ m.f
  · have : W.dtk d m = false := by unfold W.dtk; rw [if_pos h]
    rw [this]
    exact dtakes_no H m h
  · have h' : m.l = d.ln ∧ m.t = -1 ∧ 0 ≤ m.f ∧ m.f < d.hs := by
      refine ⟨?_, ?_, ?_, ?_⟩
      · by_cases e : m.l = d.ln
        · exact e
        · exact absurd (Or.inl e) h
      · omega
      · omega
      · omega
    exact dtakes_yes H hl m h'.1 h'.2.1 h'.2.2.1 h'.2.2.2 hr
end Go.Proofs.Ythkielaicnmaeaa
