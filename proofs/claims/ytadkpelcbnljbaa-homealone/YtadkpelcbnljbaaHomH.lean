/- home: Takes. -/
import Derived.Test.YtadkpelcbnljbaaHomG
namespace Go.Proofs.Ytadkpelcbnljbaa
open Go.ChangeShapes Go.WideShapes Go.ChangeAt Go.RowKit
set_option linter.unusedVariables false
set_option linter.unusedSimpArgs false
attribute [local go_sem ↓] ldM_eq stM_eq bdM_eq bsM_eq
variable {n0 hb : Nat} {s s' : W.Hm} {sv av sv' av' sv'' av'' : Value} {w w' w'' : World}

theorem takes_no (H : Ho n0 hb s sv av w) (m : W.Mg) (hq : m.l ≠ s.ln ∨ m.t ≠ -1 ∨ m.f < 0 ∨ s.hs ≤ m.f) : Calls Try.prog 12 #[.pointer (some ⟨hb, 0, none⟩), mgV m] w fun e w' => e = .returned (.bool false) ∧ Below w.heap.size w w' := by
  have hba := below_alloc w (.cells (mgL m).toArray 35)
  have H1 := H.below hba
  have hm := msgAt_new w m
  have c0 : (w.alloc (.cells (mgL m).toArray 35)).cell? ⟨hb, 0, none⟩ = some (.int .i64 s.ln) := H1.c 0 (by decide)
  have c1 : (w.alloc (.cells (mgL m).toArray 35)).cell? ⟨hb, 1, none⟩ = some (.int .i64 s.hs) := H1.c 1 (by decide)
  have m1 : (w.alloc (.cells (mgL m).toArray 35)).cell? ⟨w.heap.size, 1, none⟩ = some (.int .i64 m.l) := hm.cAt 1
  have m2 : (w.alloc (.cells (mgL m).toArray 35)).cell? ⟨w.heap.size, 2, none⟩ = some (.int .i64 m.f) := hm.cAt 2
  have m3 : (w.alloc (.cells (mgL m).toArray 35)).cell? ⟨w.heap.size, 3, none⟩ = some (.int .i64 m.t) := hm.cAt 3
  have HB : Hid (_) := hba
  clear H H1 hba hm
  unfold mgV
  unfold mgL at *
  obtain ⟨k, l, f, t, d0, d1, d2, d3, h, d, a⟩ := m
  dsimp only at *
  by_cases e1 : l = s.ln
  · have q1 : (l != s.ln) = false := by simp [e1]
    by_cases e2 : t = -1
    · subst e2
      by_cases e3 : f < 0
      · have q3 : decide (f < 0) = true := decide_eq_true e3
        clear hq e1
        go_enter Try.func12, Try.ntmps12
        go_wp2_with (fail)
        generalize World.alloc w _ = W1 at *
        go_quiet (fail)
        go_wp2
        go_ret
        exact ⟨rfl, below_drewN HB.out _⟩
      · have q3 : decide (f < 0) = false := decide_eq_false e3
        have e4 : s.hs ≤ f := by
          rcases hq with h | h | h | h
          · exact absurd e1 h
          · exact absurd rfl h
          · exact absurd h e3
          · exact h
        have q4 : decide (s.hs ≤ f) = true := decide_eq_true e4
        clear hq e1
        go_enter Try.func12, Try.ntmps12
        go_wp2_with (fail)
        generalize World.alloc w _ = W1 at *
        go_quiet (fail)
        go_wp2
        go_ret
        exact ⟨rfl, below_drewN HB.out _⟩
    · have q2 : (t != -1) = true := by simpa using e2
      clear hq e1
      go_enter Try.func12, Try.ntmps12
      go_wp2_with (fail)
      generalize World.alloc w _ = W1 at *
      go_quiet (fail)
      go_wp2
      go_ret
      exact ⟨rfl, below_drewN HB.out _⟩
  · have q1 : (l != s.ln) = true := by simpa using e1
    clear hq e1
    go_enter Try.func12, Try.ntmps12
    go_wp2_with (fail)
    generalize World.alloc w _ = W1 at *
    go_quiet (fail)
    go_wp2
    go_ret
    exact ⟨rfl, below_drewN HB.out _⟩

set_option maxHeartbeats 1600000 in
theorem takes_yes (H : Ho n0 hb s sv av w) (hl : s.ac.length ≤ 4096) (m : W.Mg) (e1 : m.l = s.ln) (e2 : m.t = -1) (e3 : 0 ≤ m.f) (e4 : m.f < s.hs) (hr : -9223372036854775808 ≤ m.k ∧ m.k ≤ 9223372036854775807) : Calls Try.prog 12 #[.pointer (some ⟨hb, 0, none⟩), mgV m] w fun e w' => e = .returned (.bool (W.tk s m)) ∧ Below w.heap.size w w' := by
  have hba := below_alloc w (.cells (mgL m).toArray 35)
  have H1 := H.below hba
  have hm := msgAt_new w m
  have HT : Hid (W.tk s m = (if m.k = 1 ∨ m.k = 2 ∨ m.k = 3 then decide (s.sv = -1) else if m.k = 10 then decide (m.f ∈ s.ac) else if m.k = 11 then decide (m.f = s.te) else if m.k = 12 then decide (m.f = s.sv) && !W.wt s else false)) := by
    show W.tk s m = _
    unfold W.tk
    rw [if_neg (by omega)]
  have c0 : (w.alloc (.cells (mgL m).toArray 35)).cell? ⟨hb, 0, none⟩ = some (.int .i64 s.ln) := H1.c 0 (by decide)
  have c1 : (w.alloc (.cells (mgL m).toArray 35)).cell? ⟨hb, 1, none⟩ = some (.int .i64 s.hs) := H1.c 1 (by decide)
  have c8 : (w.alloc (.cells (mgL m).toArray 35)).cell? ⟨hb, 8, none⟩ = some (.int .i64 s.sv) := H1.c 8 (by decide)
  have c10 : (w.alloc (.cells (mgL m).toArray 35)).cell? ⟨hb, 10, none⟩ = some av := H1.c 10 (by decide)
  have c11 : (w.alloc (.cells (mgL m).toArray 35)).cell? ⟨hb, 11, none⟩ = some (.int .i64 s.te) := H1.c 11 (by decide)
  have m0 : (w.alloc (.cells (mgL m).toArray 35)).cell? ⟨w.heap.size, 0, none⟩ = some (.int .i64 m.k) := hm.cAt 0
  have m1 : (w.alloc (.cells (mgL m).toArray 35)).cell? ⟨w.heap.size, 1, none⟩ = some (.int .i64 m.l) := hm.cAt 1
  have m2 : (w.alloc (.cells (mgL m).toArray 35)).cell? ⟨w.heap.size, 2, none⟩ = some (.int .i64 m.f) := hm.cAt 2
  have m3 : (w.alloc (.cells (mgL m).toArray 35)).cell? ⟨w.heap.size, 3, none⟩ = some (.int .i64 m.t) := hm.cAt 3
  have HB : Hid (_) := hba
  have HM : Hid (w.heap.size < (w.alloc (.cells (mgL m).toArray 35)).heap.size) := (by simp : w.heap.size < (w.alloc (.cells (mgL m).toArray 35)).heap.size)
  have HH : Hid (Ho n0 hb s sv av (w.alloc (.cells (mgL m).toArray 35))) := H1
  clear H H1 hba hm
  unfold mgV
  unfold mgL at *
  obtain ⟨k, l, f, t, d0, d1, d2, d3, h, d, a⟩ := m
  dsimp only at *
  subst e2
  have HTT : ∀ b, (if k = 1 ∨ k = 2 ∨ k = 3 then decide (s.sv = -1) else if k = 10 then decide (f ∈ s.ac) else if k = 11 then decide (f = s.te) else if k = 12 then decide (f = s.sv) && !W.wt s else false) = b → W.tk s ⟨k, l, f, -1, d0, d1, d2, d3, h, d, a⟩ = b := fun b hb => HT.out.trans hb
  have HTH : Hid (_) := HTT
  clear HT HTT
  have q1 : (l != s.ln) = false := by simp [e1]
  have q3 : decide (f < 0) = false := decide_eq_false (by omega)
  have q4 : decide (s.hs ≤ f) = false := decide_eq_false (by omega)
  clear e1 e3 e4
  have hk : k = 1 ∨ k = 2 ∨ k = 3 ∨ k = 10 ∨ k = 11 ∨ k = 12 ∨ (k ≠ 1 ∧ k ≠ 2 ∧ k ≠ 3 ∧ k ≠ 10 ∧ k ≠ 11 ∧ k ≠ 12) := by omega
  rcases hk with rfl | rfl | rfl | rfl | rfl | rfl | ⟨n1, n2, n3, n10, n11, n12⟩
  · have HP := HTH.out (!(s.sv != -1)) (by by_cases e : s.sv = -1 <;> simp [e])
    rw [HP]
    clear HP HTH
    go_enter Try.func12, Try.ntmps12
    go_wp2_with (fail)
    generalize World.alloc w _ = W1 at *
    go_quiet (fail)
    have HHD : Hid (∀ n, Ho n0 hb s sv av (W1.drewN n)) := fun n => HH.out.below (below_drewN (Below.refl _ _) n)
    go_wp2_with (fail)
    refine (busy_any (HHD.out _)).mono ?_
    rintro e w2 ⟨rfl, rfl⟩
    go_wp2
    go_ret
    exact ⟨rfl, below_drewN HB.out _⟩
  · have HP := HTH.out (!(s.sv != -1)) (by by_cases e : s.sv = -1 <;> simp [e])
    rw [HP]
    clear HP HTH
    go_enter Try.func12, Try.ntmps12
    go_wp2_with (fail)
    generalize World.alloc w _ = W1 at *
    go_quiet (fail)
    have HHD : Hid (∀ n, Ho n0 hb s sv av (W1.drewN n)) := fun n => HH.out.below (below_drewN (Below.refl _ _) n)
    go_wp2_with (fail)
    refine (busy_any (HHD.out _)).mono ?_
    rintro e w2 ⟨rfl, rfl⟩
    go_wp2
    go_ret
    exact ⟨rfl, below_drewN HB.out _⟩
  · have HP := HTH.out (!(s.sv != -1)) (by by_cases e : s.sv = -1 <;> simp [e])
    rw [HP]
    clear HP HTH
    go_enter Try.func12, Try.ntmps12
    go_wp2_with (fail)
    generalize World.alloc w _ = W1 at *
    go_quiet (fail)
    have HHD : Hid (∀ n, Ho n0 hb s sv av (W1.drewN n)) := fun n => HH.out.below (below_drewN (Below.refl _ _) n)
    go_wp2_with (fail)
    refine (busy_any (HHD.out _)).mono ?_
    rintro e w2 ⟨rfl, rfl⟩
    go_wp2
    go_ret
    exact ⟨rfl, below_drewN HB.out _⟩
  · have HP := HTH.out (decide (f ∈ s.ac)) (by simp)
    rw [HP]
    clear HP HTH
    go_enter Try.func12, Try.ntmps12
    go_wp2_with (fail)
    generalize World.alloc w _ = W1 at *
    go_quiet (fail)
    have hb2 : Below W1.heap.size W1 (W1.drewN nq) := below_drewN (Below.refl _ _) nq
    have HB2 : Hid (_) := HB.out.trans (hb2.mono HB.out.size)
    have c8' := (HH.out.below hb2).c 8 (by decide)
    have c10' := (HH.out.below hb2).c 10 (by decide)
    have m2' := (hb2.cell (p := ⟨w.heap.size, 2, none⟩) HM.out).trans m2; have m0' := (hb2.cell (p := ⟨w.heap.size, 0, none⟩) HM.out).trans m0
    have HH2 : Hid (_) := HH.out.below hb2
    dsimp only [hoF] at c8' c10'
    clear c0 c1 c8 c10 c11 m0 m1 m2 m3 hb2 HB HH
    generalize W1.drewN nq = W2 at *
    obtain ⟨sl, rfl, _⟩ := HH2.out.oa.li hl
    have HC : Hid (∀ w', Below W2.heap.size W2 w' → Calls Try.prog 24 #[slV sl, .int .i64 f] w' fun e w'' => e = .returned (.bool (decide (f ∈ s.ac))) ∧ w'' = w') := fun w' hb' => by
      obtain ⟨sl2, e2, hL2⟩ := HH2.out.oa.li hl
      have : sl2 = sl := by cases sl; cases sl2; simp [slV] at e2; simp [e2]
      subst this
      exact (contains_any _ _ f w' (hL2.below hb')).mono fun _ _ ⟨a, b⟩ => ⟨a, b.symm⟩
    generalize slV sl = vv at *
    generalize hres : decide (f ∈ s.ac) = res at *
    have HRes : Hid (decide (f ∈ s.ac) = res) := hres
    clear hres
    go_wp2_with (fail)
    go_quiet ((go_at_call 24; exact Calls.quiet_of_same (HC.out _ (below_drewN (Below.refl _ _) _))))
    go_wp2
    go_ret
    exact ⟨by rw [HRes.out]; rfl, below_drewN HB2.out _⟩
  · have HP := HTH.out (f == s.te) (by simp; by_cases e : f = s.te <;> simp [e])
    rw [HP]
    clear HP HTH
    go_enter Try.func12, Try.ntmps12
    go_wp2_with (fail)
    generalize World.alloc w _ = W1 at *
    go_quiet (fail)
    have HHD : Hid (∀ n, Ho n0 hb s sv av (W1.drewN n)) := fun n => HH.out.below (below_drewN (Below.refl _ _) n)
    clear HHD
    go_wp2_with (fail)
    go_quiet (fail)
    go_wp2
    go_ret
    exact ⟨rfl, below_drewN (below_drewN HB.out _) _⟩
  · cases hv : (f == s.sv)
    · have HP := HTH.out false (by simp at hv; simp [hv])
      rw [HP]
      clear HP HTH
      go_enter Try.func12, Try.ntmps12
      go_wp2_with (fail)
      generalize World.alloc w _ = W1 at *
      go_quiet (fail)
      have HHD : Hid (∀ n, Ho n0 hb s sv av (W1.drewN n)) := fun n => HH.out.below (below_drewN (Below.refl _ _) n)
      clear HHD
      go_wp2_with (fail)
      go_quiet (fail)
      go_wp2
      go_ret
      exact ⟨rfl, below_drewN (below_drewN HB.out _) _⟩
    · have HP := HTH.out (!W.wt s) (by simp at hv; simp [hv])
      rw [HP]
      clear HP HTH
      go_enter Try.func12, Try.ntmps12
      go_wp2_with (fail)
      generalize World.alloc w _ = W1 at *
      go_quiet (fail)
      have hb2 : Below W1.heap.size W1 (W1.drewN nq) := below_drewN (Below.refl _ _) nq
      have HB2 : Hid (_) := HB.out.trans (hb2.mono HB.out.size)
      have c8' := (HH.out.below hb2).c 8 (by decide)
      have c10' := (HH.out.below hb2).c 10 (by decide)
      have m2' := (hb2.cell (p := ⟨w.heap.size, 2, none⟩) HM.out).trans m2; have m0' := (hb2.cell (p := ⟨w.heap.size, 0, none⟩) HM.out).trans m0
      have HH2 : Hid (_) := HH.out.below hb2
      dsimp only [hoF] at c8' c10'
      clear c0 c1 c8 c10 c11 m0 m1 m2 m3 hb2 HB HH
      generalize W1.drewN nq = W2 at *
      have HW : Hid (∀ w', Below W2.heap.size W2 w' → Calls Try.prog 25 #[.pointer (some ⟨hb, 0, none⟩)] w' fun e w'' => e = .returned (.bool (W.wt s)) ∧ w'' = w') := fun w' hb' => (waits_any (HH2.out.below hb')).mono fun _ _ ⟨a, b⟩ => ⟨a, b.symm⟩
      generalize hres : W.wt s = res at *
      have HRes : Hid (W.wt s = res) := hres
      clear hres
      go_wp2_with (fail)
      go_quiet ((go_at_call 25; exact Calls.quiet_of_same (HW.out _ (below_drewN (Below.refl _ _) _))))
      go_wp2
      go_ret
      exact ⟨by rw [HRes.out]; rfl, below_drewN HB2.out _⟩
  · have HP := HTH.out false (by rw [if_neg (by omega), if_neg n10, if_neg n11, if_neg n12])
    rw [HP]
    clear HP HTH
    have k1 : (k == 1) = false := by simpa using n1
    have k2 : (k == 2) = false := by simpa using n2
    have k3 : (k == 3) = false := by simpa using n3
    have k10 : (k == 10) = false := by simpa using n10
    have k11 : (k == 11) = false := by simpa using n11
    have k12 : (k == 12) = false := by simpa using n12
    clear n1 n2 n3 n10 n11 n12
    go_enter Try.func12, Try.ntmps12
    go_wp2_with (fail)
    generalize World.alloc w _ = W1 at *
    go_quiet (fail)
    have HHD : Hid (∀ n, Ho n0 hb s sv av (W1.drewN n)) := fun n => HH.out.below (below_drewN (Below.refl _ _) n)
    clear HHD
    go_wp2_with (fail)
    go_ret
    exact ⟨rfl, below_drewN HB.out _⟩

theorem takes_any (H : Ho n0 hb s sv av w) (hl : s.ac.length ≤ 4096) (m : W.Mg) (hr : -9223372036854775808 ≤ m.k ∧ m.k ≤ 9223372036854775807) : Calls Try.prog 12 #[.pointer (some ⟨hb, 0, none⟩), mgV m] w fun e w' => e = .returned (.bool (W.tk s m)) ∧ Below w.heap.size w w' := by
  by_cases h : m.l ≠ s.ln ∨ m.t ≠ -1 ∨ m.f < 0 ∨ s.hs ≤ m.f
  · have : W.tk s m = false := by unfold W.tk; rw [if_pos h]
    rw [this]
    exact takes_no H m h
  · have h' : m.l = s.ln ∧ m.t = -1 ∧ 0 ≤ m.f ∧ m.f < s.hs := by
      refine ⟨?_, ?_, ?_, ?_⟩
      · by_cases e : m.l = s.ln
        · exact e
        · exact absurd (Or.inl e) h
      · omega
      · omega
      · omega
    exact takes_yes H hl m h'.1 h'.2.1 h'.2.2.1 h'.2.2.2 hr
end Go.Proofs.Ytadkpelcbnljbaa
