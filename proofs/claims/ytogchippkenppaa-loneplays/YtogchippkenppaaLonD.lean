/- lone: Takes (made by mkD.py). -/
import Derived.Test.YtogchippkenppaaLonC
namespace Go.Proofs.Ytogchippkenppaa
open Go.ChangeShapes Go.WideShapes Go.ChangeAt Go.RowKit
set_option linter.unusedVariables false
set_option linter.unusedSimpArgs false
attribute [local go_sem ↓] ldM_eq stM_eq bdM_eq bsM_eq
variable {b : Nat} {w w' w'' : World}

theorem takes_no {s : W.Lo} (H : Lb b s w) (m : W.Mg) (hq : ¬ (m.l = s.ln ∧ m.t = s.ht ∧ m.f = -1)) : Calls Try.prog 18 #[.pointer (some ⟨b, 0, none⟩), mgV m] w fun e w' => e = .returned (.bool (s.tk m)) ∧ Below w.heap.size w w' := by
  have HT : Hid (s.tk m = false) := (show s.tk m = false by unfold W.Lo.tk; rw [if_neg hq])
  rw [HT.out]
  clear HT
  have hba := below_alloc w (.cells (mgL m).toArray 33)
  have H1 := H.below hba
  have hm := msgAt_new w m
  have c0 := H1.c0
  have c1 := H1.c1
  have cw := H1.c2
  have ch := H1.c3
  have m0 : (w.alloc (.cells (mgL m).toArray 33)).cell? ⟨w.heap.size, 0, none⟩ = some (.int .i64 m.k) := hm.cAt 0
  have m1 : (w.alloc (.cells (mgL m).toArray 33)).cell? ⟨w.heap.size, 1, none⟩ = some (.int .i64 m.l) := hm.cAt 1
  have m2 : (w.alloc (.cells (mgL m).toArray 33)).cell? ⟨w.heap.size, 2, none⟩ = some (.int .i64 m.f) := hm.cAt 2
  have m3 : (w.alloc (.cells (mgL m).toArray 33)).cell? ⟨w.heap.size, 3, none⟩ = some (.int .i64 m.t) := hm.cAt 3
  have HB : Hid (_) := hba
  clear H H1 hba hm
  unfold mgV
  unfold mgL at *
  obtain ⟨k, l, f, t, d0, d1, d2, d3, h, d, a⟩ := m
  dsimp only at *
  by_cases e1 : l = s.ln
  · have q1 : (l != s.ln) = false := by simp [e1]
    by_cases e2 : t = s.ht
    · have q2 : (t != s.ht) = false := by simp [e2]
      have q3 : (f != -1) = true := by
        have : ¬ f = -1 := fun e3 => hq ⟨e1, e2, e3⟩
        simpa using this
      clear hq e1 e2
      go_enter Try.func18, Try.ntmps18
      go_wp2_with (fail)
      generalize World.alloc w _ = W1 at *
      go_quiet (fail)
      go_wp2
      go_ret
      exact ⟨rfl, below_drewN HB.out _⟩
    · have q2 : (t != s.ht) = true := by simpa using e2
      clear hq e1 e2
      go_enter Try.func18, Try.ntmps18
      go_wp2_with (fail)
      generalize World.alloc w _ = W1 at *
      go_quiet (fail)
      go_wp2
      go_ret
      exact ⟨rfl, below_drewN HB.out _⟩
  · have q1 : (l != s.ln) = true := by simpa using e1
    clear hq e1
    go_enter Try.func18, Try.ntmps18
    go_wp2_with (fail)
    generalize World.alloc w _ = W1 at *
    go_quiet (fail)
    go_wp2
    go_ret
    exact ⟨rfl, below_drewN HB.out _⟩

set_option maxHeartbeats 1600000 in
theorem takes_any {s : W.Lo} (H : Lb b s w) (m : W.Mg) : Calls Try.prog 18 #[.pointer (some ⟨b, 0, none⟩), mgV m] w fun e w' => e = .returned (.bool (s.tk m)) ∧ Below w.heap.size w w' := by
  by_cases hq : m.l = s.ln ∧ m.t = s.ht ∧ m.f = -1
  case neg => exact takes_no H m hq
  have HT : Hid (s.tk m = (if m.k = 4 ∨ m.k = 5 ∨ m.k = 6 then true else if m.k = 7 then (if s.wt = 1 ∨ s.wt = 2 then true else false) else if m.k = 8 then (if s.wt = 2 ∧ s.hd ≠ 0 then true else false) else if m.k = 9 then (if s.wt = 3 then true else false) else false)) := (show s.tk m = _ by unfold W.Lo.tk; rw [if_pos hq])
  rw [HT.out]
  clear HT
  have hba := below_alloc w (.cells (mgL m).toArray 33)
  have H1 := H.below hba
  have hm := msgAt_new w m
  have c0 := H1.c0
  have c1 := H1.c1
  have cw := H1.c2
  have ch := H1.c3
  have m0 : (w.alloc (.cells (mgL m).toArray 33)).cell? ⟨w.heap.size, 0, none⟩ = some (.int .i64 m.k) := hm.cAt 0
  have m1 : (w.alloc (.cells (mgL m).toArray 33)).cell? ⟨w.heap.size, 1, none⟩ = some (.int .i64 m.l) := hm.cAt 1
  have m2 : (w.alloc (.cells (mgL m).toArray 33)).cell? ⟨w.heap.size, 2, none⟩ = some (.int .i64 m.f) := hm.cAt 2
  have m3 : (w.alloc (.cells (mgL m).toArray 33)).cell? ⟨w.heap.size, 3, none⟩ = some (.int .i64 m.t) := hm.cAt 3
  have HB : Hid (_) := hba
  clear H H1 hba hm
  unfold mgV
  unfold mgL at *
  obtain ⟨k, l, f, t, d0, d1, d2, d3, h, d, a⟩ := m
  dsimp only at *
  have q1 : (l != s.ln) = false := by simp [hq.1]
  have q2 : (t != s.ht) = false := by simp [hq.2.1]
  have q3 : (f != -1) = false := by simp [hq.2.2]
  clear hq
  generalize s.wt = wt at *
  generalize s.hd = hd at *
  have hk : k = 4 ∨ k = 5 ∨ k = 6 ∨ k = 7 ∨ k = 8 ∨ k = 9 ∨ (k ≠ 4 ∧ k ≠ 5 ∧ k ≠ 6 ∧ k ≠ 7 ∧ k ≠ 8 ∧ k ≠ 9) := by omega
  rcases hk with rfl | rfl | rfl | rfl | rfl | rfl | ⟨n4, n5, n6, n7, n8, n9⟩
  · rw [if_pos (by decide)]
    go_enter Try.func18, Try.ntmps18
    go_wp2_with (fail)
    generalize World.alloc w _ = W1 at *
    go_quiet (fail)
    go_wp2
    go_ret
    exact ⟨rfl, below_drewN HB.out _⟩
  · rw [if_pos (by decide)]
    go_enter Try.func18, Try.ntmps18
    go_wp2_with (fail)
    generalize World.alloc w _ = W1 at *
    go_quiet (fail)
    go_wp2
    go_ret
    exact ⟨rfl, below_drewN HB.out _⟩
  · rw [if_pos (by decide)]
    go_enter Try.func18, Try.ntmps18
    go_wp2_with (fail)
    generalize World.alloc w _ = W1 at *
    go_quiet (fail)
    go_wp2
    go_ret
    exact ⟨rfl, below_drewN HB.out _⟩
  · rw [if_neg (by decide), if_pos rfl]
    by_cases a1 : wt = 1
    · subst a1
      rw [if_pos (Or.inl rfl)]
      go_enter Try.func18, Try.ntmps18
      go_wp2_with (fail)
      generalize World.alloc w _ = W1 at *
      go_quiet (fail)
      go_wp2
      go_ret
      exact ⟨rfl, below_drewN HB.out _⟩
    · have b1 : (wt == 1) = false := by simpa using a1
      by_cases a2 : wt = 2
      · subst a2
        rw [if_pos (Or.inr rfl)]
        clear a1 b1
        go_enter Try.func18, Try.ntmps18
        go_wp2_with (fail)
        generalize World.alloc w _ = W1 at *
        go_quiet (fail)
        go_wp2
        go_ret
        exact ⟨rfl, below_drewN HB.out _⟩
      · have b2 : (wt == 2) = false := by simpa using a2
        rw [if_neg (by omega)]
        clear a1 a2
        go_enter Try.func18, Try.ntmps18
        go_wp2_with (fail)
        generalize World.alloc w _ = W1 at *
        go_quiet (fail)
        go_wp2
        go_ret
        exact ⟨rfl, below_drewN HB.out _⟩
  · rw [if_neg (by decide), if_neg (by decide), if_pos rfl]
    by_cases a1 : wt = 2
    · subst a1
      by_cases a2 : hd = 0
      · subst a2
        rw [if_neg (by simp)]
        go_enter Try.func18, Try.ntmps18
        go_wp2_with (fail)
        generalize World.alloc w _ = W1 at *
        go_quiet (fail)
        go_wp2
        go_ret
        exact ⟨rfl, below_drewN HB.out _⟩
      · have b2 : (hd != 0) = true := by simpa using a2
        rw [if_pos ⟨rfl, a2⟩]
        clear a2
        go_enter Try.func18, Try.ntmps18
        go_wp2_with (fail)
        generalize World.alloc w _ = W1 at *
        go_quiet (fail)
        go_wp2
        go_ret
        exact ⟨rfl, below_drewN HB.out _⟩
    · have b1 : (wt == 2) = false := by simpa using a1
      rw [if_neg (fun e => a1 e.1)]
      clear a1
      go_enter Try.func18, Try.ntmps18
      go_wp2_with (fail)
      generalize World.alloc w _ = W1 at *
      go_quiet (fail)
      go_wp2
      go_ret
      exact ⟨rfl, below_drewN HB.out _⟩
  · rw [if_neg (by decide), if_neg (by decide), if_neg (by decide), if_pos rfl]
    by_cases a1 : wt = 3
    · subst a1
      rw [if_pos rfl]
      go_enter Try.func18, Try.ntmps18
      go_wp2_with (fail)
      generalize World.alloc w _ = W1 at *
      go_quiet (fail)
      go_wp2
      go_ret
      exact ⟨rfl, below_drewN HB.out _⟩
    · have b1 : (wt == 3) = false := by simpa using a1
      rw [if_neg a1]
      clear a1
      go_enter Try.func18, Try.ntmps18
      go_wp2_with (fail)
      generalize World.alloc w _ = W1 at *
      go_quiet (fail)
      go_wp2
      go_ret
      exact ⟨rfl, below_drewN HB.out _⟩
  · rw [if_neg (by omega), if_neg n7, if_neg n8, if_neg n9]
    have p4 : (k == 4) = false := by simpa using n4
    have p5 : (k == 5) = false := by simpa using n5
    have p6 : (k == 6) = false := by simpa using n6
    have p7 : (k == 7) = false := by simpa using n7
    have p8 : (k == 8) = false := by simpa using n8
    have p9 : (k == 9) = false := by simpa using n9
    clear n4 n5 n6 n7 n8 n9
    go_enter Try.func18, Try.ntmps18
    go_wp2_with (fail)
    generalize World.alloc w _ = W1 at *
    go_quiet (fail)
    go_wp2
    go_ret
    exact ⟨rfl, below_drewN HB.out _⟩

end Go.Proofs.Ytogchippkenppaa
