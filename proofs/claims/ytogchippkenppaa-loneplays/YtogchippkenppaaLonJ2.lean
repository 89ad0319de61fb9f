/- lone: the document's line: Take (made by mkJ.py). -/
import Derived.Test.YtogchippkenppaaLonJ
import Derived.Deep.CutRange
import Derived.Deep.CutBlock
namespace Go.Proofs.Ytogchippkenppaa
open Go.ChangeShapes Go.WideShapes Go.ChangeAt Go.RowKit
set_option linter.unusedVariables false
set_option linter.unusedSimpArgs false
attribute [local go_sem ↓] ldM_eq stM_eq bdM_eq bsM_eq
variable {b : Nat} {s s' s'' : W.Ld} {w w' w'' w2 : World}

set_option maxRecDepth 10000 in
set_option maxHeartbeats 800000 in
theorem t6A0 (H : Db b s w) (m : W.Mg) (hk : m.k = 6) (h0 : s.wt = 3) (h1 : s.st = 0) (h2 : s.kp = 0) : Calls Try.prog 20 #[.pointer (some ⟨b, 0, none⟩), mgV m] w fun e w' => ∃ sl, e = .returned (.tuple #[slV sl, .bool false]) ∧ ResD b ⟨s.ln, s.ht, 0, s.wt, s.e0, s.e1, s.e2, s.e3, 0⟩ [s.msg 11] sl w w' := by
  have hba := below_alloc w (.cells (mgL m).toArray 33)
  have H1 := H.below hba
  have hm := msgAt_new w m
  have m0 : (w.alloc (.cells (mgL m).toArray 33)).cell? ⟨w.heap.size, 0, none⟩ = some (.int .i64 m.k) := hm.cAt 0
  rw [hk] at m0
  have c2 := H1.c2
  have c3 := H1.c3
  have c8 := H1.c8
  have f2 := Rw.fz H1 2
  have f3 := Rw.fz H1 3
  have f8 := Rw.fz H1 8
  have HB : Hid (Db b s _ ∧ Up b w _ ∧ MsgAt w.heap.size m _) := ⟨H1, Up.of_below hba, hm⟩
  have hbw : Hid (b < w.heap.size) := H.lt
  have hk0 : Hid (s.wt = 3) := h0
  have hk1 : Hid (s.st = 0) := h1
  have hk2 : Hid (s.kp = 0) := h2
  rw [h0] at c3
  rw [h1] at c2
  rw [h2] at c8
  clear h0 h1 h2
  clear H hba H1 hm hk
  unfold mgV
  go_enter Try.func20, Try.ntmps20
  go_upto_region 1 with fail
  generalize World.alloc w _ = W1 at *
  go_wp2_with (fail)
  refine (dmsg_any HB.out.1 11).mono ?_
  rintro e w3 ⟨rfl, hb3⟩
  have h4 := HB.out.1.below (hb3.trans ((below_alloc w3 (.cells (mgL (s.msg 11)).toArray 33)).mono hb3.size))
  have HF : Hid (ResD b _ _ _ w _) := resD_one (HB.out.1.below hb3) (HB.out.2.1.lnew hb3) (s.msg 11)
  have bs := bsM_any (s.msg 11)
  have d2 := h4.c2
  have d3 := h4.c3
  have d8 := h4.c8
  have g2 := Rw.fz h4 2
  have g3 := Rw.fz h4 3
  have g8 := Rw.fz h4 8
  rw [hk0.out] at d3
  rw [hk1.out] at d2
  rw [hk2.out] at d8
  clear h4 hb3 HB hk0 hk1 hk2 c2 c3 c8 f2 f3 f8 m0
  go_wp2_with (fail)
  go_quiet (fail)
  go_wp2_with (fail)
  exact bodyPost_ret (by simp [results, Try.results20, asAddr, go_sem]; rfl) rfl ⟨_, rfl, ResD.drewN (ResD.kp (ResD.st (HF.out) hbw.out 0) hbw.out 0) _⟩

set_option maxRecDepth 10000 in
set_option maxHeartbeats 800000 in
theorem t6A1 (H : Db b s w) (m : W.Mg) (hk : m.k = 6) (h0 : s.wt = 3) (h1 : s.st = 0) (h2 : s.kp = 1) : Calls Try.prog 20 #[.pointer (some ⟨b, 0, none⟩), mgV m] w fun e w' => ∃ sl, e = .returned (.tuple #[slV sl, .bool false]) ∧ ResD b ⟨s.ln, s.ht, 0, s.wt, s.e0, s.e1, s.e2, s.e3, 0⟩ [s.msg 11] sl w w' := by
  have hba := below_alloc w (.cells (mgL m).toArray 33)
  have H1 := H.below hba
  have hm := msgAt_new w m
  have m0 : (w.alloc (.cells (mgL m).toArray 33)).cell? ⟨w.heap.size, 0, none⟩ = some (.int .i64 m.k) := hm.cAt 0
  rw [hk] at m0
  have c2 := H1.c2
  have c3 := H1.c3
  have c8 := H1.c8
  have f2 := Rw.fz H1 2
  have f3 := Rw.fz H1 3
  have f8 := Rw.fz H1 8
  have HB : Hid (Db b s _ ∧ Up b w _ ∧ MsgAt w.heap.size m _) := ⟨H1, Up.of_below hba, hm⟩
  have hbw : Hid (b < w.heap.size) := H.lt
  have hk0 : Hid (s.wt = 3) := h0
  have hk1 : Hid (s.st = 0) := h1
  have hk2 : Hid (s.kp = 1) := h2
  rw [h0] at c3
  rw [h1] at c2
  rw [h2] at c8
  clear h0 h1 h2
  clear H hba H1 hm hk
  unfold mgV
  go_enter Try.func20, Try.ntmps20
  go_upto_region 1 with fail
  generalize World.alloc w _ = W1 at *
  go_wp2_with (fail)
  refine (dmsg_any HB.out.1 11).mono ?_
  rintro e w3 ⟨rfl, hb3⟩
  have h4 := HB.out.1.below (hb3.trans ((below_alloc w3 (.cells (mgL (s.msg 11)).toArray 33)).mono hb3.size))
  have HF : Hid (ResD b _ _ _ w _) := resD_one (HB.out.1.below hb3) (HB.out.2.1.lnew hb3) (s.msg 11)
  have bs := bsM_any (s.msg 11)
  have d2 := h4.c2
  have d3 := h4.c3
  have d8 := h4.c8
  have g2 := Rw.fz h4 2
  have g3 := Rw.fz h4 3
  have g8 := Rw.fz h4 8
  rw [hk0.out] at d3
  rw [hk1.out] at d2
  rw [hk2.out] at d8
  clear h4 hb3 HB hk0 hk1 hk2 c2 c3 c8 f2 f3 f8 m0
  go_wp2_with (fail)
  go_quiet (fail)
  go_wp2_with (fail)
  exact bodyPost_ret (by simp [results, Try.results20, asAddr, go_sem]; rfl) rfl ⟨_, rfl, ResD.drewN (ResD.kp (ResD.st (HF.out) hbw.out 0) hbw.out 0) _⟩

set_option maxRecDepth 10000 in
set_option maxHeartbeats 800000 in
theorem t6Ax (H : Db b s w) (m : W.Mg) (hk : m.k = 6) (h0 : s.wt = 3) (h1 : s.st = 0) (h2 : s.kp ≠ 0) (h3 : s.kp ≠ 1) : Calls Try.prog 20 #[.pointer (some ⟨b, 0, none⟩), mgV m] w fun e w' => ∃ sl, e = .returned (.tuple #[slV sl, .bool false]) ∧ ResD b ⟨s.ln, s.ht, 0, s.wt, s.e0, s.e1, s.e2, s.e3, 0⟩ [s.full 11 s.kp] sl w w' := by
  have hba := below_alloc w (.cells (mgL m).toArray 33)
  have H1 := H.below hba
  have hm := msgAt_new w m
  have m0 : (w.alloc (.cells (mgL m).toArray 33)).cell? ⟨w.heap.size, 0, none⟩ = some (.int .i64 m.k) := hm.cAt 0
  rw [hk] at m0
  have c2 := H1.c2
  have c3 := H1.c3
  have c8 := H1.c8
  have f2 := Rw.fz H1 2
  have f3 := Rw.fz H1 3
  have f8 := Rw.fz H1 8
  have HB : Hid (Db b s _ ∧ Up b w _ ∧ MsgAt w.heap.size m _) := ⟨H1, Up.of_below hba, hm⟩
  have hbw : Hid (b < w.heap.size) := H.lt
  have hk0 : Hid (s.wt = 3) := h0
  have hk1 : Hid (s.st = 0) := h1
  have hk2 : Hid (s.kp ≠ 0) := h2
  have hk3 : Hid (s.kp ≠ 1) := h3
  rw [h0] at c3
  rw [h1] at c2
  have qe2 : (s.kp == 0) = false := by simpa using h2
  have qn2 : (s.kp != 0) = true := by simpa using h2
  have qe3 : (s.kp == 1) = false := by simpa using h3
  have qn3 : (s.kp != 1) = true := by simpa using h3
  clear h0 h1 h2 h3
  clear H hba H1 hm hk
  unfold mgV
  go_enter Try.func20, Try.ntmps20
  go_upto_region 1 with fail
  generalize World.alloc w _ = W1 at *
  go_wp2_with (fail)
  refine (dfull_any HB.out.1 11 s.kp).mono ?_
  rintro e w3 ⟨rfl, hb3⟩
  have h4 := HB.out.1.below (hb3.trans ((below_alloc w3 (.cells (mgL (s.full 11 s.kp)).toArray 33)).mono hb3.size))
  have HF : Hid (ResD b _ _ _ w _) := resD_one (HB.out.1.below hb3) (HB.out.2.1.lnew hb3) (s.full 11 s.kp)
  have bs := bsM_any (s.full 11 s.kp)
  have d2 := h4.c2
  have d3 := h4.c3
  have d8 := h4.c8
  have g2 := Rw.fz h4 2
  have g3 := Rw.fz h4 3
  have g8 := Rw.fz h4 8
  rw [hk0.out] at d3
  rw [hk1.out] at d2
  clear h4 hb3 HB hk0 hk1 hk2 hk3 c2 c3 c8 f2 f3 f8 m0
  go_wp2_with (fail)
  go_quiet (fail)
  go_wp2_with (fail)
  exact bodyPost_ret (by simp [results, Try.results20, asAddr, go_sem]; rfl) rfl ⟨_, rfl, ResD.drewN (ResD.kp (ResD.st (HF.out) hbw.out 0) hbw.out 0) _⟩

set_option maxRecDepth 10000 in
set_option maxHeartbeats 800000 in
theorem t6B (H : Db b s w) (m : W.Mg) (hk : m.k = 6) (h0 : s.wt ≠ 3) (h1 : s.st = 0) : Calls Try.prog 20 #[.pointer (some ⟨b, 0, none⟩), mgV m] w fun e w' => ∃ sl, e = .returned (.tuple #[slV sl, .bool false]) ∧ ResD b ⟨s.ln, s.ht, 0, s.wt, s.e0, s.e1, s.e2, s.e3, 0⟩ [s.msg 11] sl w w' := by
  have hba := below_alloc w (.cells (mgL m).toArray 33)
  have H1 := H.below hba
  have hm := msgAt_new w m
  have m0 : (w.alloc (.cells (mgL m).toArray 33)).cell? ⟨w.heap.size, 0, none⟩ = some (.int .i64 m.k) := hm.cAt 0
  rw [hk] at m0
  have c2 := H1.c2
  have c3 := H1.c3
  have c8 := H1.c8
  have f2 := Rw.fz H1 2
  have f3 := Rw.fz H1 3
  have f8 := Rw.fz H1 8
  have HB : Hid (Db b s _ ∧ Up b w _ ∧ MsgAt w.heap.size m _) := ⟨H1, Up.of_below hba, hm⟩
  have hbw : Hid (b < w.heap.size) := H.lt
  have hk0 : Hid (s.wt ≠ 3) := h0
  have hk1 : Hid (s.st = 0) := h1
  have qe0 : (s.wt == 3) = false := by simpa using h0
  have qn0 : (s.wt != 3) = true := by simpa using h0
  rw [h1] at c2
  clear h0 h1
  clear H hba H1 hm hk
  unfold mgV
  go_enter Try.func20, Try.ntmps20
  go_upto_region 1 with fail
  generalize World.alloc w _ = W1 at *
  go_wp2_with (fail)
  refine (dmsg_any HB.out.1 11).mono ?_
  rintro e w3 ⟨rfl, hb3⟩
  have h4 := HB.out.1.below (hb3.trans ((below_alloc w3 (.cells (mgL (s.msg 11)).toArray 33)).mono hb3.size))
  have HF : Hid (ResD b _ _ _ w _) := resD_one (HB.out.1.below hb3) (HB.out.2.1.lnew hb3) (s.msg 11)
  have bs := bsM_any (s.msg 11)
  have d2 := h4.c2
  have d3 := h4.c3
  have d8 := h4.c8
  have g2 := Rw.fz h4 2
  have g3 := Rw.fz h4 3
  have g8 := Rw.fz h4 8
  rw [hk1.out] at d2
  clear h4 hb3 HB hk0 hk1 c2 c3 c8 f2 f3 f8 m0
  go_wp2_with (fail)
  go_quiet (fail)
  go_wp2_with (fail)
  exact bodyPost_ret (by simp [results, Try.results20, asAddr, go_sem]; rfl) rfl ⟨_, rfl, ResD.drewN (ResD.kp (ResD.st (HF.out) hbw.out 0) hbw.out 0) _⟩

set_option maxRecDepth 10000 in
set_option maxHeartbeats 800000 in
theorem t6C1 (H : Db b s w) (m : W.Mg) (hk : m.k = 6) (h0 : s.wt ≠ 3) (h1 : s.st ≠ 0) (h2 : s.st = 1) : Calls Try.prog 20 #[.pointer (some ⟨b, 0, none⟩), mgV m] w fun e w' => ∃ sl, e = .returned (.tuple #[slV sl, .bool true]) ∧ ResD b ⟨s.ln, s.ht, 0, s.wt, s.e0, s.e1, s.e2, s.e3, 0⟩ [s.msg 11] sl w w' := by
  have hba := below_alloc w (.cells (mgL m).toArray 33)
  have H1 := H.below hba
  have hm := msgAt_new w m
  have m0 : (w.alloc (.cells (mgL m).toArray 33)).cell? ⟨w.heap.size, 0, none⟩ = some (.int .i64 m.k) := hm.cAt 0
  rw [hk] at m0
  have c2 := H1.c2
  have c3 := H1.c3
  have c8 := H1.c8
  have f2 := Rw.fz H1 2
  have f3 := Rw.fz H1 3
  have f8 := Rw.fz H1 8
  have HB : Hid (Db b s _ ∧ Up b w _ ∧ MsgAt w.heap.size m _) := ⟨H1, Up.of_below hba, hm⟩
  have hbw : Hid (b < w.heap.size) := H.lt
  have hk0 : Hid (s.wt ≠ 3) := h0
  have hk1 : Hid (s.st ≠ 0) := h1
  have hk2 : Hid (s.st = 1) := h2
  have qe0 : (s.wt == 3) = false := by simpa using h0
  have qn0 : (s.wt != 3) = true := by simpa using h0
  have qe1 : (s.st == 0) = false := by simpa using h1
  have qn1 : (s.st != 0) = true := by simpa using h1
  rw [h2] at c2
  clear h0 h1 h2
  clear H hba H1 hm hk
  unfold mgV
  go_enter Try.func20, Try.ntmps20
  go_upto_region 1 with fail
  generalize World.alloc w _ = W1 at *
  go_wp2_with (fail)
  refine (dmsg_any HB.out.1 11).mono ?_
  rintro e w3 ⟨rfl, hb3⟩
  have h4 := HB.out.1.below (hb3.trans ((below_alloc w3 (.cells (mgL (s.msg 11)).toArray 33)).mono hb3.size))
  have HF : Hid (ResD b _ _ _ w _) := resD_one (HB.out.1.below hb3) (HB.out.2.1.lnew hb3) (s.msg 11)
  have bs := bsM_any (s.msg 11)
  have d2 := h4.c2
  have d3 := h4.c3
  have d8 := h4.c8
  have g2 := Rw.fz h4 2
  have g3 := Rw.fz h4 3
  have g8 := Rw.fz h4 8
  rw [hk2.out] at d2
  clear h4 hb3 HB hk0 hk1 hk2 c2 c3 c8 f2 f3 f8 m0
  go_wp2_with (fail)
  go_quiet (fail)
  go_wp2_with (fail)
  exact bodyPost_ret (by simp [results, Try.results20, asAddr, go_sem]; rfl) rfl ⟨_, rfl, ResD.drewN (ResD.kp (ResD.st (HF.out) hbw.out 0) hbw.out 0) _⟩

set_option maxRecDepth 10000 in
set_option maxHeartbeats 800000 in
theorem t6Cx (H : Db b s w) (m : W.Mg) (hk : m.k = 6) (h0 : s.wt ≠ 3) (h1 : s.st ≠ 0) (h2 : s.st ≠ 1) : Calls Try.prog 20 #[.pointer (some ⟨b, 0, none⟩), mgV m] w fun e w' => ∃ sl, e = .returned (.tuple #[slV sl, .bool true]) ∧ ResD b ⟨s.ln, s.ht, 0, s.wt, s.e0, s.e1, s.e2, s.e3, 0⟩ [s.full 11 s.st] sl w w' := by
  have hba := below_alloc w (.cells (mgL m).toArray 33)
  have H1 := H.below hba
  have hm := msgAt_new w m
  have m0 : (w.alloc (.cells (mgL m).toArray 33)).cell? ⟨w.heap.size, 0, none⟩ = some (.int .i64 m.k) := hm.cAt 0
  rw [hk] at m0
  have c2 := H1.c2
  have c3 := H1.c3
  have c8 := H1.c8
  have f2 := Rw.fz H1 2
  have f3 := Rw.fz H1 3
  have f8 := Rw.fz H1 8
  have HB : Hid (Db b s _ ∧ Up b w _ ∧ MsgAt w.heap.size m _) := ⟨H1, Up.of_below hba, hm⟩
  have hbw : Hid (b < w.heap.size) := H.lt
  have hk0 : Hid (s.wt ≠ 3) := h0
  have hk1 : Hid (s.st ≠ 0) := h1
  have hk2 : Hid (s.st ≠ 1) := h2
  have qe0 : (s.wt == 3) = false := by simpa using h0
  have qn0 : (s.wt != 3) = true := by simpa using h0
  have qe1 : (s.st == 0) = false := by simpa using h1
  have qn1 : (s.st != 0) = true := by simpa using h1
  have qe2 : (s.st == 1) = false := by simpa using h2
  have qn2 : (s.st != 1) = true := by simpa using h2
  clear h0 h1 h2
  clear H hba H1 hm hk
  unfold mgV
  go_enter Try.func20, Try.ntmps20
  go_upto_region 1 with fail
  generalize World.alloc w _ = W1 at *
  go_wp2_with (fail)
  refine (dfull_any HB.out.1 11 s.st).mono ?_
  rintro e w3 ⟨rfl, hb3⟩
  have h4 := HB.out.1.below (hb3.trans ((below_alloc w3 (.cells (mgL (s.full 11 s.st)).toArray 33)).mono hb3.size))
  have HF : Hid (ResD b _ _ _ w _) := resD_one (HB.out.1.below hb3) (HB.out.2.1.lnew hb3) (s.full 11 s.st)
  have bs := bsM_any (s.full 11 s.st)
  have d2 := h4.c2
  have d3 := h4.c3
  have d8 := h4.c8
  have g2 := Rw.fz h4 2
  have g3 := Rw.fz h4 3
  have g8 := Rw.fz h4 8
  clear h4 hb3 HB hk0 hk1 hk2 c2 c3 c8 f2 f3 f8 m0
  go_wp2_with (fail)
  go_quiet (fail)
  go_wp2_with (fail)
  exact bodyPost_ret (by simp [results, Try.results20, asAddr, go_sem]; rfl) rfl ⟨_, rfl, ResD.drewN (ResD.kp (ResD.st (HF.out) hbw.out 0) hbw.out 0) _⟩

end Go.Proofs.Ytogchippkenppaa
