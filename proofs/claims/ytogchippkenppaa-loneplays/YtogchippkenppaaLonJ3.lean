/- lone: the document's line: Take (made by mkJ.py). -/
import Derived.Test.YtogchippkenppaaLonJ
import Derived.Deep.CutRange
import Derived.Deep.CutBlock
namespace Go.Proofs.Ytogchippkenppaa
open Go.ChangeShapes Go.WideShapes Go.ChangeAt Go.RowKit
set_option linter.unusedVariables false
set_option linter.unusedSimpArgs false
attribute [local go_sem ↓] ldM_eq stM_eq bdM_eq bsM_eq
variable {b : Nat} {s s' s'' : W.Ld} {w w' w'' w2 : World}

set_option maxRecDepth 10000 in
set_option maxHeartbeats 800000 in
theorem t9 (H : Db b s w) (m : W.Mg) (hk : m.k = 9) (h0 : s.wt = 3) (h1 : s.st = 0) : Calls Try.prog 20 #[.pointer (some ⟨b, 0, none⟩), mgV m] w fun e w' => ∃ sl, e = .returned (.tuple #[slV sl, .bool false]) ∧ ResD b ⟨s.ln, s.ht, s.st, 0, s.e0, s.e1, s.e2, s.e3, 0⟩ [] sl w w' := by
  have hba := below_alloc w (.cells (mgL m).toArray 33)
  have H1 := H.below hba
  have hm := msgAt_new w m
  have m0 : (w.alloc (.cells (mgL m).toArray 33)).cell? ⟨w.heap.size, 0, none⟩ = some (.int .i64 m.k) := hm.cAt 0
  rw [hk] at m0
  have c2 := H1.c2
  have c3 := H1.c3
  have c8 := H1.c8
  have f2 := Rw.fz H1 2
  have f3 := Rw.fz H1 3
  have f8 := Rw.fz H1 8
  have HB : Hid (Db b s _ ∧ Up b w _ ∧ MsgAt w.heap.size m _) := ⟨H1, Up.of_below hba, hm⟩
  have hbw : Hid (b < w.heap.size) := H.lt
  rw [h0] at c3
  rw [h1] at c2
  clear h0 h1
  clear H hba H1 hm hk
  unfold mgV
  go_enter Try.func20, Try.ntmps20
  go_upto_region 1 with fail
  generalize World.alloc w _ = W1 at *
  go_wp2_with (fail)
  have HF : Hid (ResD b _ _ _ w _) := resD_nil ((HB.out.1.wt 0).kp 0) ((HB.out.2.1.trans (Up.set b W1 3 (.int .i64 0))).trans (Up.set b _ 8 (.int .i64 0)))
  go_quiet (fail)
  go_wp2_with (fail)
  exact bodyPost_ret (by simp [results, Try.results20, asAddr, go_sem]; rfl) rfl ⟨⟨none, 0, 0⟩, rfl, ResD.drewN HF.out _⟩

set_option maxRecDepth 10000 in
set_option maxHeartbeats 800000 in
theorem t8 (H : Db b s w) (m : W.Mg) (hk : m.k = 8) (h0 : s.wt = 2) (h1 : s.st ≠ 0) : Calls Try.prog 20 #[.pointer (some ⟨b, 0, none⟩), mgV m] w fun e w' => ∃ sl, e = .returned (.tuple #[slV sl, .bool false]) ∧ ResD b ⟨s.ln, s.ht, 4, 0, s.e0, s.e1, s.e2, s.e3, s.kp⟩ [s.msg 12] sl w w' := by
  have hba := below_alloc w (.cells (mgL m).toArray 33)
  have H1 := H.below hba
  have hm := msgAt_new w m
  have m0 : (w.alloc (.cells (mgL m).toArray 33)).cell? ⟨w.heap.size, 0, none⟩ = some (.int .i64 m.k) := hm.cAt 0
  rw [hk] at m0
  have c2 := H1.c2
  have c3 := H1.c3
  have c8 := H1.c8
  have f2 := Rw.fz H1 2
  have f3 := Rw.fz H1 3
  have f8 := Rw.fz H1 8
  have HB : Hid (Db b s _ ∧ Up b w _ ∧ MsgAt w.heap.size m _) := ⟨H1, Up.of_below hba, hm⟩
  have hbw : Hid (b < w.heap.size) := H.lt
  rw [h0] at c3
  have qe1 : (s.st == 0) = false := by simpa using h1
  have qn1 : (s.st != 0) = true := by simpa using h1
  clear h0 h1
  clear H hba H1 hm hk
  unfold mgV
  go_enter Try.func20, Try.ntmps20
  go_upto_region 1 with fail
  generalize World.alloc w _ = W1 at *
  go_wp2_with (fail)
  have HB2 : Hid (_ ∧ _) := ⟨(HB.out.1.st 4).wt 0, (HB.out.2.1.trans (Up.set b W1 2 (.int .i64 4))).trans (Up.set b _ 3 (.int .i64 0))⟩
  clear HB c2 c3 c8 f2 f3 f8 m0
  generalize World.setCell (World.setCell W1 _ _) _ _ = W2 at *
  refine (dmsg_any HB2.out.1 12).mono ?_
  rintro e w3 ⟨rfl, hb3⟩
  have h4 := HB2.out.1.below (hb3.trans ((below_alloc w3 (.cells (mgL (s.msg 12)).toArray 33)).mono hb3.size))
  have HF : Hid (ResD b _ _ _ w _) := resD_one (HB2.out.1.below hb3) (HB2.out.2.lnew hb3) (s.msg 12)
  have bs := bsM_any (s.msg 12)
  have e1 : W.Ld.msg ⟨s.ln, s.ht, 4, 0, s.e0, s.e1, s.e2, s.e3, s.kp⟩ 12 = s.msg 12 := rfl
  rw [e1]
  have d2 := h4.c2
  clear h4 hb3 HB2 e1
  go_wp2_with (fail)
  go_quiet (fail)
  go_wp2_with (fail)
  exact bodyPost_ret (by simp [results, Try.results20, asAddr, go_sem]; rfl) rfl ⟨_, rfl, ResD.drewN (HF.out) _⟩

set_option maxRecDepth 10000 in
set_option maxHeartbeats 800000 in
theorem t7dB (H : Db b s w) (m : W.Mg) (hk : m.k = 7) (h0 : s.wt = 2) (h1 : s.st = 0) (hf : m.d = true) : Calls Try.prog 20 #[.pointer (some ⟨b, 0, none⟩), mgV m] w fun e w' => ∃ sl, e = .returned (.tuple #[slV sl, .bool false]) ∧ ResD b ⟨s.ln, s.ht, 4, 0, m.d0, m.d1, m.d2, m.d3, s.kp⟩ [s.msg 12] sl w w' := by
  have hba := below_alloc w (.cells (mgL m).toArray 33)
  have H1 := H.below hba
  have hm := msgAt_new w m
  have m0 : (w.alloc (.cells (mgL m).toArray 33)).cell? ⟨w.heap.size, 0, none⟩ = some (.int .i64 m.k) := hm.cAt 0
  rw [hk] at m0
  have c2 := H1.c2
  have c3 := H1.c3
  have c8 := H1.c8
  have f2 := Rw.fz H1 2
  have f3 := Rw.fz H1 3
  have f8 := Rw.fz H1 8
  have HB : Hid (Db b s _ ∧ Up b w _ ∧ MsgAt w.heap.size m _) := ⟨H1, Up.of_below hba, hm⟩
  have hbw : Hid (b < w.heap.size) := H.lt
  have a4 : (w.alloc (.cells (mgL m).toArray 33)).cell? ⟨w.heap.size, 4, none⟩ = some (.int .u32 m.d0) := hm.cAt 4
  have a5 : (w.alloc (.cells (mgL m).toArray 33)).cell? ⟨w.heap.size, 5, none⟩ = some (.int .u32 m.d1) := hm.cAt 5
  have a6 : (w.alloc (.cells (mgL m).toArray 33)).cell? ⟨w.heap.size, 6, none⟩ = some (.int .u32 m.d2) := hm.cAt 6
  have a7 : (w.alloc (.cells (mgL m).toArray 33)).cell? ⟨w.heap.size, 7, none⟩ = some (.int .u32 m.d3) := hm.cAt 7
  have af : (w.alloc (.cells (mgL m).toArray 33)).cell? ⟨w.heap.size, 9, none⟩ = some (.bool m.d) := hm.cAt 9
  rw [hf] at af
  have c4 := H1.c4
  have c5 := H1.c5
  have c6 := H1.c6
  have c7 := H1.c7
  have f4 := Rw.fz H1 4
  have f5 := Rw.fz H1 5
  have f6 := Rw.fz H1 6
  have f7 := Rw.fz H1 7
  have hne : b ≠ w.heap.size := by have := H.lt; omega
  have hne2 : w.heap.size ≠ b := fun e => hne e.symm
  clear hf
  rw [h0] at c3
  rw [h1] at c2
  clear h0 h1
  clear H hba H1 hm hk
  unfold mgV
  go_enter Try.func20, Try.ntmps20
  go_upto_region 1 with fail
  generalize World.alloc w _ = W1 at *
  generalize w.heap.size = mb at m0 a4 a5 a6 a7 af hne hne2 ⊢
  go_wp2_with (fail)
  have HB2 : Hid (_ ∧ _) := ⟨((HB.out.1.dt m.d0 m.d1 m.d2 m.d3).st 4).wt 0, ((HB.out.2.1.trans (Up.dt b 4 W1 m.d0 m.d1 m.d2 m.d3)).trans (Up.set b _ 2 (.int .i64 4))).trans (Up.set b _ 3 (.int .i64 0))⟩
  unfold st4 at HB2
  clear HB c2 c3 c8 f2 f3 f8 m0 a4 a5 a6 a7 af c4 c5 c6 c7 f4 f5 f6 f7
  generalize World.setCell (World.setCell (World.setCell (World.setCell (World.setCell (World.setCell W1 _ _) _ _) _ _) _ _) _ _) _ _ = W2 at *
  refine (dmsg_any HB2.out.1 12).mono ?_
  rintro e w3 ⟨rfl, hb3⟩
  have h4 := HB2.out.1.below (hb3.trans ((below_alloc w3 (.cells (mgL (s.msg 12)).toArray 33)).mono hb3.size))
  have HF : Hid (ResD b _ _ _ w _) := resD_one (HB2.out.1.below hb3) (HB2.out.2.lnew hb3) (s.msg 12)
  have bs := bsM_any (s.msg 12)
  have e1 : W.Ld.msg ⟨s.ln, s.ht, 4, 0, m.d0, m.d1, m.d2, m.d3, s.kp⟩ 12 = s.msg 12 := rfl
  rw [e1]
  have d2 := h4.c2
  clear h4 hb3 HB2 e1
  go_wp2_with (fail)
  go_quiet (fail)
  go_wp2_with (fail)
  exact bodyPost_ret (by simp [results, Try.results20, asAddr, go_sem]; rfl) rfl ⟨_, rfl, ResD.drewN (HF.out) _⟩

set_option maxRecDepth 10000 in
set_option maxHeartbeats 800000 in
theorem t7dC (H : Db b s w) (m : W.Mg) (hk : m.k = 7) (h0 : s.wt = 2) (h1 : s.st ≠ 0) (hf : m.d = true) : Calls Try.prog 20 #[.pointer (some ⟨b, 0, none⟩), mgV m] w fun e w' => ∃ sl, e = .returned (.tuple #[slV sl, .bool false]) ∧ ResD b ⟨s.ln, s.ht, 4, 0, m.d0, m.d1, m.d2, m.d3, s.kp⟩ [s.msg 12] sl w w' := by
  have hba := below_alloc w (.cells (mgL m).toArray 33)
  have H1 := H.below hba
  have hm := msgAt_new w m
  have m0 : (w.alloc (.cells (mgL m).toArray 33)).cell? ⟨w.heap.size, 0, none⟩ = some (.int .i64 m.k) := hm.cAt 0
  rw [hk] at m0
  have c2 := H1.c2
  have c3 := H1.c3
  have c8 := H1.c8
  have f2 := Rw.fz H1 2
  have f3 := Rw.fz H1 3
  have f8 := Rw.fz H1 8
  have HB : Hid (Db b s _ ∧ Up b w _ ∧ MsgAt w.heap.size m _) := ⟨H1, Up.of_below hba, hm⟩
  have hbw : Hid (b < w.heap.size) := H.lt
  have a4 : (w.alloc (.cells (mgL m).toArray 33)).cell? ⟨w.heap.size, 4, none⟩ = some (.int .u32 m.d0) := hm.cAt 4
  have a5 : (w.alloc (.cells (mgL m).toArray 33)).cell? ⟨w.heap.size, 5, none⟩ = some (.int .u32 m.d1) := hm.cAt 5
  have a6 : (w.alloc (.cells (mgL m).toArray 33)).cell? ⟨w.heap.size, 6, none⟩ = some (.int .u32 m.d2) := hm.cAt 6
  have a7 : (w.alloc (.cells (mgL m).toArray 33)).cell? ⟨w.heap.size, 7, none⟩ = some (.int .u32 m.d3) := hm.cAt 7
  have af : (w.alloc (.cells (mgL m).toArray 33)).cell? ⟨w.heap.size, 9, none⟩ = some (.bool m.d) := hm.cAt 9
  rw [hf] at af
  have c4 := H1.c4
  have c5 := H1.c5
  have c6 := H1.c6
  have c7 := H1.c7
  have f4 := Rw.fz H1 4
  have f5 := Rw.fz H1 5
  have f6 := Rw.fz H1 6
  have f7 := Rw.fz H1 7
  have hne : b ≠ w.heap.size := by have := H.lt; omega
  have hne2 : w.heap.size ≠ b := fun e => hne e.symm
  clear hf
  rw [h0] at c3
  have qe1 : (s.st == 0) = false := by simpa using h1
  have qn1 : (s.st != 0) = true := by simpa using h1
  clear h0 h1
  clear H hba H1 hm hk
  unfold mgV
  go_enter Try.func20, Try.ntmps20
  go_upto_region 1 with fail
  generalize World.alloc w _ = W1 at *
  generalize w.heap.size = mb at m0 a4 a5 a6 a7 af hne hne2 ⊢
  go_wp2_with (fail)
  have HB2 : Hid (_ ∧ _) := ⟨((HB.out.1.dt m.d0 m.d1 m.d2 m.d3).st 4).wt 0, ((HB.out.2.1.trans (Up.dt b 4 W1 m.d0 m.d1 m.d2 m.d3)).trans (Up.set b _ 2 (.int .i64 4))).trans (Up.set b _ 3 (.int .i64 0))⟩
  unfold st4 at HB2
  clear HB c2 c3 c8 f2 f3 f8 m0 a4 a5 a6 a7 af c4 c5 c6 c7 f4 f5 f6 f7
  generalize World.setCell (World.setCell (World.setCell (World.setCell (World.setCell (World.setCell W1 _ _) _ _) _ _) _ _) _ _) _ _ = W2 at *
  refine (dmsg_any HB2.out.1 12).mono ?_
  rintro e w3 ⟨rfl, hb3⟩
  have h4 := HB2.out.1.below (hb3.trans ((below_alloc w3 (.cells (mgL (s.msg 12)).toArray 33)).mono hb3.size))
  have HF : Hid (ResD b _ _ _ w _) := resD_one (HB2.out.1.below hb3) (HB2.out.2.lnew hb3) (s.msg 12)
  have bs := bsM_any (s.msg 12)
  have e1 : W.Ld.msg ⟨s.ln, s.ht, 4, 0, m.d0, m.d1, m.d2, m.d3, s.kp⟩ 12 = s.msg 12 := rfl
  rw [e1]
  have d2 := h4.c2
  clear h4 hb3 HB2 e1
  go_wp2_with (fail)
  go_quiet (fail)
  go_wp2_with (fail)
  exact bodyPost_ret (by simp [results, Try.results20, asAddr, go_sem]; rfl) rfl ⟨_, rfl, ResD.drewN (HF.out) _⟩

set_option maxRecDepth 10000 in
set_option maxHeartbeats 800000 in
theorem t7nB (H : Db b s w) (m : W.Mg) (hk : m.k = 7) (h0 : s.wt = 2) (h1 : s.st = 0) (hf : m.d = false) : Calls Try.prog 20 #[.pointer (some ⟨b, 0, none⟩), mgV m] w fun e w' => ∃ sl, e = .returned (.tuple #[slV sl, .bool false]) ∧ ResD b ⟨s.ln, s.ht, 2, 0, m.d0, m.d1, m.d2, m.d3, s.kp⟩ [s.msg 12] sl w w' := by
  have hba := below_alloc w (.cells (mgL m).toArray 33)
  have H1 := H.below hba
  have hm := msgAt_new w m
  have m0 : (w.alloc (.cells (mgL m).toArray 33)).cell? ⟨w.heap.size, 0, none⟩ = some (.int .i64 m.k) := hm.cAt 0
  rw [hk] at m0
  have c2 := H1.c2
  have c3 := H1.c3
  have c8 := H1.c8
  have f2 := Rw.fz H1 2
  have f3 := Rw.fz H1 3
  have f8 := Rw.fz H1 8
  have HB : Hid (Db b s _ ∧ Up b w _ ∧ MsgAt w.heap.size m _) := ⟨H1, Up.of_below hba, hm⟩
  have hbw : Hid (b < w.heap.size) := H.lt
  have a4 : (w.alloc (.cells (mgL m).toArray 33)).cell? ⟨w.heap.size, 4, none⟩ = some (.int .u32 m.d0) := hm.cAt 4
  have a5 : (w.alloc (.cells (mgL m).toArray 33)).cell? ⟨w.heap.size, 5, none⟩ = some (.int .u32 m.d1) := hm.cAt 5
  have a6 : (w.alloc (.cells (mgL m).toArray 33)).cell? ⟨w.heap.size, 6, none⟩ = some (.int .u32 m.d2) := hm.cAt 6
  have a7 : (w.alloc (.cells (mgL m).toArray 33)).cell? ⟨w.heap.size, 7, none⟩ = some (.int .u32 m.d3) := hm.cAt 7
  have af : (w.alloc (.cells (mgL m).toArray 33)).cell? ⟨w.heap.size, 9, none⟩ = some (.bool m.d) := hm.cAt 9
  rw [hf] at af
  have c4 := H1.c4
  have c5 := H1.c5
  have c6 := H1.c6
  have c7 := H1.c7
  have f4 := Rw.fz H1 4
  have f5 := Rw.fz H1 5
  have f6 := Rw.fz H1 6
  have f7 := Rw.fz H1 7
  have hne : b ≠ w.heap.size := by have := H.lt; omega
  have hne2 : w.heap.size ≠ b := fun e => hne e.symm
  clear hf
  rw [h0] at c3
  rw [h1] at c2
  clear h0 h1
  clear H hba H1 hm hk
  unfold mgV
  go_enter Try.func20, Try.ntmps20
  go_upto_region 1 with fail
  generalize World.alloc w _ = W1 at *
  generalize w.heap.size = mb at m0 a4 a5 a6 a7 af hne hne2 ⊢
  go_wp2_with (fail)
  have HB2 : Hid (_ ∧ _) := ⟨((HB.out.1.dt m.d0 m.d1 m.d2 m.d3).st 2).wt 0, ((HB.out.2.1.trans (Up.dt b 4 W1 m.d0 m.d1 m.d2 m.d3)).trans (Up.set b _ 2 (.int .i64 2))).trans (Up.set b _ 3 (.int .i64 0))⟩
  unfold st4 at HB2
  clear HB c2 c3 c8 f2 f3 f8 m0 a4 a5 a6 a7 af c4 c5 c6 c7 f4 f5 f6 f7
  generalize World.setCell (World.setCell (World.setCell (World.setCell (World.setCell (World.setCell W1 _ _) _ _) _ _) _ _) _ _) _ _ = W2 at *
  refine (dmsg_any HB2.out.1 12).mono ?_
  rintro e w3 ⟨rfl, hb3⟩
  have h4 := HB2.out.1.below (hb3.trans ((below_alloc w3 (.cells (mgL (s.msg 12)).toArray 33)).mono hb3.size))
  have HF : Hid (ResD b _ _ _ w _) := resD_one (HB2.out.1.below hb3) (HB2.out.2.lnew hb3) (s.msg 12)
  have bs := bsM_any (s.msg 12)
  have e1 : W.Ld.msg ⟨s.ln, s.ht, 2, 0, m.d0, m.d1, m.d2, m.d3, s.kp⟩ 12 = s.msg 12 := rfl
  rw [e1]
  have d2 := h4.c2
  clear h4 hb3 HB2 e1
  go_wp2_with (fail)
  go_quiet (fail)
  go_wp2_with (fail)
  exact bodyPost_ret (by simp [results, Try.results20, asAddr, go_sem]; rfl) rfl ⟨_, rfl, ResD.drewN (HF.out) _⟩

set_option maxRecDepth 10000 in
set_option maxHeartbeats 800000 in
theorem t7nC (H : Db b s w) (m : W.Mg) (hk : m.k = 7) (h0 : s.wt = 2) (h1 : s.st ≠ 0) (hf : m.d = false) : Calls Try.prog 20 #[.pointer (some ⟨b, 0, none⟩), mgV m] w fun e w' => ∃ sl, e = .returned (.tuple #[slV sl, .bool false]) ∧ ResD b ⟨s.ln, s.ht, 2, 0, m.d0, m.d1, m.d2, m.d3, s.kp⟩ [s.msg 12] sl w w' := by
  have hba := below_alloc w (.cells (mgL m).toArray 33)
  have H1 := H.below hba
  have hm := msgAt_new w m
  have m0 : (w.alloc (.cells (mgL m).toArray 33)).cell? ⟨w.heap.size, 0, none⟩ = some (.int .i64 m.k) := hm.cAt 0
  rw [hk] at m0
  have c2 := H1.c2
  have c3 := H1.c3
  have c8 := H1.c8
  have f2 := Rw.fz H1 2
  have f3 := Rw.fz H1 3
  have f8 := Rw.fz H1 8
  have HB : Hid (Db b s _ ∧ Up b w _ ∧ MsgAt w.heap.size m _) := ⟨H1, Up.of_below hba, hm⟩
  have hbw : Hid (b < w.heap.size) := H.lt
  have a4 : (w.alloc (.cells (mgL m).toArray 33)).cell? ⟨w.heap.size, 4, none⟩ = some (.int .u32 m.d0) := hm.cAt 4
  have a5 : (w.alloc (.cells (mgL m).toArray 33)).cell? ⟨w.heap.size, 5, none⟩ = some (.int .u32 m.d1) := hm.cAt 5
  have a6 : (w.alloc (.cells (mgL m).toArray 33)).cell? ⟨w.heap.size, 6, none⟩ = some (.int .u32 m.d2) := hm.cAt 6
  have a7 : (w.alloc (.cells (mgL m).toArray 33)).cell? ⟨w.heap.size, 7, none⟩ = some (.int .u32 m.d3) := hm.cAt 7
  have af : (w.alloc (.cells (mgL m).toArray 33)).cell? ⟨w.heap.size, 9, none⟩ = some (.bool m.d) := hm.cAt 9
  rw [hf] at af
  have c4 := H1.c4
  have c5 := H1.c5
  have c6 := H1.c6
  have c7 := H1.c7
  have f4 := Rw.fz H1 4
  have f5 := Rw.fz H1 5
  have f6 := Rw.fz H1 6
  have f7 := Rw.fz H1 7
  have hne : b ≠ w.heap.size := by have := H.lt; omega
  have hne2 : w.heap.size ≠ b := fun e => hne e.symm
  clear hf
  rw [h0] at c3
  have qe1 : (s.st == 0) = false := by simpa using h1
  have qn1 : (s.st != 0) = true := by simpa using h1
  clear h0 h1
  clear H hba H1 hm hk
  unfold mgV
  go_enter Try.func20, Try.ntmps20
  go_upto_region 1 with fail
  generalize World.alloc w _ = W1 at *
  generalize w.heap.size = mb at m0 a4 a5 a6 a7 af hne hne2 ⊢
  go_wp2_with (fail)
  have HB2 : Hid (_ ∧ _) := ⟨((HB.out.1.dt m.d0 m.d1 m.d2 m.d3).st 2).wt 0, ((HB.out.2.1.trans (Up.dt b 4 W1 m.d0 m.d1 m.d2 m.d3)).trans (Up.set b _ 2 (.int .i64 2))).trans (Up.set b _ 3 (.int .i64 0))⟩
  unfold st4 at HB2
  clear HB c2 c3 c8 f2 f3 f8 m0 a4 a5 a6 a7 af c4 c5 c6 c7 f4 f5 f6 f7
  generalize World.setCell (World.setCell (World.setCell (World.setCell (World.setCell (World.setCell W1 _ _) _ _) _ _) _ _) _ _) _ _ = W2 at *
  refine (dmsg_any HB2.out.1 12).mono ?_
  rintro e w3 ⟨rfl, hb3⟩
  have h4 := HB2.out.1.below (hb3.trans ((below_alloc w3 (.cells (mgL (s.msg 12)).toArray 33)).mono hb3.size))
  have HF : Hid (ResD b _ _ _ w _) := resD_one (HB2.out.1.below hb3) (HB2.out.2.lnew hb3) (s.msg 12)
  have bs := bsM_any (s.msg 12)
  have e1 : W.Ld.msg ⟨s.ln, s.ht, 2, 0, m.d0, m.d1, m.d2, m.d3, s.kp⟩ 12 = s.msg 12 := rfl
  rw [e1]
  have d2 := h4.c2
  clear h4 hb3 HB2 e1
  go_wp2_with (fail)
  go_quiet (fail)
  go_wp2_with (fail)
  exact bodyPost_ret (by simp [results, Try.results20, asAddr, go_sem]; rfl) rfl ⟨_, rfl, ResD.drewN (HF.out) _⟩

set_option maxRecDepth 10000 in
set_option maxHeartbeats 800000 in
theorem t7aB (H : Db b s w) (m : W.Mg) (hk : m.k = 7) (h0 : s.wt = 1) (h1 : s.st = 0) (hf : m.a = true) : Calls Try.prog 20 #[.pointer (some ⟨b, 0, none⟩), mgV m] w fun e w' => ∃ sl, e = .returned (.tuple #[slV sl, .bool false]) ∧ ResD b ⟨s.ln, s.ht, 2, 0, m.d0, m.d1, m.d2, m.d3, s.kp⟩ [s.msg 12] sl w w' := by
  have hba := below_alloc w (.cells (mgL m).toArray 33)
  have H1 := H.below hba
  have hm := msgAt_new w m
  have m0 : (w.alloc (.cells (mgL m).toArray 33)).cell? ⟨w.heap.size, 0, none⟩ = some (.int .i64 m.k) := hm.cAt 0
  rw [hk] at m0
  have c2 := H1.c2
  have c3 := H1.c3
  have c8 := H1.c8
  have f2 := Rw.fz H1 2
  have f3 := Rw.fz H1 3
  have f8 := Rw.fz H1 8
  have HB : Hid (Db b s _ ∧ Up b w _ ∧ MsgAt w.heap.size m _) := ⟨H1, Up.of_below hba, hm⟩
  have hbw : Hid (b < w.heap.size) := H.lt
  have a4 : (w.alloc (.cells (mgL m).toArray 33)).cell? ⟨w.heap.size, 4, none⟩ = some (.int .u32 m.d0) := hm.cAt 4
  have a5 : (w.alloc (.cells (mgL m).toArray 33)).cell? ⟨w.heap.size, 5, none⟩ = some (.int .u32 m.d1) := hm.cAt 5
  have a6 : (w.alloc (.cells (mgL m).toArray 33)).cell? ⟨w.heap.size, 6, none⟩ = some (.int .u32 m.d2) := hm.cAt 6
  have a7 : (w.alloc (.cells (mgL m).toArray 33)).cell? ⟨w.heap.size, 7, none⟩ = some (.int .u32 m.d3) := hm.cAt 7
  have af : (w.alloc (.cells (mgL m).toArray 33)).cell? ⟨w.heap.size, 10, none⟩ = some (.bool m.a) := hm.cAt 10
  rw [hf] at af
  have c4 := H1.c4
  have c5 := H1.c5
  have c6 := H1.c6
  have c7 := H1.c7
  have f4 := Rw.fz H1 4
  have f5 := Rw.fz H1 5
  have f6 := Rw.fz H1 6
  have f7 := Rw.fz H1 7
  have hne : b ≠ w.heap.size := by have := H.lt; omega
  have hne2 : w.heap.size ≠ b := fun e => hne e.symm
  clear hf
  rw [h0] at c3
  rw [h1] at c2
  clear h0 h1
  clear H hba H1 hm hk
  unfold mgV
  go_enter Try.func20, Try.ntmps20
  go_upto_region 1 with fail
  generalize World.alloc w _ = W1 at *
  generalize w.heap.size = mb at m0 a4 a5 a6 a7 af hne hne2 ⊢
  go_wp2_with (fail)
  have HB2 : Hid (_ ∧ _) := ⟨((HB.out.1.dt m.d0 m.d1 m.d2 m.d3).st 2).wt 0, ((HB.out.2.1.trans (Up.dt b 4 W1 m.d0 m.d1 m.d2 m.d3)).trans (Up.set b _ 2 (.int .i64 2))).trans (Up.set b _ 3 (.int .i64 0))⟩
  unfold st4 at HB2
  clear HB c2 c3 c8 f2 f3 f8 m0 a4 a5 a6 a7 af c4 c5 c6 c7 f4 f5 f6 f7
  generalize World.setCell (World.setCell (World.setCell (World.setCell (World.setCell (World.setCell W1 _ _) _ _) _ _) _ _) _ _) _ _ = W2 at *
  refine (dmsg_any HB2.out.1 12).mono ?_
  rintro e w3 ⟨rfl, hb3⟩
  have h4 := HB2.out.1.below (hb3.trans ((below_alloc w3 (.cells (mgL (s.msg 12)).toArray 33)).mono hb3.size))
  have HF : Hid (ResD b _ _ _ w _) := resD_one (HB2.out.1.below hb3) (HB2.out.2.lnew hb3) (s.msg 12)
  have bs := bsM_any (s.msg 12)
  have e1 : W.Ld.msg ⟨s.ln, s.ht, 2, 0, m.d0, m.d1, m.d2, m.d3, s.kp⟩ 12 = s.msg 12 := rfl
  rw [e1]
  have d2 := h4.c2
  clear h4 hb3 HB2 e1
  go_wp2_with (fail)
  go_quiet (fail)
  go_wp2_with (fail)
  exact bodyPost_ret (by simp [results, Try.results20, asAddr, go_sem]; rfl) rfl ⟨_, rfl, ResD.drewN (HF.out) _⟩

set_option maxRecDepth 10000 in
set_option maxHeartbeats 800000 in
theorem t7aC (H : Db b s w) (m : W.Mg) (hk : m.k = 7) (h0 : s.wt = 1) (h1 : s.st ≠ 0) (hf : m.a = true) : Calls Try.prog 20 #[.pointer (some ⟨b, 0, none⟩), mgV m] w fun e w' => ∃ sl, e = .returned (.tuple #[slV sl, .bool false]) ∧ ResD b ⟨s.ln, s.ht, 2, 0, m.d0, m.d1, m.d2, m.d3, s.kp⟩ [s.msg 12] sl w w' := by
  have hba := below_alloc w (.cells (mgL m).toArray 33)
  have H1 := H.below hba
  have hm := msgAt_new w m
  have m0 : (w.alloc (.cells (mgL m).toArray 33)).cell? ⟨w.heap.size, 0, none⟩ = some (.int .i64 m.k) := hm.cAt 0
  rw [hk] at m0
  have c2 := H1.c2
  have c3 := H1.c3
  have c8 := H1.c8
  have f2 := Rw.fz H1 2
  have f3 := Rw.fz H1 3
  have f8 := Rw.fz H1 8
  have HB : Hid (Db b s _ ∧ Up b w _ ∧ MsgAt w.heap.size m _) := ⟨H1, Up.of_below hba, hm⟩
  have hbw : Hid (b < w.heap.size) := H.lt
  have a4 : (w.alloc (.cells (mgL m).toArray 33)).cell? ⟨w.heap.size, 4, none⟩ = some (.int .u32 m.d0) := hm.cAt 4
  have a5 : (w.alloc (.cells (mgL m).toArray 33)).cell? ⟨w.heap.size, 5, none⟩ = some (.int .u32 m.d1) := hm.cAt 5
  have a6 : (w.alloc (.cells (mgL m).toArray 33)).cell? ⟨w.heap.size, 6, none⟩ = some (.int .u32 m.d2) := hm.cAt 6
  have a7 : (w.alloc (.cells (mgL m).toArray 33)).cell? ⟨w.heap.size, 7, none⟩ = some (.int .u32 m.d3) := hm.cAt 7
  have af : (w.alloc (.cells (mgL m).toArray 33)).cell? ⟨w.heap.size, 10, none⟩ = some (.bool m.a) := hm.cAt 10
  rw [hf] at af
  have c4 := H1.c4
  have c5 := H1.c5
  have c6 := H1.c6
  have c7 := H1.c7
  have f4 := Rw.fz H1 4
  have f5 := Rw.fz H1 5
  have f6 := Rw.fz H1 6
  have f7 := Rw.fz H1 7
  have hne : b ≠ w.heap.size := by have := H.lt; omega
  have hne2 : w.heap.size ≠ b := fun e => hne e.symm
  clear hf
  rw [h0] at c3
  have qe1 : (s.st == 0) = false := by simpa using h1
  have qn1 : (s.st != 0) = true := by simpa using h1
  clear h0 h1
  clear H hba H1 hm hk
  unfold mgV
  go_enter Try.func20, Try.ntmps20
  go_upto_region 1 with fail
  generalize World.alloc w _ = W1 at *
  generalize w.heap.size = mb at m0 a4 a5 a6 a7 af hne hne2 ⊢
  go_wp2_with (fail)
  have HB2 : Hid (_ ∧ _) := ⟨((HB.out.1.dt m.d0 m.d1 m.d2 m.d3).st 2).wt 0, ((HB.out.2.1.trans (Up.dt b 4 W1 m.d0 m.d1 m.d2 m.d3)).trans (Up.set b _ 2 (.int .i64 2))).trans (Up.set b _ 3 (.int .i64 0))⟩
  unfold st4 at HB2
  clear HB c2 c3 c8 f2 f3 f8 m0 a4 a5 a6 a7 af c4 c5 c6 c7 f4 f5 f6 f7
  generalize World.setCell (World.setCell (World.setCell (World.setCell (World.setCell (World.setCell W1 _ _) _ _) _ _) _ _) _ _) _ _ = W2 at *
  refine (dmsg_any HB2.out.1 12).mono ?_
  rintro e w3 ⟨rfl, hb3⟩
  have h4 := HB2.out.1.below (hb3.trans ((below_alloc w3 (.cells (mgL (s.msg 12)).toArray 33)).mono hb3.size))
  have HF : Hid (ResD b _ _ _ w _) := resD_one (HB2.out.1.below hb3) (HB2.out.2.lnew hb3) (s.msg 12)
  have bs := bsM_any (s.msg 12)
  have e1 : W.Ld.msg ⟨s.ln, s.ht, 2, 0, m.d0, m.d1, m.d2, m.d3, s.kp⟩ 12 = s.msg 12 := rfl
  rw [e1]
  have d2 := h4.c2
  clear h4 hb3 HB2 e1
  go_wp2_with (fail)
  go_quiet (fail)
  go_wp2_with (fail)
  exact bodyPost_ret (by simp [results, Try.results20, asAddr, go_sem]; rfl) rfl ⟨_, rfl, ResD.drewN (HF.out) _⟩

set_option maxRecDepth 10000 in
set_option maxHeartbeats 800000 in
theorem t7sB (H : Db b s w) (m : W.Mg) (hk : m.k = 7) (h0 : s.wt = 1) (h1 : s.st = 0) (hf : m.a = false) : Calls Try.prog 20 #[.pointer (some ⟨b, 0, none⟩), mgV m] w fun e w' => ∃ sl, e = .returned (.tuple #[slV sl, .bool false]) ∧ ResD b ⟨s.ln, s.ht, 1, 0, m.d0, m.d1, m.d2, m.d3, s.kp⟩ [s.msg 12] sl w w' := by
  have hba := below_alloc w (.cells (mgL m).toArray 33)
  have H1 := H.below hba
  have hm := msgAt_new w m
  have m0 : (w.alloc (.cells (mgL m).toArray 33)).cell? ⟨w.heap.size, 0, none⟩ = some (.int .i64 m.k) := hm.cAt 0
  rw [hk] at m0
  have c2 := H1.c2
  have c3 := H1.c3
  have c8 := H1.c8
  have f2 := Rw.fz H1 2
  have f3 := Rw.fz H1 3
  have f8 := Rw.fz H1 8
  have HB : Hid (Db b s _ ∧ Up b w _ ∧ MsgAt w.heap.size m _) := ⟨H1, Up.of_below hba, hm⟩
  have hbw : Hid (b < w.heap.size) := H.lt
  have a4 : (w.alloc (.cells (mgL m).toArray 33)).cell? ⟨w.heap.size, 4, none⟩ = some (.int .u32 m.d0) := hm.cAt 4
  have a5 : (w.alloc (.cells (mgL m).toArray 33)).cell? ⟨w.heap.size, 5, none⟩ = some (.int .u32 m.d1) := hm.cAt 5
  have a6 : (w.alloc (.cells (mgL m).toArray 33)).cell? ⟨w.heap.size, 6, none⟩ = some (.int .u32 m.d2) := hm.cAt 6
  have a7 : (w.alloc (.cells (mgL m).toArray 33)).cell? ⟨w.heap.size, 7, none⟩ = some (.int .u32 m.d3) := hm.cAt 7
  have af : (w.alloc (.cells (mgL m).toArray 33)).cell? ⟨w.heap.size, 10, none⟩ = some (.bool m.a) := hm.cAt 10
  rw [hf] at af
  have c4 := H1.c4
  have c5 := H1.c5
  have c6 := H1.c6
  have c7 := H1.c7
  have f4 := Rw.fz H1 4
  have f5 := Rw.fz H1 5
  have f6 := Rw.fz H1 6
  have f7 := Rw.fz H1 7
  have hne : b ≠ w.heap.size := by have := H.lt; omega
  have hne2 : w.heap.size ≠ b := fun e => hne e.symm
  clear hf
  rw [h0] at c3
  rw [h1] at c2
  clear h0 h1
  clear H hba H1 hm hk
  unfold mgV
  go_enter Try.func20, Try.ntmps20
  go_upto_region 1 with fail
  generalize World.alloc w _ = W1 at *
  generalize w.heap.size = mb at m0 a4 a5 a6 a7 af hne hne2 ⊢
  go_wp2_with (fail)
  have HB2 : Hid (_ ∧ _) := ⟨((HB.out.1.dt m.d0 m.d1 m.d2 m.d3).st 1).wt 0, ((HB.out.2.1.trans (Up.dt b 4 W1 m.d0 m.d1 m.d2 m.d3)).trans (Up.set b _ 2 (.int .i64 1))).trans (Up.set b _ 3 (.int .i64 0))⟩
  unfold st4 at HB2
  clear HB c2 c3 c8 f2 f3 f8 m0 a4 a5 a6 a7 af c4 c5 c6 c7 f4 f5 f6 f7
  generalize World.setCell (World.setCell (World.setCell (World.setCell (World.setCell (World.setCell W1 _ _) _ _) _ _) _ _) _ _) _ _ = W2 at *
  refine (dmsg_any HB2.out.1 12).mono ?_
  rintro e w3 ⟨rfl, hb3⟩
  have h4 := HB2.out.1.below (hb3.trans ((below_alloc w3 (.cells (mgL (s.msg 12)).toArray 33)).mono hb3.size))
  have HF : Hid (ResD b _ _ _ w _) := resD_one (HB2.out.1.below hb3) (HB2.out.2.lnew hb3) (s.msg 12)
  have bs := bsM_any (s.msg 12)
  have e1 : W.Ld.msg ⟨s.ln, s.ht, 1, 0, m.d0, m.d1, m.d2, m.d3, s.kp⟩ 12 = s.msg 12 := rfl
  rw [e1]
  have d2 := h4.c2
  clear h4 hb3 HB2 e1
  go_wp2_with (fail)
  go_quiet (fail)
  go_wp2_with (fail)
  exact bodyPost_ret (by simp [results, Try.results20, asAddr, go_sem]; rfl) rfl ⟨_, rfl, ResD.drewN (HF.out) _⟩

set_option maxRecDepth 10000 in
set_option maxHeartbeats 800000 in
theorem t7sC (H : Db b s w) (m : W.Mg) (hk : m.k = 7) (h0 : s.wt = 1) (h1 : s.st ≠ 0) (hf : m.a = false) : Calls Try.prog 20 #[.pointer (some ⟨b, 0, none⟩), mgV m] w fun e w' => ∃ sl, e = .returned (.tuple #[slV sl, .bool false]) ∧ ResD b ⟨s.ln, s.ht, 1, 0, m.d0, m.d1, m.d2, m.d3, s.kp⟩ [s.msg 12] sl w w' := by
  have hba := below_alloc w (.cells (mgL m).toArray 33)
  have H1 := H.below hba
  have hm := msgAt_new w m
  have m0 : (w.alloc (.cells (mgL m).toArray 33)).cell? ⟨w.heap.size, 0, none⟩ = some (.int .i64 m.k) := hm.cAt 0
  rw [hk] at m0
  have c2 := H1.c2
  have c3 := H1.c3
  have c8 := H1.c8
  have f2 := Rw.fz H1 2
  have f3 := Rw.fz H1 3
  have f8 := Rw.fz H1 8
  have HB : Hid (Db b s _ ∧ Up b w _ ∧ MsgAt w.heap.size m _) := ⟨H1, Up.of_below hba, hm⟩
  have hbw : Hid (b < w.heap.size) := H.lt
  have a4 : (w.alloc (.cells (mgL m).toArray 33)).cell? ⟨w.heap.size, 4, none⟩ = some (.int .u32 m.d0) := hm.cAt 4
  have a5 : (w.alloc (.cells (mgL m).toArray 33)).cell? ⟨w.heap.size, 5, none⟩ = some (.int .u32 m.d1) := hm.cAt 5
  have a6 : (w.alloc (.cells (mgL m).toArray 33)).cell? ⟨w.heap.size, 6, none⟩ = some (.int .u32 m.d2) := hm.cAt 6
  have a7 : (w.alloc (.cells (mgL m).toArray 33)).cell? ⟨w.heap.size, 7, none⟩ = some (.int .u32 m.d3) := hm.cAt 7
  have af : (w.alloc (.cells (mgL m).toArray 33)).cell? ⟨w.heap.size, 10, none⟩ = some (.bool m.a) := hm.cAt 10
  rw [hf] at af
  have c4 := H1.c4
  have c5 := H1.c5
  have c6 := H1.c6
  have c7 := H1.c7
  have f4 := Rw.fz H1 4
  have f5 := Rw.fz H1 5
  have f6 := Rw.fz H1 6
  have f7 := Rw.fz H1 7
  have hne : b ≠ w.heap.size := by have := H.lt; omega
  have hne2 : w.heap.size ≠ b := fun e => hne e.symm
  clear hf
  rw [h0] at c3
  have qe1 : (s.st == 0) = false := by simpa using h1
  have qn1 : (s.st != 0) = true := by simpa using h1
  clear h0 h1
  clear H hba H1 hm hk
  unfold mgV
  go_enter Try.func20, Try.ntmps20
  go_upto_region 1 with fail
  generalize World.alloc w _ = W1 at *
  generalize w.heap.size = mb at m0 a4 a5 a6 a7 af hne hne2 ⊢
  go_wp2_with (fail)
  have HB2 : Hid (_ ∧ _) := ⟨((HB.out.1.dt m.d0 m.d1 m.d2 m.d3).st 1).wt 0, ((HB.out.2.1.trans (Up.dt b 4 W1 m.d0 m.d1 m.d2 m.d3)).trans (Up.set b _ 2 (.int .i64 1))).trans (Up.set b _ 3 (.int .i64 0))⟩
  unfold st4 at HB2
  clear HB c2 c3 c8 f2 f3 f8 m0 a4 a5 a6 a7 af c4 c5 c6 c7 f4 f5 f6 f7
  generalize World.setCell (World.setCell (World.setCell (World.setCell (World.setCell (World.setCell W1 _ _) _ _) _ _) _ _) _ _) _ _ = W2 at *
  refine (dmsg_any HB2.out.1 12).mono ?_
  rintro e w3 ⟨rfl, hb3⟩
  have h4 := HB2.out.1.below (hb3.trans ((below_alloc w3 (.cells (mgL (s.msg 12)).toArray 33)).mono hb3.size))
  have HF : Hid (ResD b _ _ _ w _) := resD_one (HB2.out.1.below hb3) (HB2.out.2.lnew hb3) (s.msg 12)
  have bs := bsM_any (s.msg 12)
  have e1 : W.Ld.msg ⟨s.ln, s.ht, 1, 0, m.d0, m.d1, m.d2, m.d3, s.kp⟩ 12 = s.msg 12 := rfl
  rw [e1]
  have d2 := h4.c2
  clear h4 hb3 HB2 e1
  go_wp2_with (fail)
  go_quiet (fail)
  go_wp2_with (fail)
  exact bodyPost_ret (by simp [results, Try.results20, asAddr, go_sem]; rfl) rfl ⟨_, rfl, ResD.drewN (HF.out) _⟩

end Go.Proofs.Ytogchippkenppaa
