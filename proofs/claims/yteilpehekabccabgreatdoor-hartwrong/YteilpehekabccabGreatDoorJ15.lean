/- Texts in one: WalkE4, WalkE5, WalkE6, WalkE7, WalkE8, WalkE9, WalkE10. -/
import Derived.Test.YteilpehekabccabGreatDoorJ14
/- The way down, way 4. -/
namespace Go.Proofs.YteilpehekabccabGreatDoor
open Go.ChangeShapes Go.WideShapes Go.ChangeAt Go.RowKit
set_option linter.unusedVariables false
set_option linter.unusedSimpArgs false

set_option maxHeartbeats 1600000 in
theorem down_4 (mode va acc bytes table : Int) (v0 : 0 ≤ va) (v1 : va < 4294967296) (t0 : 0 ≤ table) (t1 : table < 4294967296) (n cap : Nat) (hm : n ≤ maxLen) (w : World) (b off : Nat) (p : Nat → W.Pt) (hlt : b < w.heap.size) (hr : Rd b off n p w) (hn : 0 < n) (x0 : 0 ≤ (p 0).v) (x1 : (p 0).v < 4294967296)
    (c1 : W.entB table va bytes true = true) (c3 : ((p 0).a != W.entA table va true) = false) (c4 : W.bad (p 0).v = false) (c5 : W.leaf (p 0).v = true) :
    Calls Tryz.prog 84 #[.agg #[.int .i64 mode, .int .u32 va, .int .i64 acc, .int .i64 bytes], .int .u32 table, .slice (some ⟨b, off, none⟩) n cap] w fun x w' => x = .returned (.tuple #[(W.leafS (p 0).a (p 0).v va acc mode true).val, .int .i64 1]) ∧ Below w.heap.size w w' := by
  have d0 := Dw.first (mode := mode) (va := va) (acc := acc) (bytes := bytes) w
  have hent := fun w => entry_any mode va acc bytes table true v0 v1 t0 t1 w
  rw [c1] at hent
  simp only [cond_true, cond_false] at hent
  generalize W.entA table va true = E1 at *
  have hleaf := fun a b c w => leafB_any mode va acc bytes (p 0).a (p 0).v a b c true v0 v1 x0 x1 w
  generalize W.leafS (p 0).a (p 0).v va acc mode true = S at *
  obtain ⟨S1, S2, S3, S4, S5⟩ := S
  obtain ⟨r00, r01, r02, r03, r04⟩ := hr 0 (by omega)
  simp only [Nat.zero_mul, Nat.add_zero] at r00 r01 r02 r03 r04
  clear hr
  generalize p 0 = P0 at *
  obtain ⟨pa, pv, po, pt, pf⟩ := P0
  dsimp only at *
  have hn0 : ((0 : Int) == (n : Int)) = false := by simp; omega
  have hn1 : (0 : Int) < n := by omega
  unfold W.Stp.val 
  unfold W.Stp.val at hleaf
  dsimp only at hleaf ⊢
  go_enter Tryz.func84, Tryz.ntmps84
  go_wp2
  refine wp_loop_rounds 3 ?_
  rw [rounds_succ]
  go_wp2_with (fail)
  refine (hent _).mono ?_
  rintro e w1 ⟨rfl, hb⟩
  have d1 := d0.below hb
  clear d0 hb hent
  have s0 := (d1.base.cell (p := ⟨b, off, none⟩) hlt).trans r00
  have s1 := (d1.base.cell (p := ⟨b, off + 1, none⟩) hlt).trans r01
  have s2 := (d1.base.cell (p := ⟨b, off + 2, none⟩) hlt).trans r02
  have s3 := (d1.base.cell (p := ⟨b, off + 3, none⟩) hlt).trans r03
  have s4 := (d1.base.cell (p := ⟨b, off + 4, none⟩) hlt).trans r04
  obtain ⟨g0, g1, g2, g3⟩ := way_cells d1.way
  obtain ⟨f0, f1, f2, f3, f4, fz⟩ := res_cells d1.res
  have l2 := d1.lt
  have l1 : w.heap.size < w1.heap.size := by omega
  go_wp2_with (first
    | (go_at_call 103; refine (bad_any _ _).mono ?_; rintro e w' ⟨rfl, rfl⟩)
    | (go_at_call 104; refine (leaf_any _ _).mono ?_; rintro e w' ⟨rfl, rfl⟩)
    | (go_at_call 105; refine (hleaf _ _ _ _).mono ?_; rintro e wf ⟨rfl, hbf⟩; have d9 := (d1.alloc _).below hbf; clear f0 f1 f2 f3 f4 fz; obtain ⟨f0, f1, f2, f3, f4, fz⟩ := res_cells d9.res))
  exact bodyPost_ret (v := .tuple #[.agg #[.int .i64 S1, .int .u32 S2, .int .u32 S3, .int .u32 S4, .int .u32 S5], .int .i64 1]) (by simp [results, Tryz.results84, go_sem, *]) rfl ⟨rfl, fin5 d9.base (by omega) _ _ _ _ _⟩
end Go.Proofs.YteilpehekabccabGreatDoor

/- The way down, way 5. -/
namespace Go.Proofs.YteilpehekabccabGreatDoor
open Go.ChangeShapes Go.WideShapes Go.ChangeAt Go.RowKit
set_option linter.unusedVariables false
set_option linter.unusedSimpArgs false

set_option maxHeartbeats 1600000 in
theorem down_5 (mode va acc bytes table : Int) (v0 : 0 ≤ va) (v1 : va < 4294967296) (t0 : 0 ≤ table) (t1 : table < 4294967296) (n cap : Nat) (hm : n ≤ maxLen) (w : World) (b off : Nat) (p : Nat → W.Pt) (hlt : b < w.heap.size) (hr : Rd b off n p w) (hn : 0 < n) (x0 : 0 ≤ (p 0).v) (x1 : (p 0).v < 4294967296)
    (c1 : W.entB table va bytes true = true) (c3 : ((p 0).a != W.entA table va true) = false) (c4 : W.bad (p 0).v = false) (c5 : W.leaf (p 0).v = false) (e1 : W.entB ((p 0).v / 1024) va bytes false = false) :
    Calls Tryz.prog 84 #[.agg #[.int .i64 mode, .int .u32 va, .int .i64 acc, .int .i64 bytes], .int .u32 table, .slice (some ⟨b, off, none⟩) n cap] w fun x w' => x = .returned (.tuple #[(W.fltS acc false).val, .int .i64 1]) ∧ Below w.heap.size w w' := by
  have d0 := Dw.first (mode := mode) (va := va) (acc := acc) (bytes := bytes) w
  have hent := fun w => entry_any mode va acc bytes table true v0 v1 t0 t1 w
  rw [c1] at hent
  simp only [cond_true, cond_false] at hent
  have hent2 := fun w => entry_any mode va acc bytes ((p 0).v / 1024) false v0 v1 (by omega) (by omega) w
  rw [e1] at hent2
  simp only [cond_true, cond_false] at hent2
  have hpg := W.page_eq (p 0).v x0 x1
  generalize (p 0).v / 1024 = PG at *
  generalize W.entA PG va false = E2 at *
  generalize W.entA table va true = E1 at *
  obtain ⟨r00, r01, r02, r03, r04⟩ := hr 0 (by omega)
  simp only [Nat.zero_mul, Nat.add_zero] at r00 r01 r02 r03 r04
  clear hr
  generalize p 0 = P0 at *
  obtain ⟨pa, pv, po, pt, pf⟩ := P0
  dsimp only at *
  have hn0 : ((0 : Int) == (n : Int)) = false := by simp; omega
  have hn1 : (0 : Int) < n := by omega
  unfold W.Stp.val W.fltS
  dsimp only
  go_enter Tryz.func84, Tryz.ntmps84
  go_wp2
  refine wp_loop_rounds 3 ?_
  rw [rounds_succ]
  go_wp2_with (fail)
  refine (hent _).mono ?_
  rintro e w1 ⟨rfl, hb⟩
  have d1 := d0.below hb
  clear d0 hb hent
  have s0 := (d1.base.cell (p := ⟨b, off, none⟩) hlt).trans r00
  have s1 := (d1.base.cell (p := ⟨b, off + 1, none⟩) hlt).trans r01
  have s2 := (d1.base.cell (p := ⟨b, off + 2, none⟩) hlt).trans r02
  have s3 := (d1.base.cell (p := ⟨b, off + 3, none⟩) hlt).trans r03
  have s4 := (d1.base.cell (p := ⟨b, off + 4, none⟩) hlt).trans r04
  obtain ⟨g0, g1, g2, g3⟩ := way_cells d1.way
  obtain ⟨f0, f1, f2, f3, f4, fz⟩ := res_cells d1.res
  have l2 := d1.lt
  have l1 : w.heap.size < w1.heap.size := by omega
  go_wp2_with (first
    | (go_at_call 103; refine (bad_any _ _).mono ?_; rintro e w' ⟨rfl, rfl⟩)
    | (go_at_call 104; refine (leaf_any _ _).mono ?_; rintro e w' ⟨rfl, rfl⟩)
    | (go_at_call 106; refine (page_any _ _).mono ?_; rintro e w' ⟨rfl, kk, rfl⟩))
  rw [rounds_succ]
  go_wp2_with (fail)
  refine (hent2 _).mono ?_
  rintro e w2 ⟨rfl, hb⟩
  have d2 := ((d1.alloc _).drewN _).below hb
  clear d1 hb hent2
  clear g0 g1 g2 g3 f0 f1 f2 f3 f4 fz l1 l2
  clear s0 s1 s2 s3 s4
  obtain ⟨g0, g1, g2, g3⟩ := way_cells d2.way
  obtain ⟨f0, f1, f2, f3, f4, fz⟩ := res_cells d2.res
  have l2 := d2.lt
  have l1 : w.heap.size < w2.heap.size := by omega
  go_wp2_with (first
    | (go_at_call 85; refine (wfault_any _ _ _ _ _ _).mono ?_; rintro e wf ⟨rfl, hbf⟩; have d9 := d2.below hbf; clear f0 f1 f2 f3 f4 fz; obtain ⟨f0, f1, f2, f3, f4, fz⟩ := res_cells d9.res))
  exact bodyPost_ret (v := .tuple #[.agg #[.int .i64 2, .int .u32 0, .int .u32 0, .int .u32 0, .int .u32 (W.cause acc false)], .int .i64 1]) (by simp [results, Tryz.results84, go_sem, *]) rfl ⟨rfl, fin5 d9.base (by omega) _ _ _ _ _⟩
end Go.Proofs.YteilpehekabccabGreatDoor

/- The way down, way 6. -/
namespace Go.Proofs.YteilpehekabccabGreatDoor
open Go.ChangeShapes Go.WideShapes Go.ChangeAt Go.RowKit
set_option linter.unusedVariables false
set_option linter.unusedSimpArgs false

set_option maxHeartbeats 1600000 in
theorem down_6 (mode va acc bytes table : Int) (v0 : 0 ≤ va) (v1 : va < 4294967296) (t0 : 0 ≤ table) (t1 : table < 4294967296) (n cap : Nat) (hm : n ≤ maxLen) (w : World) (b off : Nat) (p : Nat → W.Pt) (hlt : b < w.heap.size) (hr : Rd b off n p w) (hn : n = 1) (x0 : 0 ≤ (p 0).v) (x1 : (p 0).v < 4294967296)
    (c1 : W.entB table va bytes true = true) (c3 : ((p 0).a != W.entA table va true) = false) (c4 : W.bad (p 0).v = false) (c5 : W.leaf (p 0).v = false) (e1 : W.entB ((p 0).v / 1024) va bytes false = true) :
    Calls Tryz.prog 84 #[.agg #[.int .i64 mode, .int .u32 va, .int .i64 acc, .int .i64 bytes], .int .u32 table, .slice (some ⟨b, off, none⟩) n cap] w fun x w' => x = .returned (.tuple #[(W.moreS (W.entA ((p 0).v / 1024) va false)).val, .int .i64 1]) ∧ Below w.heap.size w w' := by
  subst hn
  have d0 := Dw.first (mode := mode) (va := va) (acc := acc) (bytes := bytes) w
  have hent := fun w => entry_any mode va acc bytes table true v0 v1 t0 t1 w
  rw [c1] at hent
  simp only [cond_true, cond_false] at hent
  have hent2 := fun w => entry_any mode va acc bytes ((p 0).v / 1024) false v0 v1 (by omega) (by omega) w
  rw [e1] at hent2
  simp only [cond_true, cond_false] at hent2
  have hpg := W.page_eq (p 0).v x0 x1
  generalize (p 0).v / 1024 = PG at *
  generalize W.entA PG va false = E2 at *
  generalize W.entA table va true = E1 at *
  obtain ⟨r00, r01, r02, r03, r04⟩ := hr 0 (by omega)
  simp only [Nat.zero_mul, Nat.add_zero] at r00 r01 r02 r03 r04
  clear hr
  generalize p 0 = P0 at *
  obtain ⟨pa, pv, po, pt, pf⟩ := P0
  dsimp only at *
  unfold W.Stp.val W.moreS
  dsimp only
  go_enter Tryz.func84, Tryz.ntmps84
  go_wp2
  refine wp_loop_rounds 3 ?_
  rw [rounds_succ]
  go_wp2_with (fail)
  refine (hent _).mono ?_
  rintro e w1 ⟨rfl, hb⟩
  have d1 := d0.below hb
  clear d0 hb hent
  have s0 := (d1.base.cell (p := ⟨b, off, none⟩) hlt).trans r00
  have s1 := (d1.base.cell (p := ⟨b, off + 1, none⟩) hlt).trans r01
  have s2 := (d1.base.cell (p := ⟨b, off + 2, none⟩) hlt).trans r02
  have s3 := (d1.base.cell (p := ⟨b, off + 3, none⟩) hlt).trans r03
  have s4 := (d1.base.cell (p := ⟨b, off + 4, none⟩) hlt).trans r04
  obtain ⟨g0, g1, g2, g3⟩ := way_cells d1.way
  obtain ⟨f0, f1, f2, f3, f4, fz⟩ := res_cells d1.res
  have l2 := d1.lt
  have l1 : w.heap.size < w1.heap.size := by omega
  go_wp2_with (first
    | (go_at_call 103; refine (bad_any _ _).mono ?_; rintro e w' ⟨rfl, rfl⟩)
    | (go_at_call 104; refine (leaf_any _ _).mono ?_; rintro e w' ⟨rfl, rfl⟩)
    | (go_at_call 106; refine (page_any _ _).mono ?_; rintro e w' ⟨rfl, kk, rfl⟩))
  rw [rounds_succ]
  go_wp2_with (fail)
  refine (hent2 _).mono ?_
  rintro e w2 ⟨rfl, hb⟩
  have d2 := ((d1.alloc _).drewN _).below hb
  clear d1 hb hent2
  clear g0 g1 g2 g3 f0 f1 f2 f3 f4 fz l1 l2
  clear s0 s1 s2 s3 s4
  obtain ⟨g0, g1, g2, g3⟩ := way_cells d2.way
  obtain ⟨f0, f1, f2, f3, f4, fz⟩ := res_cells d2.res
  have l2 := d2.lt
  have l1 : w.heap.size < w2.heap.size := by omega
  go_wp2
  exact bodyPost_ret (v := .tuple #[.agg #[.int .i64 3, .int .u32 0, .int .u32 E2, .int .u32 0, .int .u32 0], .int .i64 1]) (by simp [results, Tryz.results84, go_sem, *]) rfl ⟨rfl, fin5 d2.base (by omega) _ _ _ _ _⟩
end Go.Proofs.YteilpehekabccabGreatDoor

/- The way down, way 7. -/
namespace Go.Proofs.YteilpehekabccabGreatDoor
open Go.ChangeShapes Go.WideShapes Go.ChangeAt Go.RowKit
set_option linter.unusedVariables false
set_option linter.unusedSimpArgs false

set_option maxHeartbeats 1600000 in
theorem down_7 (mode va acc bytes table : Int) (v0 : 0 ≤ va) (v1 : va < 4294967296) (t0 : 0 ≤ table) (t1 : table < 4294967296) (n cap : Nat) (hm : n ≤ maxLen) (w : World) (b off : Nat) (p : Nat → W.Pt) (hlt : b < w.heap.size) (hr : Rd b off n p w) (hn : 1 < n) (x0 : 0 ≤ (p 0).v) (x1 : (p 0).v < 4294967296) (y0 : 0 ≤ (p 1).v) (y1 : (p 1).v < 4294967296)
    (c1 : W.entB table va bytes true = true) (c3 : ((p 0).a != W.entA table va true) = false) (c4 : W.bad (p 0).v = false) (c5 : W.leaf (p 0).v = false) (e1 : W.entB ((p 0).v / 1024) va bytes false = true) (e3 : ((p 1).a != W.entA ((p 0).v / 1024) va false) = true) :
    Calls Tryz.prog 84 #[.agg #[.int .i64 mode, .int .u32 va, .int .i64 acc, .int .i64 bytes], .int .u32 table, .slice (some ⟨b, off, none⟩) n cap] w fun x w' => x = .returned (.tuple #[(W.fltS acc true).val, .int .i64 1]) ∧ Below w.heap.size w w' := by
  have d0 := Dw.first (mode := mode) (va := va) (acc := acc) (bytes := bytes) w
  have hent := fun w => entry_any mode va acc bytes table true v0 v1 t0 t1 w
  rw [c1] at hent
  simp only [cond_true, cond_false] at hent
  have hent2 := fun w => entry_any mode va acc bytes ((p 0).v / 1024) false v0 v1 (by omega) (by omega) w
  rw [e1] at hent2
  simp only [cond_true, cond_false] at hent2
  have hpg := W.page_eq (p 0).v x0 x1
  generalize (p 0).v / 1024 = PG at *
  generalize W.entA PG va false = E2 at *
  generalize W.entA table va true = E1 at *
  obtain ⟨r00, r01, r02, r03, r04⟩ := hr 0 (by omega)
  simp only [Nat.zero_mul, Nat.add_zero] at r00 r01 r02 r03 r04
  obtain ⟨r10, r11, r12, r13, r14⟩ := hr 1 (by omega)
  simp only [Nat.one_mul] at r10 r11 r12 r13 r14
  clear hr
  generalize p 1 = P1 at *
  obtain ⟨qa, qv, qo, qt, qf⟩ := P1
  generalize p 0 = P0 at *
  obtain ⟨pa, pv, po, pt, pf⟩ := P0
  dsimp only at *
  have hn0 : ((0 : Int) == (n : Int)) = false := by simp; omega
  have hn1 : (0 : Int) < n := by omega
  have hn2 : ((1 : Int) == (n : Int)) = false := by simp; omega
  have hn3 : (1 : Int) < n := by omega
  unfold W.Stp.val W.fltS
  dsimp only
  go_enter Tryz.func84, Tryz.ntmps84
  go_wp2
  refine wp_loop_rounds 3 ?_
  rw [rounds_succ]
  go_wp2_with (fail)
  refine (hent _).mono ?_
  rintro e w1 ⟨rfl, hb⟩
  have d1 := d0.below hb
  clear d0 hb hent
  have s0 := (d1.base.cell (p := ⟨b, off, none⟩) hlt).trans r00
  have s1 := (d1.base.cell (p := ⟨b, off + 1, none⟩) hlt).trans r01
  have s2 := (d1.base.cell (p := ⟨b, off + 2, none⟩) hlt).trans r02
  have s3 := (d1.base.cell (p := ⟨b, off + 3, none⟩) hlt).trans r03
  have s4 := (d1.base.cell (p := ⟨b, off + 4, none⟩) hlt).trans r04
  obtain ⟨g0, g1, g2, g3⟩ := way_cells d1.way
  obtain ⟨f0, f1, f2, f3, f4, fz⟩ := res_cells d1.res
  have l2 := d1.lt
  have l1 : w.heap.size < w1.heap.size := by omega
  go_wp2_with (first
    | (go_at_call 103; refine (bad_any _ _).mono ?_; rintro e w' ⟨rfl, rfl⟩)
    | (go_at_call 104; refine (leaf_any _ _).mono ?_; rintro e w' ⟨rfl, rfl⟩)
    | (go_at_call 106; refine (page_any _ _).mono ?_; rintro e w' ⟨rfl, kk, rfl⟩))
  rw [rounds_succ]
  go_wp2_with (fail)
  refine (hent2 _).mono ?_
  rintro e w2 ⟨rfl, hb⟩
  have d2 := ((d1.alloc _).drewN _).below hb
  clear d1 hb hent2
  clear g0 g1 g2 g3 f0 f1 f2 f3 f4 fz l1 l2
  clear s0 s1 s2 s3 s4
  have s0 := (d2.base.cell (p := ⟨b, off + 5, none⟩) hlt).trans r10
  have s1 := (d2.base.cell (p := ⟨b, off + 5 + 1, none⟩) hlt).trans r11
  have s2 := (d2.base.cell (p := ⟨b, off + 5 + 2, none⟩) hlt).trans r12
  have s3 := (d2.base.cell (p := ⟨b, off + 5 + 3, none⟩) hlt).trans r13
  have s4 := (d2.base.cell (p := ⟨b, off + 5 + 4, none⟩) hlt).trans r14
  obtain ⟨g0, g1, g2, g3⟩ := way_cells d2.way
  obtain ⟨f0, f1, f2, f3, f4, fz⟩ := res_cells d2.res
  have l2 := d2.lt
  have l1 : w.heap.size < w2.heap.size := by omega
  go_wp2_with (first
    | (go_at_call 85; refine (wfault_any _ _ _ _ _ _).mono ?_; rintro e wf ⟨rfl, hbf⟩; have d9 := (d2.alloc _).below hbf; clear f0 f1 f2 f3 f4 fz; obtain ⟨f0, f1, f2, f3, f4, fz⟩ := res_cells d9.res))
  exact bodyPost_ret (v := .tuple #[.agg #[.int .i64 2, .int .u32 0, .int .u32 0, .int .u32 0, .int .u32 (W.cause acc true)], .int .i64 1]) (by simp [results, Tryz.results84, go_sem, *]) rfl ⟨rfl, fin5 d9.base (by omega) _ _ _ _ _⟩
end Go.Proofs.YteilpehekabccabGreatDoor

/- The way down, way 8. -/
namespace Go.Proofs.YteilpehekabccabGreatDoor
open Go.ChangeShapes Go.WideShapes Go.ChangeAt Go.RowKit
set_option linter.unusedVariables false
set_option linter.unusedSimpArgs false

set_option maxHeartbeats 1600000 in
theorem down_8 (mode va acc bytes table : Int) (v0 : 0 ≤ va) (v1 : va < 4294967296) (t0 : 0 ≤ table) (t1 : table < 4294967296) (n cap : Nat) (hm : n ≤ maxLen) (w : World) (b off : Nat) (p : Nat → W.Pt) (hlt : b < w.heap.size) (hr : Rd b off n p w) (hn : 1 < n) (x0 : 0 ≤ (p 0).v) (x1 : (p 0).v < 4294967296) (y0 : 0 ≤ (p 1).v) (y1 : (p 1).v < 4294967296)
    (c1 : W.entB table va bytes true = true) (c3 : ((p 0).a != W.entA table va true) = false) (c4 : W.bad (p 0).v = false) (c5 : W.leaf (p 0).v = false) (e1 : W.entB ((p 0).v / 1024) va bytes false = true) (e3 : ((p 1).a != W.entA ((p 0).v / 1024) va false) = false) (e4 : W.bad (p 1).v = true) :
    Calls Tryz.prog 84 #[.agg #[.int .i64 mode, .int .u32 va, .int .i64 acc, .int .i64 bytes], .int .u32 table, .slice (some ⟨b, off, none⟩) n cap] w fun x w' => x = .returned (.tuple #[(W.fltS acc true).val, .int .i64 2]) ∧ Below w.heap.size w w' := by
  have d0 := Dw.first (mode := mode) (va := va) (acc := acc) (bytes := bytes) w
  have hent := fun w => entry_any mode va acc bytes table true v0 v1 t0 t1 w
  rw [c1] at hent
  simp only [cond_true, cond_false] at hent
  have hent2 := fun w => entry_any mode va acc bytes ((p 0).v / 1024) false v0 v1 (by omega) (by omega) w
  rw [e1] at hent2
  simp only [cond_true, cond_false] at hent2
  have hpg := W.page_eq (p 0).v x0 x1
  generalize (p 0).v / 1024 = PG at *
  generalize W.entA PG va false = E2 at *
  generalize W.entA table va true = E1 at *
  obtain ⟨r00, r01, r02, r03, r04⟩ := hr 0 (by omega)
  simp only [Nat.zero_mul, Nat.add_zero] at r00 r01 r02 r03 r04
  obtain ⟨r10, r11, r12, r13, r14⟩ := hr 1 (by omega)
  simp only [Nat.one_mul] at r10 r11 r12 r13 r14
  clear hr
  generalize p 1 = P1 at *
  obtain ⟨qa, qv, qo, qt, qf⟩ := P1
  generalize p 0 = P0 at *
  obtain ⟨pa, pv, po, pt, pf⟩ := P0
  dsimp only at *
  have hn0 : ((0 : Int) == (n : Int)) = false := by simp; omega
  have hn1 : (0 : Int) < n := by omega
  have hn2 : ((1 : Int) == (n : Int)) = false := by simp; omega
  have hn3 : (1 : Int) < n := by omega
  unfold W.Stp.val W.fltS
  dsimp only
  go_enter Tryz.func84, Tryz.ntmps84
  go_wp2
  refine wp_loop_rounds 3 ?_
  rw [rounds_succ]
  go_wp2_with (fail)
  refine (hent _).mono ?_
  rintro e w1 ⟨rfl, hb⟩
  have d1 := d0.below hb
  clear d0 hb hent
  have s0 := (d1.base.cell (p := ⟨b, off, none⟩) hlt).trans r00
  have s1 := (d1.base.cell (p := ⟨b, off + 1, none⟩) hlt).trans r01
  have s2 := (d1.base.cell (p := ⟨b, off + 2, none⟩) hlt).trans r02
  have s3 := (d1.base.cell (p := ⟨b, off + 3, none⟩) hlt).trans r03
  have s4 := (d1.base.cell (p := ⟨b, off + 4, none⟩) hlt).trans r04
  obtain ⟨g0, g1, g2, g3⟩ := way_cells d1.way
  obtain ⟨f0, f1, f2, f3, f4, fz⟩ := res_cells d1.res
  have l2 := d1.lt
  have l1 : w.heap.size < w1.heap.size := by omega
  go_wp2_with (first
    | (go_at_call 103; refine (bad_any _ _).mono ?_; rintro e w' ⟨rfl, rfl⟩)
    | (go_at_call 104; refine (leaf_any _ _).mono ?_; rintro e w' ⟨rfl, rfl⟩)
    | (go_at_call 106; refine (page_any _ _).mono ?_; rintro e w' ⟨rfl, kk, rfl⟩))
  rw [rounds_succ]
  go_wp2_with (fail)
  refine (hent2 _).mono ?_
  rintro e w2 ⟨rfl, hb⟩
  have d2 := ((d1.alloc _).drewN _).below hb
  clear d1 hb hent2
  clear g0 g1 g2 g3 f0 f1 f2 f3 f4 fz l1 l2
  clear s0 s1 s2 s3 s4
  have s0 := (d2.base.cell (p := ⟨b, off + 5, none⟩) hlt).trans r10
  have s1 := (d2.base.cell (p := ⟨b, off + 5 + 1, none⟩) hlt).trans r11
  have s2 := (d2.base.cell (p := ⟨b, off + 5 + 2, none⟩) hlt).trans r12
  have s3 := (d2.base.cell (p := ⟨b, off + 5 + 3, none⟩) hlt).trans r13
  have s4 := (d2.base.cell (p := ⟨b, off + 5 + 4, none⟩) hlt).trans r14
  obtain ⟨g0, g1, g2, g3⟩ := way_cells d2.way
  obtain ⟨f0, f1, f2, f3, f4, fz⟩ := res_cells d2.res
  have l2 := d2.lt
  have l1 : w.heap.size < w2.heap.size := by omega
  go_wp2_with (first
    | (go_at_call 103; refine (bad_any _ _).mono ?_; rintro e w' ⟨rfl, rfl⟩)
    | (go_at_call 85; refine (wfault_any _ _ _ _ _ _).mono ?_; rintro e wf ⟨rfl, hbf⟩; have d9 := (d2.alloc _).below hbf; clear f0 f1 f2 f3 f4 fz; obtain ⟨f0, f1, f2, f3, f4, fz⟩ := res_cells d9.res))
  exact bodyPost_ret (v := .tuple #[.agg #[.int .i64 2, .int .u32 0, .int .u32 0, .int .u32 0, .int .u32 (W.cause acc true)], .int .i64 2]) (by simp [results, Tryz.results84, go_sem, *]) rfl ⟨rfl, fin5 d9.base (by omega) _ _ _ _ _⟩
end Go.Proofs.YteilpehekabccabGreatDoor

/- The way down, way 9. -/
namespace Go.Proofs.YteilpehekabccabGreatDoor
open Go.ChangeShapes Go.WideShapes Go.ChangeAt Go.RowKit
set_option linter.unusedVariables false
set_option linter.unusedSimpArgs false

set_option maxHeartbeats 1600000 in
theorem down_9 (mode va acc bytes table : Int) (v0 : 0 ≤ va) (v1 : va < 4294967296) (t0 : 0 ≤ table) (t1 : table < 4294967296) (n cap : Nat) (hm : n ≤ maxLen) (w : World) (b off : Nat) (p : Nat → W.Pt) (hlt : b < w.heap.size) (hr : Rd b off n p w) (hn : 1 < n) (x0 : 0 ≤ (p 0).v) (x1 : (p 0).v < 4294967296) (y0 : 0 ≤ (p 1).v) (y1 : (p 1).v < 4294967296)
    (c1 : W.entB table va bytes true = true) (c3 : ((p 0).a != W.entA table va true) = false) (c4 : W.bad (p 0).v = false) (c5 : W.leaf (p 0).v = false) (e1 : W.entB ((p 0).v / 1024) va bytes false = true) (e3 : ((p 1).a != W.entA ((p 0).v / 1024) va false) = false) (e4 : W.bad (p 1).v = false) (e5 : W.leaf (p 1).v = true) :
    Calls Tryz.prog 84 #[.agg #[.int .i64 mode, .int .u32 va, .int .i64 acc, .int .i64 bytes], .int .u32 table, .slice (some ⟨b, off, none⟩) n cap] w fun x w' => x = .returned (.tuple #[(W.leafS (p 1).a (p 1).v va acc mode false).val, .int .i64 2]) ∧ Below w.heap.size w w' := by
  have d0 := Dw.first (mode := mode) (va := va) (acc := acc) (bytes := bytes) w
  have hent := fun w => entry_any mode va acc bytes table true v0 v1 t0 t1 w
  rw [c1] at hent
  simp only [cond_true, cond_false] at hent
  have hent2 := fun w => entry_any mode va acc bytes ((p 0).v / 1024) false v0 v1 (by omega) (by omega) w
  rw [e1] at hent2
  simp only [cond_true, cond_false] at hent2
  have hpg := W.page_eq (p 0).v x0 x1
  generalize (p 0).v / 1024 = PG at *
  generalize W.entA PG va false = E2 at *
  generalize W.entA table va true = E1 at *
  have hleaf := fun a b c w => leafB_any mode va acc bytes (p 1).a (p 1).v a b c false v0 v1 y0 y1 w
  generalize W.leafS (p 1).a (p 1).v va acc mode false = S at *
  obtain ⟨S1, S2, S3, S4, S5⟩ := S
  obtain ⟨r00, r01, r02, r03, r04⟩ := hr 0 (by omega)
  simp only [Nat.zero_mul, Nat.add_zero] at r00 r01 r02 r03 r04
  obtain ⟨r10, r11, r12, r13, r14⟩ := hr 1 (by omega)
  simp only [Nat.one_mul] at r10 r11 r12 r13 r14
  clear hr
  generalize p 1 = P1 at *
  obtain ⟨qa, qv, qo, qt, qf⟩ := P1
  generalize p 0 = P0 at *
  obtain ⟨pa, pv, po, pt, pf⟩ := P0
  dsimp only at *
  have hn0 : ((0 : Int) == (n : Int)) = false := by simp; omega
  have hn1 : (0 : Int) < n := by omega
  have hn2 : ((1 : Int) == (n : Int)) = false := by simp; omega
  have hn3 : (1 : Int) < n := by omega
  unfold W.Stp.val 
  unfold W.Stp.val at hleaf
  dsimp only at hleaf ⊢
  go_enter Tryz.func84, Tryz.ntmps84
  go_wp2
  refine wp_loop_rounds 3 ?_
  rw [rounds_succ]
  go_wp2_with (fail)
  refine (hent _).mono ?_
  rintro e w1 ⟨rfl, hb⟩
  have d1 := d0.below hb
  clear d0 hb hent
  have s0 := (d1.base.cell (p := ⟨b, off, none⟩) hlt).trans r00
  have s1 := (d1.base.cell (p := ⟨b, off + 1, none⟩) hlt).trans r01
  have s2 := (d1.base.cell (p := ⟨b, off + 2, none⟩) hlt).trans r02
  have s3 := (d1.base.cell (p := ⟨b, off + 3, none⟩) hlt).trans r03
  have s4 := (d1.base.cell (p := ⟨b, off + 4, none⟩) hlt).trans r04
  obtain ⟨g0, g1, g2, g3⟩ := way_cells d1.way
  obtain ⟨f0, f1, f2, f3, f4, fz⟩ := res_cells d1.res
  have l2 := d1.lt
  have l1 : w.heap.size < w1.heap.size := by omega
  go_wp2_with (first
    | (go_at_call 103; refine (bad_any _ _).mono ?_; rintro e w' ⟨rfl, rfl⟩)
    | (go_at_call 104; refine (leaf_any _ _).mono ?_; rintro e w' ⟨rfl, rfl⟩)
    | (go_at_call 106; refine (page_any _ _).mono ?_; rintro e w' ⟨rfl, kk, rfl⟩))
  rw [rounds_succ]
  go_wp2_with (fail)
  refine (hent2 _).mono ?_
  rintro e w2 ⟨rfl, hb⟩
  have d2 := ((d1.alloc _).drewN _).below hb
  clear d1 hb hent2
  clear g0 g1 g2 g3 f0 f1 f2 f3 f4 fz l1 l2
  clear s0 s1 s2 s3 s4
  have s0 := (d2.base.cell (p := ⟨b, off + 5, none⟩) hlt).trans r10
  have s1 := (d2.base.cell (p := ⟨b, off + 5 + 1, none⟩) hlt).trans r11
  have s2 := (d2.base.cell (p := ⟨b, off + 5 + 2, none⟩) hlt).trans r12
  have s3 := (d2.base.cell (p := ⟨b, off + 5 + 3, none⟩) hlt).trans r13
  have s4 := (d2.base.cell (p := ⟨b, off + 5 + 4, none⟩) hlt).trans r14
  obtain ⟨g0, g1, g2, g3⟩ := way_cells d2.way
  obtain ⟨f0, f1, f2, f3, f4, fz⟩ := res_cells d2.res
  have l2 := d2.lt
  have l1 : w.heap.size < w2.heap.size := by omega
  go_wp2_with (first
    | (go_at_call 103; refine (bad_any _ _).mono ?_; rintro e w' ⟨rfl, rfl⟩)
    | (go_at_call 104; refine (leaf_any _ _).mono ?_; rintro e w' ⟨rfl, rfl⟩)
    | (go_at_call 105; refine (hleaf _ _ _ _).mono ?_; rintro e wf ⟨rfl, hbf⟩; have d9 := (d2.alloc _).below hbf; clear f0 f1 f2 f3 f4 fz; obtain ⟨f0, f1, f2, f3, f4, fz⟩ := res_cells d9.res))
  exact bodyPost_ret (v := .tuple #[.agg #[.int .i64 S1, .int .u32 S2, .int .u32 S3, .int .u32 S4, .int .u32 S5], .int .i64 2]) (by simp [results, Tryz.results84, go_sem, *]) rfl ⟨rfl, fin5 d9.base (by omega) _ _ _ _ _⟩
end Go.Proofs.YteilpehekabccabGreatDoor

/- The way down, way 10. -/
namespace Go.Proofs.YteilpehekabccabGreatDoor
open Go.ChangeShapes Go.WideShapes Go.ChangeAt Go.RowKit
set_option linter.unusedVariables false
set_option linter.unusedSimpArgs false

set_option maxHeartbeats 1600000 in
theorem down_10 (mode va acc bytes table : Int) (v0 : 0 ≤ va) (v1 : va < 4294967296) (t0 : 0 ≤ table) (t1 : table < 4294967296) (n cap : Nat) (hm : n ≤ maxLen) (w : World) (b off : Nat) (p : Nat → W.Pt) (hlt : b < w.heap.size) (hr : Rd b off n p w) (hn : 1 < n) (x0 : 0 ≤ (p 0).v) (x1 : (p 0).v < 4294967296) (y0 : 0 ≤ (p 1).v) (y1 : (p 1).v < 4294967296)
    (c1 : W.entB table va bytes true = true) (c3 : ((p 0).a != W.entA table va true) = false) (c4 : W.bad (p 0).v = false) (c5 : W.leaf (p 0).v = false) (e1 : W.entB ((p 0).v / 1024) va bytes false = true) (e3 : ((p 1).a != W.entA ((p 0).v / 1024) va false) = false) (e4 : W.bad (p 1).v = false) (e5 : W.leaf (p 1).v = false) :
    Calls Tryz.prog 84 #[.agg #[.int .i64 mode, .int .u32 va, .int .i64 acc, .int .i64 bytes], .int .u32 table, .slice (some ⟨b, off, none⟩) n cap] w fun x w' => x = .returned (.tuple #[(W.fltS acc true).val, .int .i64 2]) ∧ Below w.heap.size w w' := by
  have d0 := Dw.first (mode := mode) (va := va) (acc := acc) (bytes := bytes) w
  have hent := fun w => entry_any mode va acc bytes table true v0 v1 t0 t1 w
  rw [c1] at hent
  simp only [cond_true, cond_false] at hent
  have hent2 := fun w => entry_any mode va acc bytes ((p 0).v / 1024) false v0 v1 (by omega) (by omega) w
  rw [e1] at hent2
  simp only [cond_true, cond_false] at hent2
  have hpg := W.page_eq (p 0).v x0 x1
  generalize (p 0).v / 1024 = PG at *
  generalize W.entA PG va false = E2 at *
  generalize W.entA table va true = E1 at *
  obtain ⟨r00, r01, r02, r03, r04⟩ := hr 0 (by omega)
  simp only [Nat.zero_mul, Nat.add_zero] at r00 r01 r02 r03 r04
  obtain ⟨r10, r11, r12, r13, r14⟩ := hr 1 (by omega)
  simp only [Nat.one_mul] at r10 r11 r12 r13 r14
  clear hr
  generalize p 1 = P1 at *
  obtain ⟨qa, qv, qo, qt, qf⟩ := P1
  generalize p 0 = P0 at *
  obtain ⟨pa, pv, po, pt, pf⟩ := P0
  dsimp only at *
  have hn0 : ((0 : Int) == (n : Int)) = false := by simp; omega
  have hn1 : (0 : Int) < n := by omega
  have hn2 : ((1 : Int) == (n : Int)) = false := by simp; omega
  have hn3 : (1 : Int) < n := by omega
  unfold W.Stp.val W.fltS
  dsimp only
  go_enter Tryz.func84, Tryz.ntmps84
  go_wp2
  refine wp_loop_rounds 3 ?_
  rw [rounds_succ]
  go_wp2_with (fail)
  refine (hent _).mono ?_
  rintro e w1 ⟨rfl, hb⟩
  have d1 := d0.below hb
  clear d0 hb hent
  have s0 := (d1.base.cell (p := ⟨b, off, none⟩) hlt).trans r00
  have s1 := (d1.base.cell (p := ⟨b, off + 1, none⟩) hlt).trans r01
  have s2 := (d1.base.cell (p := ⟨b, off + 2, none⟩) hlt).trans r02
  have s3 := (d1.base.cell (p := ⟨b, off + 3, none⟩) hlt).trans r03
  have s4 := (d1.base.cell (p := ⟨b, off + 4, none⟩) hlt).trans r04
  obtain ⟨g0, g1, g2, g3⟩ := way_cells d1.way
  obtain ⟨f0, f1, f2, f3, f4, fz⟩ := res_cells d1.res
  have l2 := d1.lt
  have l1 : w.heap.size < w1.heap.size := by omega
  go_wp2_with (first
    | (go_at_call 103; refine (bad_any _ _).mono ?_; rintro e w' ⟨rfl, rfl⟩)
    | (go_at_call 104; refine (leaf_any _ _).mono ?_; rintro e w' ⟨rfl, rfl⟩)
    | (go_at_call 106; refine (page_any _ _).mono ?_; rintro e w' ⟨rfl, kk, rfl⟩))
  rw [rounds_succ]
  go_wp2_with (fail)
  refine (hent2 _).mono ?_
  rintro e w2 ⟨rfl, hb⟩
  have d2 := ((d1.alloc _).drewN _).below hb
  clear d1 hb hent2
  clear g0 g1 g2 g3 f0 f1 f2 f3 f4 fz l1 l2
  clear s0 s1 s2 s3 s4
  have s0 := (d2.base.cell (p := ⟨b, off + 5, none⟩) hlt).trans r10
  have s1 := (d2.base.cell (p := ⟨b, off + 5 + 1, none⟩) hlt).trans r11
  have s2 := (d2.base.cell (p := ⟨b, off + 5 + 2, none⟩) hlt).trans r12
  have s3 := (d2.base.cell (p := ⟨b, off + 5 + 3, none⟩) hlt).trans r13
  have s4 := (d2.base.cell (p := ⟨b, off + 5 + 4, none⟩) hlt).trans r14
  obtain ⟨g0, g1, g2, g3⟩ := way_cells d2.way
  obtain ⟨f0, f1, f2, f3, f4, fz⟩ := res_cells d2.res
  have l2 := d2.lt
  have l1 : w.heap.size < w2.heap.size := by omega
  go_wp2_with (first
    | (go_at_call 103; refine (bad_any _ _).mono ?_; rintro e w' ⟨rfl, rfl⟩)
    | (go_at_call 104; refine (leaf_any _ _).mono ?_; rintro e w' ⟨rfl, rfl⟩)
    | (go_at_call 106; refine (page_any _ _).mono ?_; rintro e w' ⟨rfl, kk, rfl⟩))
  rw [rounds_succ]
  go_wp2_with (first
    | (go_at_call 85; refine (wfault_any _ _ _ _ _ _).mono ?_; rintro e wf ⟨rfl, hbf⟩; have d9 := ((d2.alloc _).drewN _).below hbf; clear f0 f1 f2 f3 f4 fz; obtain ⟨f0, f1, f2, f3, f4, fz⟩ := res_cells d9.res))
  exact bodyPost_ret (v := .tuple #[.agg #[.int .i64 2, .int .u32 0, .int .u32 0, .int .u32 0, .int .u32 (W.cause acc true)], .int .i64 2]) (by simp [results, Tryz.results84, go_sem, *]) rfl ⟨rfl, fin5 d9.base (by omega) _ _ _ _ _⟩
end Go.Proofs.YteilpehekabccabGreatDoor
