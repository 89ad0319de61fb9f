/- Texts in one: WalkE5, WalkE6, WalkE7, WalkE8, WalkE9, WalkE10, WalkF. -/
import Derived.Test.YteilpehekabccaaGreatDoorJ13
/- The way down, way 5. -/
namespace Go.Proofs.YteilpehekabccaaGreatDoor
open Go.ChangeShapes Go.WideShapes Go.ChangeAt Go.RowKit
set_option linter.unusedVariables false
set_option linter.unusedSimpArgs false

set_option maxHeartbeats 1600000 in
theorem down_5 (mode va acc bytes table : Int) (v0 : 0 ≤ va) (v1 : va < 4294967296) (t0 : 0 ≤ table) (t1 : table < 4294967296) (n cap : Nat) (hm : n ≤ maxLen) (w : World) (b off : Nat) (p : Nat → W.Pt) (hlt : b < w.heap.size) (hr : Rd b off n p w) (hn : 0 < n) (x0 : 0 ≤ (p 0).v) (x1 : (p 0).v < 4294967296)
    (c1 : W.entB table va bytes true = true) (c3 : ((p 0).a != W.entA table va true) = false) (c4 : W.bad (p 0).v = false) (c5 : W.leaf (p 0).v = false) (e1 : W.entB ((p 0).v / 1024) va bytes false = false) :
    Calls Tryz.prog 165 #[.agg #[.int .i64 mode, .int .u32 va, .int .i64 acc, .int .i64 bytes], .int .u32 table, .slice (some ⟨b, off, none⟩) n cap] w fun x w' => x = .returned (.tuple #[(W.fltS acc false).val, .int .i64 1]) ∧ Below w.heap.size w w' := by
  have d0 := Dw.first (mode := mode) (va := va) (acc := acc) (bytes := bytes) w
  have hent := fun w => entry_any mode va acc bytes table true v0 v1 t0 t1 w
  rw [c1] at hent
  simp only [cond_true, cond_false] at hent
  have hent2 := fun w => entry_any mode va acc bytes ((p 0).v / 1024) false v0 v1 (by omega) (by omega) w
  rw [e1] at hent2
  simp only [cond_true, cond_false] at hent2
  have hpg := W.page_eq (p 0).v x0 x1
  generalize (p 0).v / 1024 = PG at *
  generalize W.entA PG va false = E2 at *
  generalize W.entA table va true = E1 at *
  obtain ⟨r00, r01, r02, r03, r04⟩ := hr 0 (by omega)
  simp only [Nat.zero_mul, Nat.add_zero] at r00 r01 r02 r03 r04
  clear hr
  generalize p 0 = P0 at *
  obtain ⟨pa, pv, po, pt, pf⟩ := P0
  dsimp only at *
  have hn0 : ((0 : Int) == (n : Int)) = false := by simp; omega
  have hn1 : (0 : Int) < n := by omega
  unfold W.Stp.val W.fltS
  dsimp only
  go_enter Tryz.func165, Tryz.ntmps165
  go_wp2
  refine wp_loop_rounds 3 ?_
  rw [rounds_succ]
  go_wp2_with (fail)
  refine (hent _).mono ?_
  rintro e w1 ⟨rfl, hb⟩
  have d1 := d0.below hb
  clear d0 hb hent
  have s0 := (d1.base.cell (p := ⟨b, off, none⟩) hlt).trans r00
  have s1 := (d1.base.cell (p := ⟨b, off + 1, none⟩) hlt).trans r01
  have s2 := (d1.base.cell (p := ⟨b, off + 2, none⟩) hlt).trans r02
  have s3 := (d1.base.cell (p := ⟨b, off + 3, none⟩) hlt).trans r03
  have s4 := (d1.base.cell (p := ⟨b, off + 4, none⟩) hlt).trans r04
  obtain ⟨g0, g1, g2, g3⟩ := way_cells d1.way
  obtain ⟨f0, f1, f2, f3, f4, fz⟩ := res_cells d1.res
  have l2 := d1.lt
  have l1 : w.heap.size < w1.heap.size := by omega
  go_wp2_with (first
    | (go_at_call 180; refine (bad_any _ _).mono ?_; rintro e w' ⟨rfl, rfl⟩)
    | (go_at_call 181; refine (leaf_any _ _).mono ?_; rintro e w' ⟨rfl, rfl⟩)
    | (go_at_call 183; refine (page_any _ _).mono ?_; rintro e w' ⟨rfl, kk, rfl⟩))
  rw [rounds_succ]
  go_wp2_with (fail)
  refine (hent2 _).mono ?_
  rintro e w2 ⟨rfl, hb⟩
  have d2 := ((d1.alloc _).drewN _).below hb
  clear d1 hb hent2
  clear g0 g1 g2 g3 f0 f1 f2 f3 f4 fz l1 l2
  clear s0 s1 s2 s3 s4
  obtain ⟨g0, g1, g2, g3⟩ := way_cells d2.way
  obtain ⟨f0, f1, f2, f3, f4, fz⟩ := res_cells d2.res
  have l2 := d2.lt
  have l1 : w.heap.size < w2.heap.size := by omega
  go_wp2_with (first
    | (go_at_call 166; refine (wfault_any _ _ _ _ _ _).mono ?_; rintro e wf ⟨rfl, hbf⟩; have d9 := d2.below hbf; clear f0 f1 f2 f3 f4 fz; obtain ⟨f0, f1, f2, f3, f4, fz⟩ := res_cells d9.res))
  exact bodyPost_ret (v := .tuple #[.agg #[.int .i64 2, .int .u32 0, .int .u32 0, .int .u32 0, .int .u32 (W.cause acc false)], .int .i64 1]) (by simp [results, Tryz.results165, go_sem, *]) rfl ⟨rfl, fin5 d9.base (by omega) _ _ _ _ _⟩
end Go.Proofs.YteilpehekabccaaGreatDoor

/- The way down, way 6. -/
namespace Go.Proofs.YteilpehekabccaaGreatDoor
open Go.ChangeShapes Go.WideShapes Go.ChangeAt Go.RowKit
set_option linter.unusedVariables false
set_option linter.unusedSimpArgs false

set_option maxHeartbeats 1600000 in
theorem down_6 (mode va acc bytes table : Int) (v0 : 0 ≤ va) (v1 : va < 4294967296) (t0 : 0 ≤ table) (t1 : table < 4294967296) (n cap : Nat) (hm : n ≤ maxLen) (w : World) (b off : Nat) (p : Nat → W.Pt) (hlt : b < w.heap.size) (hr : Rd b off n p w) (hn : n = 1) (x0 : 0 ≤ (p 0).v) (x1 : (p 0).v < 4294967296)
    (c1 : W.entB table va bytes true = true) (c3 : ((p 0).a != W.entA table va true) = false) (c4 : W.bad (p 0).v = false) (c5 : W.leaf (p 0).v = false) (e1 : W.entB ((p 0).v / 1024) va bytes false = true) :
    Calls Tryz.prog 165 #[.agg #[.int .i64 mode, .int .u32 va, .int .i64 acc, .int .i64 bytes], .int .u32 table, .slice (some ⟨b, off, none⟩) n cap] w fun x w' => x = .returned (.tuple #[(W.moreS (W.entA ((p 0).v / 1024) va false)).val, .int .i64 1]) ∧ Below w.heap.size w w' := by
  subst hn
  have d0 := Dw.first (mode := mode) (va := va) (acc := acc) (bytes := bytes) w
  have hent := fun w => entry_any mode va acc bytes table true v0 v1 t0 t1 w
  rw [c1] at hent
  simp only [cond_true, cond_false] at hent
  have hent2 := fun w => entry_any mode va acc bytes ((p 0).v / 1024) false v0 v1 (by omega) (by omega) w
  rw [e1] at hent2
  simp only [cond_true, cond_false] at hent2
  have hpg := W.page_eq (p 0).v x0 x1
  generalize (p 0).v / 1024 = PG at *
  generalize W.entA PG va false = E2 at *
  generalize W.entA table va true = E1 at *
  obtain ⟨r00, r01, r02, r03, r04⟩ := hr 0 (by omega)
  simp only [Nat.zero_mul, Nat.add_zero] at r00 r01 r02 r03 r04
  clear hr
  generalize p 0 = P0 at *
  obtain ⟨pa, pv, po, pt, pf⟩ := P0
  dsimp only at *
  unfold W.Stp.val W.moreS
  dsimp only
  go_enter Tryz.func165, Tryz.ntmps165
  go_wp2
  refine wp_loop_rounds 3 ?_
  rw [rounds_succ]
  go_wp2_with (fail)
  refine (hent _).mono ?_
  rintro e w1 ⟨rfl, hb⟩
  have d1 := d0.below hb
  clear d0 hb hent
  have s0 := (d1.base.cell (p := ⟨b, off, none⟩) hlt).trans r00
  have s1 := (d1.base.cell (p := ⟨b, off + 1, none⟩) hlt).trans r01
  have s2 := (d1.base.cell (p := ⟨b, off + 2, none⟩) hlt).trans r02
  have s3 := (d1.base.cell (p := ⟨b, off + 3, none⟩) hlt).trans r03
  have s4 := (d1.base.cell (p := ⟨b, off + 4, none⟩) hlt).trans r04
  obtain ⟨g0, g1, g2, g3⟩ := way_cells d1.way
  obtain ⟨f0, f1, f2, f3, f4, fz⟩ := res_cells d1.res
  have l2 := d1.lt
  have l1 : w.heap.size < w1.heap.size := by omega
  go_wp2_with (first
    | (go_at_call 180; refine (bad_any _ _).mono ?_; rintro e w' ⟨rfl, rfl⟩)
    | (go_at_call 181; refine (leaf_any _ _).mono ?_; rintro e w' ⟨rfl, rfl⟩)
    | (go_at_call 183; refine (page_any _ _).mono ?_; rintro e w' ⟨rfl, kk, rfl⟩))
  rw [rounds_succ]
  go_wp2_with (fail)
  refine (hent2 _).mono ?_
  rintro e w2 ⟨rfl, hb⟩
  have d2 := ((d1.alloc _).drewN _).below hb
  clear d1 hb hent2
  clear g0 g1 g2 g3 f0 f1 f2 f3 f4 fz l1 l2
  clear s0 s1 s2 s3 s4
  obtain ⟨g0, g1, g2, g3⟩ := way_cells d2.way
  obtain ⟨f0, f1, f2, f3, f4, fz⟩ := res_cells d2.res
  have l2 := d2.lt
  have l1 : w.heap.size < w2.heap.size := by omega
  go_wp2
  exact bodyPost_ret (v := .tuple #[.agg #[.int .i64 3, .int .u32 0, .int .u32 E2, .int .u32 0, .int .u32 0], .int .i64 1]) (by simp [results, Tryz.results165, go_sem, *]) rfl ⟨rfl, fin5 d2.base (by omega) _ _ _ _ _⟩
end Go.Proofs.YteilpehekabccaaGreatDoor

/- The way down, way 7. -/
namespace Go.Proofs.YteilpehekabccaaGreatDoor
open Go.ChangeShapes Go.WideShapes Go.ChangeAt Go.RowKit
set_option linter.unusedVariables false
set_option linter.unusedSimpArgs false

set_option maxHeartbeats 1600000 in
theorem down_7 (mode va acc bytes table : Int) (v0 : 0 ≤ va) (v1 : va < 4294967296) (t0 : 0 ≤ table) (t1 : table < 4294967296) (n cap : Nat) (hm : n ≤ maxLen) (w : World) (b off : Nat) (p : Nat → W.Pt) (hlt : b < w.heap.size) (hr : Rd b off n p w) (hn : 1 < n) (x0 : 0 ≤ (p 0).v) (x1 : (p 0).v < 4294967296) (y0 : 0 ≤ (p 1).v) (y1 : (p 1).v < 4294967296)
    (c1 : W.entB table va bytes true = true) (c3 : ((p 0).a != W.entA table va true) = false) (c4 : W.bad (p 0).v = false) (c5 : W.leaf (p 0).v = false) (e1 : W.entB ((p 0).v / 1024) va bytes false = true) (e3 : ((p 1).a != W.entA ((p 0).v / 1024) va false) = true) :
    Calls Tryz.prog 165 #[.agg #[.int .i64 mode, .int .u32 va, .int .i64 acc, .int .i64 bytes], .int .u32 table, .slice (some ⟨b, off, none⟩) n cap] w fun x w' => x = .returned (.tuple #[(W.fltS acc true).val, .int .i64 1]) ∧ Below w.heap.size w w' := by
  have d0 := Dw.first (mode := mode) (va := va) (acc := acc) (bytes := bytes) w
  have hent := fun w => entry_any mode va acc bytes table true v0 v1 t0 t1 w
  rw [c1] at hent
  simp only [cond_true, cond_false] at hent
  have hent2 := fun w => entry_any mode va acc bytes ((p 0).v / 1024) false v0 v1 (by omega) (by omega) w
  rw [e1] at hent2
  simp only [cond_true, cond_false] at hent2
  have hpg := W.page_eq (p 0).v x0 x1
  generalize (p 0).v / 1024 = PG at *
  generalize W.entA PG va false = E2 at *
  generalize W.entA table va true = E1 at *
  obtain ⟨r00, r01, r02, r03, r04⟩ := hr 0 (by omega)
  simp only [Nat.zero_mul, Nat.add_zero] at r00 r01 r02 r03 r04
  obtain ⟨r10, r11, r12, r13, r14⟩ := hr 1 (by omega)
  simp only [Nat.one_mul] at r10 r11 r12 r13 r14
  clear hr
  generalize p 1 = P1 at *
  obtain ⟨qa, qv, qo, qt, qf⟩ := P1
  generalize p 0 = P0 at *
  obtain ⟨pa, pv, po, pt, pf⟩ := P0
  dsimp only at *
  have hn0 : ((0 : Int) == (n : Int)) = false := by simp; omega
  have hn1 : (0 : Int) < n := by omega
  have hn2 : ((1 : Int) == (n : Int)) = false := by simp; omega
  have hn3 : (1 : Int) < n := by omega
  unfold W.Stp.val W.fltS
  dsimp only
  go_enter Tryz.func165, Tryz.ntmps165
  go_wp2
  refine wp_loop_rounds 3 ?_
  rw [rounds_succ]
  go_wp2_with (fail)
  refine (hent _).mono ?_
  rintro e w1 ⟨rfl, hb⟩
  have d1 := d0.below hb
  clear d0 hb hent
  have s0 := (d1.base.cell (p := ⟨b, off, none⟩) hlt).trans r00
  have s1 := (d1.base.cell (p := ⟨b, off + 1, none⟩) hlt).trans r01
  have s2 := (d1.base.cell (p := ⟨b, off + 2, none⟩) hlt).trans r02
  have s3 := (d1.base.cell (p := ⟨b, off + 3, none⟩) hlt).trans r03
  have s4 := (d1.base.cell (p := ⟨b, off + 4, none⟩) hlt).trans r04
  obtain ⟨g0, g1, g2, g3⟩ := way_cells d1.way
  obtain ⟨f0, f1, f2, f3, f4, fz⟩ := res_cells d1.res
  have l2 := d1.lt
  have l1 : w.heap.size < w1.heap.size := by omega
  go_wp2_with (first
    | (go_at_call 180; refine (bad_any _ _).mono ?_; rintro e w' ⟨rfl, rfl⟩)
    | (go_at_call 181; refine (leaf_any _ _).mono ?_; rintro e w' ⟨rfl, rfl⟩)
    | (go_at_call 183; refine (page_any _ _).mono ?_; rintro e w' ⟨rfl, kk, rfl⟩))
  rw [rounds_succ]
  go_wp2_with (fail)
  refine (hent2 _).mono ?_
  rintro e w2 ⟨rfl, hb⟩
  have d2 := ((d1.alloc _).drewN _).below hb
  clear d1 hb hent2
  clear g0 g1 g2 g3 f0 f1 f2 f3 f4 fz l1 l2
  clear s0 s1 s2 s3 s4
  have s0 := (d2.base.cell (p := ⟨b, off + 5, none⟩) hlt).trans r10
  have s1 := (d2.base.cell (p := ⟨b, off + 5 + 1, none⟩) hlt).trans r11
  have s2 := (d2.base.cell (p := ⟨b, off + 5 + 2, none⟩) hlt).trans r12
  have s3 := (d2.base.cell (p := ⟨b, off + 5 + 3, none⟩) hlt).trans r13
  have s4 := (d2.base.cell (p := ⟨b, off + 5 + 4, none⟩) hlt).trans r14
  obtain ⟨g0, g1, g2, g3⟩ := way_cells d2.way
  obtain ⟨f0, f1, f2, f3, f4, fz⟩ := res_cells d2.res
  have l2 := d2.lt
  have l1 : w.heap.size < w2.heap.size := by omega
  go_wp2_with (first
    | (go_at_call 166; refine (wfault_any _ _ _ _ _ _).mono ?_; rintro e wf ⟨rfl, hbf⟩; have d9 := (d2.alloc _).below hbf; clear f0 f1 f2 f3 f4 fz; obtain ⟨f0, f1, f2, f3, f4, fz⟩ := res_cells d9.res))
  exact bodyPost_ret (v := .tuple #[.agg #[.int .i64 2, .int .u32 0, .int .u32 0, .int .u32 0, .int .u32 (W.cause acc true)], .int .i64 1]) (by simp [results, Tryz.results165, go_sem, *]) rfl ⟨rfl, fin5 d9.base (by omega) _ _ _ _ _⟩
end Go.Proofs.YteilpehekabccaaGreatDoor

/- The way down, way 8. -/
namespace Go.Proofs.YteilpehekabccaaGreatDoor
open Go.ChangeShapes Go.WideShapes Go.ChangeAt Go.RowKit
set_option linter.unusedVariables false
set_option linter.unusedSimpArgs false

set_option maxHeartbeats 1600000 in
theorem down_8 (mode va acc bytes table : Int) (v0 : 0 ≤ va) (v1 : va < 4294967296) (t0 : 0 ≤ table) (t1 : table < 4294967296) (n cap : Nat) (hm : n ≤ maxLen) (w : World) (b off : Nat) (p : Nat → W.Pt) (hlt : b < w.heap.size) (hr : Rd b off n p w) (hn : 1 < n) (x0 : 0 ≤ (p 0).v) (x1 : (p 0).v < 4294967296) (y0 : 0 ≤ (p 1).v) (y1 : (p 1).v < 4294967296)
    (c1 : W.entB table va bytes true = true) (c3 : ((p 0).a != W.entA table va true) = false) (c4 : W.bad (p 0).v = false) (c5 : W.leaf (p 0).v = false) (e1 : W.entB ((p 0).v / 1024) va bytes false = true) (e3 : ((p 1).a != W.entA ((p 0).v / 1024) va false) = false) (e4 : W.bad (p 1).v = true) :
    Calls Tryz.prog 165 #[.agg #[.int .i64 mode, .int .u32 va, .int .i64 acc, .int .i64 bytes], .int .u32 table, .slice (some ⟨b, off, none⟩) n cap] w fun x w' => x = .returned (.tuple #[(W.fltS acc true).val, .int .i64 2]) ∧ Below w.heap.size w w' := by
  have d0 := Dw.first (mode := mode) (va := va) (acc := acc) (bytes := bytes) w
  have hent := fun w => entry_any mode va acc bytes table true v0 v1 t0 t1 w
  rw [c1] at hent
  simp only [cond_true, cond_false] at hent
  have hent2 := fun w => entry_any mode va acc bytes ((p 0).v / 1024) false v0 v1 (by omega) (by omega) w
  rw [e1] at hent2
  simp only [cond_true, cond_false] at hent2
  have hpg := W.page_eq (p 0).v x0 x1
  generalize (p 0).v / 1024 = PG at *
  generalize W.entA PG va false = E2 at *
  generalize W.entA table va true = E1 at *
  obtain ⟨r00, r01, r02, r03, r04⟩ := hr 0 (by omega)
  simp only [Nat.zero_mul, Nat.add_zero] at r00 r01 r02 r03 r04
  obtain ⟨r10, r11, r12, r13, r14⟩ := hr 1 (by omega)
  simp only [Nat.one_mul] at r10 r11 r12 r13 r14
  clear hr
  generalize p 1 = P1 at *
  obtain ⟨qa, qv, qo, qt, qf⟩ := P1
  generalize p 0 = P0 at *
  obtain ⟨pa, pv, po, pt, pf⟩ := P0
  dsimp only at *
  have hn0 : ((0 : Int) == (n : Int)) = false := by simp; omega
  have hn1 : (0 : Int) < n := by omega
  have hn2 : ((1 : Int) == (n : Int)) = false := by simp; omega
  have hn3 : (1 : Int) < n := by omega
  unfold W.Stp.val W.fltS
  dsimp only
  go_enter Tryz.func165, Tryz.ntmps165
  go_wp2
  refine wp_loop_rounds 3 ?_
  rw [rounds_succ]
  go_wp2_with (fail)
  refine (hent _).mono ?_
  rintro e w1 ⟨rfl, hb⟩
  have d1 := d0.below hb
  clear d0 hb hent
  have s0 := (d1.base.cell (p := ⟨b, off, none⟩) hlt).trans r00
  have s1 := (d1.base.cell (p := ⟨b, off + 1, none⟩) hlt).trans r01
  have s2 := (d1.base.cell (p := ⟨b, off + 2, none⟩) hlt).trans r02
  have s3 := (d1.base.cell (p := ⟨b, off + 3, none⟩) hlt).trans r03
  have s4 := (d1.base.cell (p := ⟨b, off + 4, none⟩) hlt).trans r04
  obtain ⟨g0, g1, g2, g3⟩ := way_cells d1.way
  obtain ⟨f0, f1, f2, f3, f4, fz⟩ := res_cells d1.res
  have l2 := d1.lt
  have l1 : w.heap.size < w1.heap.size := by omega
  go_wp2_with (first
    | (go_at_call 180; refine (bad_any _ _).mono ?_; rintro e w' ⟨rfl, rfl⟩)
    | (go_at_call 181; refine (leaf_any _ _).mono ?_; rintro e w' ⟨rfl, rfl⟩)
    | (go_at_call 183; refine (page_any _ _).mono ?_; rintro e w' ⟨rfl, kk, rfl⟩))
  rw [rounds_succ]
  go_wp2_with (fail)
  refine (hent2 _).mono ?_
  rintro e w2 ⟨rfl, hb⟩
  have d2 := ((d1.alloc _).drewN _).below hb
  clear d1 hb hent2
  clear g0 g1 g2 g3 f0 f1 f2 f3 f4 fz l1 l2
  clear s0 s1 s2 s3 s4
  have s0 := (d2.base.cell (p := ⟨b, off + 5, none⟩) hlt).trans r10
  have s1 := (d2.base.cell (p := ⟨b, off + 5 + 1, none⟩) hlt).trans r11
  have s2 := (d2.base.cell (p := ⟨b, off + 5 + 2, none⟩) hlt).trans r12
  have s3 := (d2.base.cell (p := ⟨b, off + 5 + 3, none⟩) hlt).trans r13
  have s4 := (d2.base.cell (p := ⟨b, off + 5 + 4, none⟩) hlt).trans r14
  obtain ⟨g0, g1, g2, g3⟩ := way_cells d2.way
  obtain ⟨f0, f1, f2, f3, f4, fz⟩ := res_cells d2.res
  have l2 := d2.lt
  have l1 : w.heap.size < w2.heap.size := by omega
  go_wp2_with (first
    | (go_at_call 180; refine (bad_any _ _).mono ?_; rintro e w' ⟨rfl, rfl⟩)
    | (go_at_call 166; refine (wfault_any _ _ _ _ _ _).mono ?_; rintro e wf ⟨rfl, hbf⟩; have d9 := (d2.alloc _).below hbf; clear f0 f1 f2 f3 f4 fz; obtain ⟨f0, f1, f2, f3, f4, fz⟩ := res_cells d9.res))
  exact bodyPost_ret (v := .tuple #[.agg #[.int .i64 2, .int .u32 0, .int .u32 0, .int .u32 0, .int .u32 (W.cause acc true)], .int .i64 2]) (by simp [results, Tryz.results165, go_sem, *]) rfl ⟨rfl, fin5 d9.base (by omega) _ _ _ _ _⟩
end Go.Proofs.YteilpehekabccaaGreatDoor

/- The way down, way 9. -/
namespace Go.Proofs.YteilpehekabccaaGreatDoor
open Go.ChangeShapes Go.WideShapes Go.ChangeAt Go.RowKit
set_option linter.unusedVariables false
set_option linter.unusedSimpArgs false

set_option maxHeartbeats 1600000 in
theorem down_9 (mode va acc bytes table : Int) (v0 : 0 ≤ va) (v1 : va < 4294967296) (t0 : 0 ≤ table) (t1 : table < 4294967296) (n cap : Nat) (hm : n ≤ maxLen) (w : World) (b off : Nat) (p : Nat → W.Pt) (hlt : b < w.heap.size) (hr : Rd b off n p w) (hn : 1 < n) (x0 : 0 ≤ (p 0).v) (x1 : (p 0).v < 4294967296) (y0 : 0 ≤ (p 1).v) (y1 : (p 1).v < 4294967296)
    (c1 : W.entB table va bytes true = true) (c3 : ((p 0).a != W.entA table va true) = false) (c4 : W.bad (p 0).v = false) (c5 : W.leaf (p 0).v = false) (e1 : W.entB ((p 0).v / 1024) va bytes false = true) (e3 : ((p 1).a != W.entA ((p 0).v / 1024) va false) = false) (e4 : W.bad (p 1).v = false) (e5 : W.leaf (p 1).v = true) :
    Calls Tryz.prog 165 #[.agg #[.int .i64 mode, .int .u32 va, .int .i64 acc, .int .i64 bytes], .int .u32 table, .slice (some ⟨b, off, none⟩) n cap] w fun x w' => x = .returned (.tuple #[(W.leafS (p 1).a (p 1).v va acc mode false).val, .int .i64 2]) ∧ Below w.heap.size w w' := by
  have d0 := Dw.first (mode := mode) (va := va) (acc := acc) (bytes := bytes) w
  have hent := fun w => entry_any mode va acc bytes table true v0 v1 t0 t1 w
  rw [c1] at hent
  simp only [cond_true, cond_false] at hent
  have hent2 := fun w => entry_any mode va acc bytes ((p 0).v / 1024) false v0 v1 (by omega) (by omega) w
  rw [e1] at hent2
  simp only [cond_true, cond_false] at hent2
  have hpg := W.page_eq (p 0).v x0 x1
  generalize (p 0).v / 1024 = PG at *
  generalize W.entA PG va false = E2 at *
  generalize W.entA table va true = E1 at *
  have hleaf := fun a b c w => leafB_any mode va acc bytes (p 1).a (p 1).v a b c false v0 v1 y0 y1 w
  generalize W.leafS (p 1).a (p 1).v va acc mode false = S at *
  obtain ⟨S1, S2, S3, S4, S5⟩ := S
  obtain ⟨r00, r01, r02, r03, r04⟩ := hr 0 (by omega)
  simp only [Nat.zero_mul, Nat.add_zero] at r00 r01 r02 r03 r04
  obtain ⟨r10, r11, r12, r13, r14⟩ := hr 1 (by omega)
  simp only [Nat.one_mul] at r10 r11 r12 r13 r14
  clear hr
  generalize p 1 = P1 at *
  obtain ⟨qa, qv, qo, qt, qf⟩ := P1
  generalize p 0 = P0 at *
  obtain ⟨pa, pv, po, pt, pf⟩ := P0
  dsimp only at *
  have hn0 : ((0 : Int) == (n : Int)) = false := by simp; omega
  have hn1 : (0 : Int) < n := by omega
  have hn2 : ((1 : Int) == (n : Int)) = false := by simp; omega
  have hn3 : (1 : Int) < n := by omega
  unfold W.Stp.val 
  unfold W.Stp.val at hleaf
  dsimp only at hleaf ⊢
  go_enter Tryz.func165, Tryz.ntmps165
  go_wp2
  refine wp_loop_rounds 3 ?_
  rw [rounds_succ]
  go_wp2_with (fail)
  refine (hent _).mono ?_
  rintro e w1 ⟨rfl, hb⟩
  have d1 := d0.below hb
  clear d0 hb hent
  have s0 := (d1.base.cell (p := ⟨b, off, none⟩) hlt).trans r00
  have s1 := (d1.base.cell (p := ⟨b, off + 1, none⟩) hlt).trans r01
  have s2 := (d1.base.cell (p := ⟨b, off + 2, none⟩) hlt).trans r02
  have s3 := (d1.base.cell (p := ⟨b, off + 3, none⟩) hlt).trans r03
  have s4 := (d1.base.cell (p := ⟨b, off + 4, none⟩) hlt).trans r04
  obtain ⟨g0, g1, g2, g3⟩ := way_cells d1.way
  obtain ⟨f0, f1, f2, f3, f4, fz⟩ := res_cells d1.res
  have l2 := d1.lt
  have l1 : w.heap.size < w1.heap.size := by omega
  go_wp2_with (first
    | (go_at_call 180; refine (bad_any _ _).mono ?_; rintro e w' ⟨rfl, rfl⟩)
    | (go_at_call 181; refine (leaf_any _ _).mono ?_; rintro e w' ⟨rfl, rfl⟩)
    | (go_at_call 183; refine (page_any _ _).mono ?_; rintro e w' ⟨rfl, kk, rfl⟩))
  rw [rounds_succ]
  go_wp2_with (fail)
  refine (hent2 _).mono ?_
  rintro e w2 ⟨rfl, hb⟩
  have d2 := ((d1.alloc _).drewN _).below hb
  clear d1 hb hent2
  clear g0 g1 g2 g3 f0 f1 f2 f3 f4 fz l1 l2
  clear s0 s1 s2 s3 s4
  have s0 := (d2.base.cell (p := ⟨b, off + 5, none⟩) hlt).trans r10
  have s1 := (d2.base.cell (p := ⟨b, off + 5 + 1, none⟩) hlt).trans r11
  have s2 := (d2.base.cell (p := ⟨b, off + 5 + 2, none⟩) hlt).trans r12
  have s3 := (d2.base.cell (p := ⟨b, off + 5 + 3, none⟩) hlt).trans r13
  have s4 := (d2.base.cell (p := ⟨b, off + 5 + 4, none⟩) hlt).trans r14
  obtain ⟨g0, g1, g2, g3⟩ := way_cells d2.way
  obtain ⟨f0, f1, f2, f3, f4, fz⟩ := res_cells d2.res
  have l2 := d2.lt
  have l1 : w.heap.size < w2.heap.size := by omega
  go_wp2_with (first
    | (go_at_call 180; refine (bad_any _ _).mono ?_; rintro e w' ⟨rfl, rfl⟩)
    | (go_at_call 181; refine (leaf_any _ _).mono ?_; rintro e w' ⟨rfl, rfl⟩)
    | (go_at_call 182; refine (hleaf _ _ _ _).mono ?_; rintro e wf ⟨rfl, hbf⟩; have d9 := (d2.alloc _).below hbf; clear f0 f1 f2 f3 f4 fz; obtain ⟨f0, f1, f2, f3, f4, fz⟩ := res_cells d9.res))
  exact bodyPost_ret (v := .tuple #[.agg #[.int .i64 S1, .int .u32 S2, .int .u32 S3, .int .u32 S4, .int .u32 S5], .int .i64 2]) (by simp [results, Tryz.results165, go_sem, *]) rfl ⟨rfl, fin5 d9.base (by omega) _ _ _ _ _⟩
end Go.Proofs.YteilpehekabccaaGreatDoor

/- The way down, way 10. -/
namespace Go.Proofs.YteilpehekabccaaGreatDoor
open Go.ChangeShapes Go.WideShapes Go.ChangeAt Go.RowKit
set_option linter.unusedVariables false
set_option linter.unusedSimpArgs false

set_option maxHeartbeats 1600000 in
theorem down_10 (mode va acc bytes table : Int) (v0 : 0 ≤ va) (v1 : va < 4294967296) (t0 : 0 ≤ table) (t1 : table < 4294967296) (n cap : Nat) (hm : n ≤ maxLen) (w : World) (b off : Nat) (p : Nat → W.Pt) (hlt : b < w.heap.size) (hr : Rd b off n p w) (hn : 1 < n) (x0 : 0 ≤ (p 0).v) (x1 : (p 0).v < 4294967296) (y0 : 0 ≤ (p 1).v) (y1 : (p 1).v < 4294967296)
    (c1 : W.entB table va bytes true = true) (c3 : ((p 0).a != W.entA table va true) = false) (c4 : W.bad (p 0).v = false) (c5 : W.leaf (p 0).v = false) (e1 : W.entB ((p 0).v / 1024) va bytes false = true) (e3 : ((p 1).a != W.entA ((p 0).v / 1024) va false) = false) (e4 : W.bad (p 1).v = false) (e5 : W.leaf (p 1).v = false) :
    Calls Tryz.prog 165 #[.agg #[.int .i64 mode, .int .u32 va, .int .i64 acc, .int .i64 bytes], .int .u32 table, .slice (some ⟨b, off, none⟩) n cap] w fun x w' => x = .returned (.tuple #[(W.fltS acc true).val, .int .i64 2]) ∧ Below w.heap.size w w' := by
  have d0 := Dw.first (mode := mode) (va := va) (acc := acc) (bytes := bytes) w
  have hent := fun w => entry_any mode va acc bytes table true v0 v1 t0 t1 w
  rw [c1] at hent
  simp only [cond_true, cond_false] at hent
  have hent2 := fun w => entry_any mode va acc bytes ((p 0).v / 1024) false v0 v1 (by omega) (by omega) w
  rw [e1] at hent2
  simp only [cond_true, cond_false] at hent2
  have hpg := W.page_eq (p 0).v x0 x1
  generalize (p 0).v / 1024 = PG at *
  generalize W.entA PG va false = E2 at *
  generalize W.entA table va true = E1 at *
  obtain ⟨r00, r01, r02, r03, r04⟩ := hr 0 (by omega)
  simp only [Nat.zero_mul, Nat.add_zero] at r00 r01 r02 r03 r04
  obtain ⟨r10, r11, r12, r13, r14⟩ := hr 1 (by omega)
  simp only [Nat.one_mul] at r10 r11 r12 r13 r14
  clear hr
  generalize p 1 = P1 at *
  obtain ⟨qa, qv, qo, qt, qf⟩ := P1
  generalize p 0 = P0 at *
  obtain ⟨pa, pv, po, pt, pf⟩ := P0
  dsimp only at *
  have hn0 : ((0 : Int) == (n : Int)) = false := by simp; omega
  have hn1 : (0 : Int) < n := by omega
  have hn2 : ((1 : Int) == (n : Int)) = false := by simp; omega
  have hn3 : (1 : Int) < n := by omega
  unfold W.Stp.val W.fltS
  dsimp only
  go_enter Tryz.func165, Tryz.ntmps165
  go_wp2
  refine wp_loop_rounds 3 ?_
  rw [rounds_succ]
  go_wp2_with (fail)
  refine (hent _).mono ?_
  rintro e w1 ⟨rfl, hb⟩
  have d1 := d0.below hb
  clear d0 hb hent
  have s0 := (d1.base.cell (p := ⟨b, off, none⟩) hlt).trans r00
  have s1 := (d1.base.cell (p := ⟨b, off + 1, none⟩) hlt).trans r01
  have s2 := (d1.base.cell (p := ⟨b, off + 2, none⟩) hlt).trans r02
  have s3 := (d1.base.cell (p := ⟨b, off + 3, none⟩) hlt).trans r03
  have s4 := (d1.base.cell (p := ⟨b, off + 4, none⟩) hlt).trans r04
  obtain ⟨g0, g1, g2, g3⟩ := way_cells d1.way
  obtain ⟨f0, f1, f2, f3, f4, fz⟩ := res_cells d1.res
  have l2 := d1.lt
  have l1 : w.heap.size < w1.heap.size := by omega
  go_wp2_with (first
    | (go_at_call 180; refine (bad_any _ _).mono ?_; rintro e w' ⟨rfl, rfl⟩)
    | (go_at_call 181; refine (leaf_any _ _).mono ?_; rintro e w' ⟨rfl, rfl⟩)
    | (go_at_call 183; refine (page_any _ _).mono ?_; rintro e w' ⟨rfl, kk, rfl⟩))
  rw [rounds_succ]
  go_wp2_with (fail)
  refine (hent2 _).mono ?_
  rintro e w2 ⟨rfl, hb⟩
  have d2 := ((d1.alloc _).drewN _).below hb
  clear d1 hb hent2
  clear g0 g1 g2 g3 f0 f1 f2 f3 f4 fz l1 l2
  clear s0 s1 s2 s3 s4
  have s0 := (d2.base.cell (p := ⟨b, off + 5, none⟩) hlt).trans r10
  have s1 := (d2.base.cell (p := ⟨b, off + 5 + 1, none⟩) hlt).trans r11
  have s2 := (d2.base.cell (p := ⟨b, off + 5 + 2, none⟩) hlt).trans r12
  have s3 := (d2.base.cell (p := ⟨b, off + 5 + 3, none⟩) hlt).trans r13
  have s4 := (d2.base.cell (p := ⟨b, off + 5 + 4, none⟩) hlt).trans r14
  obtain ⟨g0, g1, g2, g3⟩ := way_cells d2.way
  obtain ⟨f0, f1, f2, f3, f4, fz⟩ := res_cells d2.res
  have l2 := d2.lt
  have l1 : w.heap.size < w2.heap.size := by omega
  go_wp2_with (first
    | (go_at_call 180; refine (bad_any _ _).mono ?_; rintro e w' ⟨rfl, rfl⟩)
    | (go_at_call 181; refine (leaf_any _ _).mono ?_; rintro e w' ⟨rfl, rfl⟩)
    | (go_at_call 183; refine (page_any _ _).mono ?_; rintro e w' ⟨rfl, kk, rfl⟩))
  rw [rounds_succ]
  go_wp2_with (first
    | (go_at_call 166; refine (wfault_any _ _ _ _ _ _).mono ?_; rintro e wf ⟨rfl, hbf⟩; have d9 := ((d2.alloc _).drewN _).below hbf; clear f0 f1 f2 f3 f4 fz; obtain ⟨f0, f1, f2, f3, f4, fz⟩ := res_cells d9.res))
  exact bodyPost_ret (v := .tuple #[.agg #[.int .i64 2, .int .u32 0, .int .u32 0, .int .u32 0, .int .u32 (W.cause acc true)], .int .i64 2]) (by simp [results, Tryz.results165, go_sem, *]) rfl ⟨rfl, fin5 d9.base (by omega) _ _ _ _ _⟩
end Go.Proofs.YteilpehekabccaaGreatDoor

/- Down and Next, as functions of their numbers. -/
namespace Go.Proofs.YteilpehekabccaaGreatDoor
open Go.ChangeShapes Go.WideShapes Go.ChangeAt Go.RowKit
set_option linter.unusedVariables false
set_option linter.unusedSimpArgs false

/-- The entries can be read. -/
def Reads (a : Option Addr) (n : Nat) (p : Nat → W.Pt) (w : World) : Prop :=
  n ≤ maxLen ∧ (0 < n → ∃ b off, a = some ⟨b, off, none⟩ ∧ b < w.heap.size ∧ Rd b off n p w) ∧ ∀ j, 0 ≤ (p j).v ∧ (p j).v < 4294967296
theorem Reads.below {a : Option Addr} {n : Nat} {p : Nat → W.Pt} {w w' : World} (h : Reads a n p w) (hb : Below w.heap.size w w') : Reads a n p w' :=
  ⟨h.1, fun hn => by obtain ⟨b, off, e, hl, hr⟩ := h.2.1 hn; exact ⟨b, off, e, Nat.lt_of_lt_of_le hl hb.size, hr.below hb hl⟩, h.2.2⟩

theorem down_any (mode va acc bytes table : Int) (v0 : 0 ≤ va) (v1 : va < 4294967296) (t0 : 0 ≤ table) (t1 : table < 4294967296) (a : Option Addr) (n cap : Nat) (p : Nat → W.Pt) (w : World) (hr : Reads a n p w) (S : W.Stp × Int)
    (hS : W.downS table va acc mode bytes n (fun j => (p j).a) (fun j => (p j).v) = S) :
    Calls Tryz.prog 165 #[.agg #[.int .i64 mode, .int .u32 va, .int .i64 acc, .int .i64 bytes], .int .u32 table, .slice a n cap] w fun x w' => x = .returned (.tuple #[S.1.val, .int .i64 S.2]) ∧ Below w.heap.size w w' := by
  obtain ⟨hm, hr, hv⟩ := hr
  unfold W.downS W.downL at hS
  cases c1 : W.entB table va bytes true
  · rw [c1] at hS; subst hS
    exact down_0 mode va acc bytes table v0 v1 t0 t1 a n cap hm w c1
  · by_cases hn : n = 0
    · rw [c1] at hS; simp only [cond_true, if_pos hn] at hS; subst hS
      exact down_1 mode va acc bytes table v0 v1 t0 t1 a n cap hm w hn c1
    · obtain ⟨b, off, rfl, hlt, hrd⟩ := hr (by omega)
      have hn0 : 0 < n := by omega
      rw [c1] at hS; simp only [cond_true, if_neg hn] at hS
      cases c3 : ((p 0).a != W.entA table va true)
      · cases c4 : W.bad (p 0).v
        · cases c5 : W.leaf (p 0).v
          · rw [c3, c4, c5] at hS; simp only [cond_false] at hS
            cases e1 : W.entB ((p 0).v / 1024) va bytes false
            · rw [e1] at hS; subst hS
              exact down_5 mode va acc bytes table v0 v1 t0 t1 n cap hm w b off p hlt hrd hn0 (hv 0).1 (hv 0).2 c1 c3 c4 c5 e1
            · by_cases hn1 : n = 1
              · rw [e1] at hS; simp only [cond_true, if_pos hn1] at hS; subst hS
                exact down_6 mode va acc bytes table v0 v1 t0 t1 n cap hm w b off p hlt hrd hn1 (hv 0).1 (hv 0).2 c1 c3 c4 c5 e1
              · have hn2 : 1 < n := by omega
                rw [e1] at hS; simp only [cond_true, if_neg hn1] at hS
                cases e3 : ((p 1).a != W.entA ((p 0).v / 1024) va false)
                · cases e4 : W.bad (p 1).v
                  · cases e5 : W.leaf (p 1).v
                    · rw [e3, e4, e5] at hS; subst hS
                      exact down_10 mode va acc bytes table v0 v1 t0 t1 n cap hm w b off p hlt hrd hn2 (hv 0).1 (hv 0).2 (hv 1).1 (hv 1).2 c1 c3 c4 c5 e1 e3 e4 e5
                    · rw [e3, e4, e5] at hS; subst hS
                      exact down_9 mode va acc bytes table v0 v1 t0 t1 n cap hm w b off p hlt hrd hn2 (hv 0).1 (hv 0).2 (hv 1).1 (hv 1).2 c1 c3 c4 c5 e1 e3 e4 e5
                  · rw [e3, e4] at hS; subst hS
                    exact down_8 mode va acc bytes table v0 v1 t0 t1 n cap hm w b off p hlt hrd hn2 (hv 0).1 (hv 0).2 (hv 1).1 (hv 1).2 c1 c3 c4 c5 e1 e3 e4
                · rw [e3] at hS; subst hS
                  exact down_7 mode va acc bytes table v0 v1 t0 t1 n cap hm w b off p hlt hrd hn2 (hv 0).1 (hv 0).2 (hv 1).1 (hv 1).2 c1 c3 c4 c5 e1 e3
          · rw [c3, c4, c5] at hS; subst hS
            exact down_4 mode va acc bytes table v0 v1 t0 t1 n cap hm w b off p hlt hrd hn0 (hv 0).1 (hv 0).2 c1 c3 c4 c5
        · rw [c3, c4] at hS; subst hS
          exact down_3 mode va acc bytes table v0 v1 t0 t1 n cap hm w b off p hlt hrd hn0 (hv 0).1 (hv 0).2 c1 c3 c4
      · rw [c3] at hS; subst hS
        exact down_2 mode va acc bytes table v0 v1 t0 t1 n cap hm w b off p hlt hrd hn0 (hv 0).1 (hv 0).2 c1 c3

end Go.Proofs.YteilpehekabccaaGreatDoor
