/- PpoThrough. -/
import Derived.Test.YtopcejohnofelaaPpoV
namespace Go.Proofs.Ytopcejohnofelaa
open Go.ChangeShapes Go.WideShapes Go.ChangeAt Go.RowKit
set_option linter.unusedVariables false
set_option linter.unusedSimpArgs false

namespace W
def thX : Nat → Oz := ozL [op3 1 4 0, op3 2 4 8, op3 1 4 12]
def thD (data : Bool) : Oz := bif data then ⟨op3 2 4 8, [], [0], []⟩ else ⟨op3 2 4 8, [0], [], []⟩
def thL (same store : Bool) : Oz := oz0 (op3 (bif store then 2 else 1) 4 (bif same then 8 else 12))
end W
def thX1 (data : Bool) : Nat → W.Oz := updX W.thX 1 (W.thD data)
def thX2 (data same : Bool) : Nat → W.Oz := bif same then updX (thX1 data) 2 (W.thL true false) else thX1 data
def thX3 (data same store : Bool) : Nat → W.Oz := bif store then updX (thX2 data same) 2 (W.thL same true) else thX2 data same
def thW (data same store : Bool) : Int := bif store then (bif data then 0 else 13) else (bif same then 12 else 0)
theorem th_02 : (([false, true].flatMap fun d => [false, true].flatMap fun s => [false, true].map fun t => W.whyI (thX3 d s t) 3 0 2 == thW d s t).all id) = true := by decide +kernel
theorem th_12 : (([false, true].flatMap fun d => [false, true].flatMap fun s => [false, true].map fun t => W.whyI (thX3 d s t) 3 1 2 == (bif s && t then 1 else 0)).all id) = true := by decide +kernel
theorem th_02' (d s t : Bool) : W.whyI (thX3 d s t) 3 0 2 = thW d s t := by
  have h := th_02
  simp only [List.flatMap_cons, List.flatMap_nil, List.map_cons, List.map_nil, List.append_nil, List.cons_append, List.nil_append, List.all_cons, List.all_nil, Bool.and_true, id, Bool.and_eq_true, beq_iff_eq] at h
  obtain ⟨h1, h2, h3, h4, h5, h6, h7, h8⟩ := h
  cases d <;> cases s <;> cases t <;> assumption
theorem th_12' (d s t : Bool) : W.whyI (thX3 d s t) 3 1 2 = bif s && t then 1 else 0 := by
  have h := th_12
  simp only [List.flatMap_cons, List.flatMap_nil, List.map_cons, List.map_nil, List.append_nil, List.cons_append, List.nil_append, List.all_cons, List.all_nil, Bool.and_true, id, Bool.and_eq_true, beq_iff_eq] at h
  obtain ⟨h1, h2, h3, h4, h5, h6, h7, h8⟩ := h
  cases d <;> cases s <;> cases t <;> assumption
theorem op3_ok (k sz ad : Int) (l : W.Oz) (h : l.o = W.op3 k sz ad) (h1 : 0 ≤ sz ∧ sz ≤ 4) (h2 : 0 ≤ ad ∧ ad < 4294967296) : W.OzOk l := ⟨by rw [h]; show _ ≤ sz; omega, by rw [h]; show sz ≤ _; omega, by rw [h]; exact h2.1, by rw [h]; exact h2.2⟩
theorem th_ok (d s t : Bool) (j : Nat) (hj : j < 3) : W.OzOk (thX3 d s t j) := by
  match j, hj with
  | 0, _ => cases d <;> cases s <;> cases t <;> exact op3_ok 1 4 0 _ rfl (by decide) (by decide)
  | 1, _ => cases d <;> cases s <;> cases t <;> exact op3_ok 2 4 8 _ rfl (by decide) (by decide)
  | 2, _ => cases d <;> cases s <;> cases t <;> first | exact op3_ok 1 4 12 _ rfl (by decide) (by decide) | exact op3_ok 1 4 8 _ rfl (by decide) (by decide) | exact op3_ok 2 4 12 _ rfl (by decide) (by decide) | exact op3_ok 2 4 8 _ rfl (by decide) (by decide)
attribute [local go_sem ↓] bdO_eq bsO_eq ldO_eq
set_option maxRecDepth 10000 in
set_option maxHeartbeats 1600000 in
theorem th_aor (w : World) : Calls Try.prog 6 #[.bool false, .bool false, .bool false] w fun e w' => e = .returned (.bool true) ∧ Below w.heap.size w w' := by
  have b1 := bdO_2 1 4
  have b2 := bdO_3 2 4 8
  have b3 := bdO_3 1 4 12
  have s3 := bsO_3 (W.op3 1 4 0) (W.op3 2 4 8) (W.op3 1 4 12)
  have hF := first13_any w
  have HF : Hid (Calls _ _ _ _ _) := hF
  clear hF
  go_enter Try.func6, Try.ntmps6
  go_wp2_with (fail)
  refine HF.out.mono ?_
  rintro e w1 ⟨rfl, bw1⟩
  have O2 := ow_row [W.op3 1 4 0, W.op3 2 4 8, W.op3 1 4 12] 30 (heap_alloc_last w1 _) W.thX (W.ozL_at _)
  have B2 := bw1.alloc bw1.size (.cells (opsR [W.op3 1 4 0, W.op3 2 4 8, W.op3 1 4 12]) 30)
  have gl : w1.heap.size < (w1.alloc (.cells (opsR [W.op3 1 4 0, W.op3 2 4 8, W.op3 1 4 12]) 30)).heap.size := by simp
  have gn : w.heap.size ≤ w1.heap.size := bw1.size
  generalize hW2 : w1.alloc (.cells (opsR [W.op3 1 4 0, W.op3 2 4 8, W.op3 1 4 12]) 30) = W2 at *
  have hW : Hid (_ = W2) := hW2
  have s3' : (bsO 3 #[(0, .agg (opN (W.op3 1 4 0))), (1, .agg (opN (W.op3 2 4 8))), (2, .agg (opN (W.op3 1 4 12)))]).run Try.prog w1 = .ok (.slice (some ⟨w1.heap.size, 0, none⟩) 3 3) W2 := by rw [← hW.out]; exact s3 w1
  clear s3 hW2
  have q23 := O2.cell 1 10 (by decide) (by decide)
  have q24 := O2.cell 1 11 (by decide) (by decide)
  have q26 := O2.cell 2 0 (by decide) (by decide)
  have q28 := O2.cell 2 2 (by decide) (by decide)
  have qf := O2.b.fz
  simp only [Nat.one_mul, Nat.reduceMul, Nat.reduceAdd] at q23 q24 q26 q28
  generalize opF _ _ 23 = v23 at *
  generalize opF _ _ 24 = v24 at *
  generalize opF _ _ 26 = v26 at *
  generalize opF _ _ 28 = v28 at *
  have O3 := O2.below ((Below.refl _ _).alloc (Nat.le_refl _) (.cells #[.int .i64 0] 3))
  have lone : Lg w1.heap.size ⟨some ⟨W2.heap.size, 0, none⟩, 1, 1⟩ [0] (W2.alloc (.cells #[.int .i64 0] 3)) := ⟨li_one W2 _ 0, fun b o _ e => by cases e; omega⟩
  have O4 := O3.upd 1 10 (by decide) (W.thD false) ⟨⟨some ⟨W2.heap.size, 0, none⟩, 1, 1⟩, W.Sl.nil, W.Sl.nil⟩ (.slice (some ⟨W2.heap.size, 0, none⟩) 1 1) rfl (fun i hi hne => by
    match i, hi with
    | 0, _ => rfl
    | 1, _ => rfl
    | 2, _ => rfl
    | 3, _ => rfl
    | 4, _ => rfl
    | 5, _ => rfl
    | 6, _ => rfl
    | 7, _ => rfl
    | 8, _ => rfl
    | 9, _ => rfl
    | 10, _ => exact absurd rfl hne
    | 11, _ => rfl
    | 12, _ => rfl) lone (lg_nil _ _) (lg_nil _ _)
  have B4 : Below w.heap.size w ((W2.alloc (.cells #[.int .i64 0] 3)).setCell ⟨w1.heap.size, 1 * 13 + 10, none⟩ (.slice (some ⟨W2.heap.size, 0, none⟩) 1 1)) := (B2.alloc B2.size _).setCell (p := ⟨w1.heap.size, _, none⟩) gn _
  have Y1 := fun W' (hb : Below _ _ W') => whyI_any _ 3 3 (thX3 false false false) W' ((O4.below hb).ol) (by decide) (by decide) (th_ok false false false) 1 2 (by decide) (by decide) (by decide) (by decide)
  have Y2 := fun W' (hb : Below _ _ W') => whyI_any _ 3 3 (thX3 false false false) W' ((O4.below hb).ol) (by decide) (by decide) (th_ok false false false) 0 2 (by decide) (by decide) (by decide) (by decide)
  rw [th_12'] at Y1
  rw [th_02'] at Y2
  simp only [Nat.one_mul, Nat.reduceMul, Nat.reduceAdd] at Y1 Y2 B4
  rw [World.setCell_alloc_past _ _ _ _ gl] at Y1 Y2 B4
  have HY : Hid (_ ∧ _ ∧ _) := ⟨Y1, Y2, B4⟩
  clear Y1 Y2 B4 O2 O3 O4 lone B2 bw1 
  go_wp2_with (fail)
  refine (HY.out.1 _ (Below.refl _ _)).mono ?_
  rintro e w5 ⟨rfl, b5⟩
  go_wp2_with (fail)
  refine (HY.out.2.1 _ b5).mono ?_
  rintro e w6 ⟨rfl, b6⟩
  have B9 := HY.out.2.2.trans ((b5.trans (b6.mono b5.size)).mono HY.out.2.2.size)
  clear b5 b6 q23 q24 q26 q28 qf HY
  go_wp2
  go_ret
  exact ⟨rfl, B9⟩
set_option maxRecDepth 10000 in
set_option maxHeartbeats 1600000 in
theorem th_aow (w : World) : Calls Try.prog 6 #[.bool false, .bool false, .bool true] w fun e w' => e = .returned (.bool true) ∧ Below w.heap.size w w' := by
  have b1 := bdO_2 1 4
  have b2 := bdO_3 2 4 8
  have b3 := bdO_3 1 4 12
  have s3 := bsO_3 (W.op3 1 4 0) (W.op3 2 4 8) (W.op3 1 4 12)
  have hF := first13_any w
  have HF : Hid (Calls _ _ _ _ _) := hF
  clear hF
  go_enter Try.func6, Try.ntmps6
  go_wp2_with (fail)
  refine HF.out.mono ?_
  rintro e w1 ⟨rfl, bw1⟩
  have O2 := ow_row [W.op3 1 4 0, W.op3 2 4 8, W.op3 1 4 12] 30 (heap_alloc_last w1 _) W.thX (W.ozL_at _)
  have B2 := bw1.alloc bw1.size (.cells (opsR [W.op3 1 4 0, W.op3 2 4 8, W.op3 1 4 12]) 30)
  have gl : w1.heap.size < (w1.alloc (.cells (opsR [W.op3 1 4 0, W.op3 2 4 8, W.op3 1 4 12]) 30)).heap.size := by simp
  have gn : w.heap.size ≤ w1.heap.size := bw1.size
  generalize hW2 : w1.alloc (.cells (opsR [W.op3 1 4 0, W.op3 2 4 8, W.op3 1 4 12]) 30) = W2 at *
  have hW : Hid (_ = W2) := hW2
  have s3' : (bsO 3 #[(0, .agg (opN (W.op3 1 4 0))), (1, .agg (opN (W.op3 2 4 8))), (2, .agg (opN (W.op3 1 4 12)))]).run Try.prog w1 = .ok (.slice (some ⟨w1.heap.size, 0, none⟩) 3 3) W2 := by rw [← hW.out]; exact s3 w1
  clear s3 hW2
  have q23 := O2.cell 1 10 (by decide) (by decide)
  have q24 := O2.cell 1 11 (by decide) (by decide)
  have q26 := O2.cell 2 0 (by decide) (by decide)
  have q28 := O2.cell 2 2 (by decide) (by decide)
  have qf := O2.b.fz
  simp only [Nat.one_mul, Nat.reduceMul, Nat.reduceAdd] at q23 q24 q26 q28
  generalize opF _ _ 23 = v23 at *
  generalize opF _ _ 24 = v24 at *
  generalize opF _ _ 26 = v26 at *
  generalize opF _ _ 28 = v28 at *
  have O3 := O2.below ((Below.refl _ _).alloc (Nat.le_refl _) (.cells #[.int .i64 0] 3))
  have lone : Lg w1.heap.size ⟨some ⟨W2.heap.size, 0, none⟩, 1, 1⟩ [0] (W2.alloc (.cells #[.int .i64 0] 3)) := ⟨li_one W2 _ 0, fun b o _ e => by cases e; omega⟩
  have O4 := O3.upd 1 10 (by decide) (W.thD false) ⟨⟨some ⟨W2.heap.size, 0, none⟩, 1, 1⟩, W.Sl.nil, W.Sl.nil⟩ (.slice (some ⟨W2.heap.size, 0, none⟩) 1 1) rfl (fun i hi hne => by
    match i, hi with
    | 0, _ => rfl
    | 1, _ => rfl
    | 2, _ => rfl
    | 3, _ => rfl
    | 4, _ => rfl
    | 5, _ => rfl
    | 6, _ => rfl
    | 7, _ => rfl
    | 8, _ => rfl
    | 9, _ => rfl
    | 10, _ => exact absurd rfl hne
    | 11, _ => rfl
    | 12, _ => rfl) lone (lg_nil _ _) (lg_nil _ _)
  have B4 : Below w.heap.size w ((W2.alloc (.cells #[.int .i64 0] 3)).setCell ⟨w1.heap.size, 1 * 13 + 10, none⟩ (.slice (some ⟨W2.heap.size, 0, none⟩) 1 1)) := (B2.alloc B2.size _).setCell (p := ⟨w1.heap.size, _, none⟩) gn _
  have O6 := O4.upd 2 0 (by decide) (W.thL false true) S3.nil (.int .i64 2) rfl (fun i hi hne => by
    match i, hi with
    | 0, _ => exact absurd rfl hne
    | 1, _ => rfl
    | 2, _ => rfl
    | 3, _ => rfl
    | 4, _ => rfl
    | 5, _ => rfl
    | 6, _ => rfl
    | 7, _ => rfl
    | 8, _ => rfl
    | 9, _ => rfl
    | 10, _ => rfl
    | 11, _ => rfl
    | 12, _ => rfl) (lg_nil _ _) (lg_nil _ _) (lg_nil _ _)
  have B6 := B4.setCell (p := ⟨w1.heap.size, 2 * 13 + 0, none⟩) gn (.int .i64 2)
  have Y1 := fun W' (hb : Below _ _ W') => whyI_any _ 3 3 (thX3 false false true) W' ((O6.below hb).ol) (by decide) (by decide) (th_ok false false true) 1 2 (by decide) (by decide) (by decide) (by decide)
  have Y2 := fun W' (hb : Below _ _ W') => whyI_any _ 3 3 (thX3 false false true) W' ((O6.below hb).ol) (by decide) (by decide) (th_ok false false true) 0 2 (by decide) (by decide) (by decide) (by decide)
  rw [th_12'] at Y1
  rw [th_02'] at Y2
  simp only [Nat.one_mul, Nat.reduceMul, Nat.reduceAdd] at Y1 Y2 B6
  rw [World.setCell_alloc_past _ _ _ _ gl] at Y1 Y2 B6
  rw [World.setCell_alloc_past _ _ _ _ (by simp [World.setCell]; exact gl)] at Y1 Y2 B6
  have HY : Hid (_ ∧ _ ∧ _) := ⟨Y1, Y2, B6⟩
  clear Y1 Y2 B6 O2 O3 O4 lone B2 B4 O6 bw1 
  go_wp2_with (fail)
  refine (HY.out.1 _ (Below.refl _ _)).mono ?_
  rintro e w5 ⟨rfl, b5⟩
  go_wp2_with (fail)
  refine (HY.out.2.1 _ b5).mono ?_
  rintro e w6 ⟨rfl, b6⟩
  have B9 := HY.out.2.2.trans ((b5.trans (b6.mono b5.size)).mono HY.out.2.2.size)
  clear b5 b6 q23 q24 q26 q28 qf HY
  go_wp2
  go_ret
  exact ⟨rfl, B9⟩
set_option maxRecDepth 10000 in
set_option maxHeartbeats 1600000 in
theorem th_asr (w : World) : Calls Try.prog 6 #[.bool false, .bool true, .bool false] w fun e w' => e = .returned (.bool true) ∧ Below w.heap.size w w' := by
  have b1 := bdO_2 1 4
  have b2 := bdO_3 2 4 8
  have b3 := bdO_3 1 4 12
  have s3 := bsO_3 (W.op3 1 4 0) (W.op3 2 4 8) (W.op3 1 4 12)
  have hF := first13_any w
  have HF : Hid (Calls _ _ _ _ _) := hF
  clear hF
  go_enter Try.func6, Try.ntmps6
  go_wp2_with (fail)
  refine HF.out.mono ?_
  rintro e w1 ⟨rfl, bw1⟩
  have O2 := ow_row [W.op3 1 4 0, W.op3 2 4 8, W.op3 1 4 12] 30 (heap_alloc_last w1 _) W.thX (W.ozL_at _)
  have B2 := bw1.alloc bw1.size (.cells (opsR [W.op3 1 4 0, W.op3 2 4 8, W.op3 1 4 12]) 30)
  have gl : w1.heap.size < (w1.alloc (.cells (opsR [W.op3 1 4 0, W.op3 2 4 8, W.op3 1 4 12]) 30)).heap.size := by simp
  have gn : w.heap.size ≤ w1.heap.size := bw1.size
  generalize hW2 : w1.alloc (.cells (opsR [W.op3 1 4 0, W.op3 2 4 8, W.op3 1 4 12]) 30) = W2 at *
  have hW : Hid (_ = W2) := hW2
  have s3' : (bsO 3 #[(0, .agg (opN (W.op3 1 4 0))), (1, .agg (opN (W.op3 2 4 8))), (2, .agg (opN (W.op3 1 4 12)))]).run Try.prog w1 = .ok (.slice (some ⟨w1.heap.size, 0, none⟩) 3 3) W2 := by rw [← hW.out]; exact s3 w1
  clear s3 hW2
  have q23 := O2.cell 1 10 (by decide) (by decide)
  have q24 := O2.cell 1 11 (by decide) (by decide)
  have q26 := O2.cell 2 0 (by decide) (by decide)
  have q28 := O2.cell 2 2 (by decide) (by decide)
  have qf := O2.b.fz
  simp only [Nat.one_mul, Nat.reduceMul, Nat.reduceAdd] at q23 q24 q26 q28
  generalize opF _ _ 23 = v23 at *
  generalize opF _ _ 24 = v24 at *
  generalize opF _ _ 26 = v26 at *
  generalize opF _ _ 28 = v28 at *
  have O3 := O2.below ((Below.refl _ _).alloc (Nat.le_refl _) (.cells #[.int .i64 0] 3))
  have lone : Lg w1.heap.size ⟨some ⟨W2.heap.size, 0, none⟩, 1, 1⟩ [0] (W2.alloc (.cells #[.int .i64 0] 3)) := ⟨li_one W2 _ 0, fun b o _ e => by cases e; omega⟩
  have O4 := O3.upd 1 10 (by decide) (W.thD false) ⟨⟨some ⟨W2.heap.size, 0, none⟩, 1, 1⟩, W.Sl.nil, W.Sl.nil⟩ (.slice (some ⟨W2.heap.size, 0, none⟩) 1 1) rfl (fun i hi hne => by
    match i, hi with
    | 0, _ => rfl
    | 1, _ => rfl
    | 2, _ => rfl
    | 3, _ => rfl
    | 4, _ => rfl
    | 5, _ => rfl
    | 6, _ => rfl
    | 7, _ => rfl
    | 8, _ => rfl
    | 9, _ => rfl
    | 10, _ => exact absurd rfl hne
    | 11, _ => rfl
    | 12, _ => rfl) lone (lg_nil _ _) (lg_nil _ _)
  have B4 : Below w.heap.size w ((W2.alloc (.cells #[.int .i64 0] 3)).setCell ⟨w1.heap.size, 1 * 13 + 10, none⟩ (.slice (some ⟨W2.heap.size, 0, none⟩) 1 1)) := (B2.alloc B2.size _).setCell (p := ⟨w1.heap.size, _, none⟩) gn _
  have O5 := O4.upd 2 2 (by decide) (W.thL true false) S3.nil (.int .u32 8) rfl (fun i hi hne => by
    match i, hi with
    | 0, _ => rfl
    | 1, _ => rfl
    | 2, _ => exact absurd rfl hne
    | 3, _ => rfl
    | 4, _ => rfl
    | 5, _ => rfl
    | 6, _ => rfl
    | 7, _ => rfl
    | 8, _ => rfl
    | 9, _ => rfl
    | 10, _ => rfl
    | 11, _ => rfl
    | 12, _ => rfl) (lg_nil _ _) (lg_nil _ _) (lg_nil _ _)
  have B5 := B4.setCell (p := ⟨w1.heap.size, 2 * 13 + 2, none⟩) gn (.int .u32 8)
  have Y1 := fun W' (hb : Below _ _ W') => whyI_any _ 3 3 (thX3 false true false) W' ((O5.below hb).ol) (by decide) (by decide) (th_ok false true false) 1 2 (by decide) (by decide) (by decide) (by decide)
  have Y2 := fun W' (hb : Below _ _ W') => whyI_any _ 3 3 (thX3 false true false) W' ((O5.below hb).ol) (by decide) (by decide) (th_ok false true false) 0 2 (by decide) (by decide) (by decide) (by decide)
  rw [th_12'] at Y1
  rw [th_02'] at Y2
  simp only [Nat.one_mul, Nat.reduceMul, Nat.reduceAdd] at Y1 Y2 B5
  rw [World.setCell_alloc_past _ _ _ _ gl] at Y1 Y2 B5
  rw [World.setCell_alloc_past _ _ _ _ (by simp [World.setCell]; exact gl)] at Y1 Y2 B5
  have HY : Hid (_ ∧ _ ∧ _) := ⟨Y1, Y2, B5⟩
  clear Y1 Y2 B5 O2 O3 O4 lone B2 B4 O5 bw1 
  go_wp2_with (fail)
  refine (HY.out.1 _ (Below.refl _ _)).mono ?_
  rintro e w5 ⟨rfl, b5⟩
  go_wp2_with (fail)
  refine (HY.out.2.1 _ b5).mono ?_
  rintro e w6 ⟨rfl, b6⟩
  have B9 := HY.out.2.2.trans ((b5.trans (b6.mono b5.size)).mono HY.out.2.2.size)
  clear b5 b6 q23 q24 q26 q28 qf HY
  go_wp2
  go_ret
  exact ⟨rfl, B9⟩
set_option maxRecDepth 10000 in
set_option maxHeartbeats 1600000 in
theorem th_asw (w : World) : Calls Try.prog 6 #[.bool false, .bool true, .bool true] w fun e w' => e = .returned (.bool true) ∧ Below w.heap.size w w' := by
  have b1 := bdO_2 1 4
  have b2 := bdO_3 2 4 8
  have b3 := bdO_3 1 4 12
  have s3 := bsO_3 (W.op3 1 4 0) (W.op3 2 4 8) (W.op3 1 4 12)
  have hF := first13_any w
  have HF : Hid (Calls _ _ _ _ _) := hF
  clear hF
  go_enter Try.func6, Try.ntmps6
  go_wp2_with (fail)
  refine HF.out.mono ?_
  rintro e w1 ⟨rfl, bw1⟩
  have O2 := ow_row [W.op3 1 4 0, W.op3 2 4 8, W.op3 1 4 12] 30 (heap_alloc_last w1 _) W.thX (W.ozL_at _)
  have B2 := bw1.alloc bw1.size (.cells (opsR [W.op3 1 4 0, W.op3 2 4 8, W.op3 1 4 12]) 30)
  have gl : w1.heap.size < (w1.alloc (.cells (opsR [W.op3 1 4 0, W.op3 2 4 8, W.op3 1 4 12]) 30)).heap.size := by simp
  have gn : w.heap.size ≤ w1.heap.size := bw1.size
  generalize hW2 : w1.alloc (.cells (opsR [W.op3 1 4 0, W.op3 2 4 8, W.op3 1 4 12]) 30) = W2 at *
  have hW : Hid (_ = W2) := hW2
  have s3' : (bsO 3 #[(0, .agg (opN (W.op3 1 4 0))), (1, .agg (opN (W.op3 2 4 8))), (2, .agg (opN (W.op3 1 4 12)))]).run Try.prog w1 = .ok (.slice (some ⟨w1.heap.size, 0, none⟩) 3 3) W2 := by rw [← hW.out]; exact s3 w1
  clear s3 hW2
  have q23 := O2.cell 1 10 (by decide) (by decide)
  have q24 := O2.cell 1 11 (by decide) (by decide)
  have q26 := O2.cell 2 0 (by decide) (by decide)
  have q28 := O2.cell 2 2 (by decide) (by decide)
  have qf := O2.b.fz
  simp only [Nat.one_mul, Nat.reduceMul, Nat.reduceAdd] at q23 q24 q26 q28
  generalize opF _ _ 23 = v23 at *
  generalize opF _ _ 24 = v24 at *
  generalize opF _ _ 26 = v26 at *
  generalize opF _ _ 28 = v28 at *
  have O3 := O2.below ((Below.refl _ _).alloc (Nat.le_refl _) (.cells #[.int .i64 0] 3))
  have lone : Lg w1.heap.size ⟨some ⟨W2.heap.size, 0, none⟩, 1, 1⟩ [0] (W2.alloc (.cells #[.int .i64 0] 3)) := ⟨li_one W2 _ 0, fun b o _ e => by cases e; omega⟩
  have O4 := O3.upd 1 10 (by decide) (W.thD false) ⟨⟨some ⟨W2.heap.size, 0, none⟩, 1, 1⟩, W.Sl.nil, W.Sl.nil⟩ (.slice (some ⟨W2.heap.size, 0, none⟩) 1 1) rfl (fun i hi hne => by
    match i, hi with
    | 0, _ => rfl
    | 1, _ => rfl
    | 2, _ => rfl
    | 3, _ => rfl
    | 4, _ => rfl
    | 5, _ => rfl
    | 6, _ => rfl
    | 7, _ => rfl
    | 8, _ => rfl
    | 9, _ => rfl
    | 10, _ => exact absurd rfl hne
    | 11, _ => rfl
    | 12, _ => rfl) lone (lg_nil _ _) (lg_nil _ _)
  have B4 : Below w.heap.size w ((W2.alloc (.cells #[.int .i64 0] 3)).setCell ⟨w1.heap.size, 1 * 13 + 10, none⟩ (.slice (some ⟨W2.heap.size, 0, none⟩) 1 1)) := (B2.alloc B2.size _).setCell (p := ⟨w1.heap.size, _, none⟩) gn _
  have O5 := O4.upd 2 2 (by decide) (W.thL true false) S3.nil (.int .u32 8) rfl (fun i hi hne => by
    match i, hi with
    | 0, _ => rfl
    | 1, _ => rfl
    | 2, _ => exact absurd rfl hne
    | 3, _ => rfl
    | 4, _ => rfl
    | 5, _ => rfl
    | 6, _ => rfl
    | 7, _ => rfl
    | 8, _ => rfl
    | 9, _ => rfl
    | 10, _ => rfl
    | 11, _ => rfl
    | 12, _ => rfl) (lg_nil _ _) (lg_nil _ _) (lg_nil _ _)
  have B5 := B4.setCell (p := ⟨w1.heap.size, 2 * 13 + 2, none⟩) gn (.int .u32 8)
  have O6 := O5.upd 2 0 (by decide) (W.thL true true) S3.nil (.int .i64 2) rfl (fun i hi hne => by
    match i, hi with
    | 0, _ => exact absurd rfl hne
    | 1, _ => rfl
    | 2, _ => rfl
    | 3, _ => rfl
    | 4, _ => rfl
    | 5, _ => rfl
    | 6, _ => rfl
    | 7, _ => rfl
    | 8, _ => rfl
    | 9, _ => rfl
    | 10, _ => rfl
    | 11, _ => rfl
    | 12, _ => rfl) (lg_nil _ _) (lg_nil _ _) (lg_nil _ _)
  have B6 := B5.setCell (p := ⟨w1.heap.size, 2 * 13 + 0, none⟩) gn (.int .i64 2)
  have Y1 := fun W' (hb : Below _ _ W') => whyI_any _ 3 3 (thX3 false true true) W' ((O6.below hb).ol) (by decide) (by decide) (th_ok false true true) 1 2 (by decide) (by decide) (by decide) (by decide)
  have Y2 := fun W' (hb : Below _ _ W') => whyI_any _ 3 3 (thX3 false true true) W' ((O6.below hb).ol) (by decide) (by decide) (th_ok false true true) 0 2 (by decide) (by decide) (by decide) (by decide)
  rw [th_12'] at Y1
  rw [th_02'] at Y2
  simp only [Nat.one_mul, Nat.reduceMul, Nat.reduceAdd] at Y1 Y2 B6
  rw [World.setCell_alloc_past _ _ _ _ gl] at Y1 Y2 B6
  rw [World.setCell_alloc_past _ _ _ _ (by simp [World.setCell]; exact gl)] at Y1 Y2 B6
  rw [World.setCell_alloc_past _ _ _ _ (by simp [World.setCell]; exact gl)] at Y1 Y2 B6
  have HY : Hid (_ ∧ _ ∧ _) := ⟨Y1, Y2, B6⟩
  clear Y1 Y2 B6 O2 O3 O4 lone B2 B4 O5 O6 bw1 B5 
  go_wp2_with (fail)
  refine (HY.out.1 _ (Below.refl _ _)).mono ?_
  rintro e w5 ⟨rfl, b5⟩
  go_wp2_with (fail)
  refine (HY.out.2.1 _ b5).mono ?_
  rintro e w6 ⟨rfl, b6⟩
  have B9 := HY.out.2.2.trans ((b5.trans (b6.mono b5.size)).mono HY.out.2.2.size)
  clear b5 b6 q23 q24 q26 q28 qf HY
  go_wp2
  go_ret
  exact ⟨rfl, B9⟩
set_option maxRecDepth 10000 in
set_option maxHeartbeats 1600000 in
theorem th_dor (w : World) : Calls Try.prog 6 #[.bool true, .bool false, .bool false] w fun e w' => e = .returned (.bool true) ∧ Below w.heap.size w w' := by
  have b1 := bdO_2 1 4
  have b2 := bdO_3 2 4 8
  have b3 := bdO_3 1 4 12
  have s3 := bsO_3 (W.op3 1 4 0) (W.op3 2 4 8) (W.op3 1 4 12)
  have hF := first13_any w
  have HF : Hid (Calls _ _ _ _ _) := hF
  clear hF
  go_enter Try.func6, Try.ntmps6
  go_wp2_with (fail)
  refine HF.out.mono ?_
  rintro e w1 ⟨rfl, bw1⟩
  have O2 := ow_row [W.op3 1 4 0, W.op3 2 4 8, W.op3 1 4 12] 30 (heap_alloc_last w1 _) W.thX (W.ozL_at _)
  have B2 := bw1.alloc bw1.size (.cells (opsR [W.op3 1 4 0, W.op3 2 4 8, W.op3 1 4 12]) 30)
  have gl : w1.heap.size < (w1.alloc (.cells (opsR [W.op3 1 4 0, W.op3 2 4 8, W.op3 1 4 12]) 30)).heap.size := by simp
  have gn : w.heap.size ≤ w1.heap.size := bw1.size
  generalize hW2 : w1.alloc (.cells (opsR [W.op3 1 4 0, W.op3 2 4 8, W.op3 1 4 12]) 30) = W2 at *
  have hW : Hid (_ = W2) := hW2
  have s3' : (bsO 3 #[(0, .agg (opN (W.op3 1 4 0))), (1, .agg (opN (W.op3 2 4 8))), (2, .agg (opN (W.op3 1 4 12)))]).run Try.prog w1 = .ok (.slice (some ⟨w1.heap.size, 0, none⟩) 3 3) W2 := by rw [← hW.out]; exact s3 w1
  clear s3 hW2
  have q23 := O2.cell 1 10 (by decide) (by decide)
  have q24 := O2.cell 1 11 (by decide) (by decide)
  have q26 := O2.cell 2 0 (by decide) (by decide)
  have q28 := O2.cell 2 2 (by decide) (by decide)
  have qf := O2.b.fz
  simp only [Nat.one_mul, Nat.reduceMul, Nat.reduceAdd] at q23 q24 q26 q28
  generalize opF _ _ 23 = v23 at *
  generalize opF _ _ 24 = v24 at *
  generalize opF _ _ 26 = v26 at *
  generalize opF _ _ 28 = v28 at *
  have O3 := O2.below ((Below.refl _ _).alloc (Nat.le_refl _) (.cells #[.int .i64 0] 3))
  have lone : Lg w1.heap.size ⟨some ⟨W2.heap.size, 0, none⟩, 1, 1⟩ [0] (W2.alloc (.cells #[.int .i64 0] 3)) := ⟨li_one W2 _ 0, fun b o _ e => by cases e; omega⟩
  have O4 := O3.upd 1 11 (by decide) (W.thD true) ⟨W.Sl.nil, ⟨some ⟨W2.heap.size, 0, none⟩, 1, 1⟩, W.Sl.nil⟩ (.slice (some ⟨W2.heap.size, 0, none⟩) 1 1) rfl (fun i hi hne => by
    match i, hi with
    | 0, _ => rfl
    | 1, _ => rfl
    | 2, _ => rfl
    | 3, _ => rfl
    | 4, _ => rfl
    | 5, _ => rfl
    | 6, _ => rfl
    | 7, _ => rfl
    | 8, _ => rfl
    | 9, _ => rfl
    | 10, _ => rfl
    | 11, _ => exact absurd rfl hne
    | 12, _ => rfl) (lg_nil _ _) lone (lg_nil _ _)
  have B4 : Below w.heap.size w ((W2.alloc (.cells #[.int .i64 0] 3)).setCell ⟨w1.heap.size, 1 * 13 + 11, none⟩ (.slice (some ⟨W2.heap.size, 0, none⟩) 1 1)) := (B2.alloc B2.size _).setCell (p := ⟨w1.heap.size, _, none⟩) gn _
  have Y1 := fun W' (hb : Below _ _ W') => whyI_any _ 3 3 (thX3 true false false) W' ((O4.below hb).ol) (by decide) (by decide) (th_ok true false false) 1 2 (by decide) (by decide) (by decide) (by decide)
  have Y2 := fun W' (hb : Below _ _ W') => whyI_any _ 3 3 (thX3 true false false) W' ((O4.below hb).ol) (by decide) (by decide) (th_ok true false false) 0 2 (by decide) (by decide) (by decide) (by decide)
  rw [th_12'] at Y1
  rw [th_02'] at Y2
  simp only [Nat.one_mul, Nat.reduceMul, Nat.reduceAdd] at Y1 Y2 B4
  rw [World.setCell_alloc_past _ _ _ _ gl] at Y1 Y2 B4
  have HY : Hid (_ ∧ _ ∧ _) := ⟨Y1, Y2, B4⟩
  clear Y1 Y2 B4 O2 O3 O4 lone B2 bw1 
  go_wp2_with (fail)
  refine (HY.out.1 _ (Below.refl _ _)).mono ?_
  rintro e w5 ⟨rfl, b5⟩
  go_wp2_with (fail)
  refine (HY.out.2.1 _ b5).mono ?_
  rintro e w6 ⟨rfl, b6⟩
  have B9 := HY.out.2.2.trans ((b5.trans (b6.mono b5.size)).mono HY.out.2.2.size)
  clear b5 b6 q23 q24 q26 q28 qf HY
  go_wp2
  go_ret
  exact ⟨rfl, B9⟩
set_option maxRecDepth 10000 in
set_option maxHeartbeats 1600000 in
theorem th_dow (w : World) : Calls Try.prog 6 #[.bool true, .bool false, .bool true] w fun e w' => e = .returned (.bool true) ∧ Below w.heap.size w w' := by
  have b1 := bdO_2 1 4
  have b2 := bdO_3 2 4 8
  have b3 := bdO_3 1 4 12
  have s3 := bsO_3 (W.op3 1 4 0) (W.op3 2 4 8) (W.op3 1 4 12)
  have hF := first13_any w
  have HF : Hid (Calls _ _ _ _ _) := hF
  clear hF
  go_enter Try.func6, Try.ntmps6
  go_wp2_with (fail)
  refine HF.out.mono ?_
  rintro e w1 ⟨rfl, bw1⟩
  have O2 := ow_row [W.op3 1 4 0, W.op3 2 4 8, W.op3 1 4 12] 30 (heap_alloc_last w1 _) W.thX (W.ozL_at _)
  have B2 := bw1.alloc bw1.size (.cells (opsR [W.op3 1 4 0, W.op3 2 4 8, W.op3 1 4 12]) 30)
  have gl : w1.heap.size < (w1.alloc (.cells (opsR [W.op3 1 4 0, W.op3 2 4 8, W.op3 1 4 12]) 30)).heap.size := by simp
  have gn : w.heap.size ≤ w1.heap.size := bw1.size
  generalize hW2 : w1.alloc (.cells (opsR [W.op3 1 4 0, W.op3 2 4 8, W.op3 1 4 12]) 30) = W2 at *
  have hW : Hid (_ = W2) := hW2
  have s3' : (bsO 3 #[(0, .agg (opN (W.op3 1 4 0))), (1, .agg (opN (W.op3 2 4 8))), (2, .agg (opN (W.op3 1 4 12)))]).run Try.prog w1 = .ok (.slice (some ⟨w1.heap.size, 0, none⟩) 3 3) W2 := by rw [← hW.out]; exact s3 w1
  clear s3 hW2
  have q23 := O2.cell 1 10 (by decide) (by decide)
  have q24 := O2.cell 1 11 (by decide) (by decide)
  have q26 := O2.cell 2 0 (by decide) (by decide)
  have q28 := O2.cell 2 2 (by decide) (by decide)
  have qf := O2.b.fz
  simp only [Nat.one_mul, Nat.reduceMul, Nat.reduceAdd] at q23 q24 q26 q28
  generalize opF _ _ 23 = v23 at *
  generalize opF _ _ 24 = v24 at *
  generalize opF _ _ 26 = v26 at *
  generalize opF _ _ 28 = v28 at *
  have O3 := O2.below ((Below.refl _ _).alloc (Nat.le_refl _) (.cells #[.int .i64 0] 3))
  have lone : Lg w1.heap.size ⟨some ⟨W2.heap.size, 0, none⟩, 1, 1⟩ [0] (W2.alloc (.cells #[.int .i64 0] 3)) := ⟨li_one W2 _ 0, fun b o _ e => by cases e; omega⟩
  have O4 := O3.upd 1 11 (by decide) (W.thD true) ⟨W.Sl.nil, ⟨some ⟨W2.heap.size, 0, none⟩, 1, 1⟩, W.Sl.nil⟩ (.slice (some ⟨W2.heap.size, 0, none⟩) 1 1) rfl (fun i hi hne => by
    match i, hi with
    | 0, _ => rfl
    | 1, _ => rfl
    | 2, _ => rfl
    | 3, _ => rfl
    | 4, _ => rfl
    | 5, _ => rfl
    | 6, _ => rfl
    | 7, _ => rfl
    | 8, _ => rfl
    | 9, _ => rfl
    | 10, _ => rfl
    | 11, _ => exact absurd rfl hne
    | 12, _ => rfl) (lg_nil _ _) lone (lg_nil _ _)
  have B4 : Below w.heap.size w ((W2.alloc (.cells #[.int .i64 0] 3)).setCell ⟨w1.heap.size, 1 * 13 + 11, none⟩ (.slice (some ⟨W2.heap.size, 0, none⟩) 1 1)) := (B2.alloc B2.size _).setCell (p := ⟨w1.heap.size, _, none⟩) gn _
  have O6 := O4.upd 2 0 (by decide) (W.thL false true) S3.nil (.int .i64 2) rfl (fun i hi hne => by
    match i, hi with
    | 0, _ => exact absurd rfl hne
    | 1, _ => rfl
    | 2, _ => rfl
    | 3, _ => rfl
    | 4, _ => rfl
    | 5, _ => rfl
    | 6, _ => rfl
    | 7, _ => rfl
    | 8, _ => rfl
    | 9, _ => rfl
    | 10, _ => rfl
    | 11, _ => rfl
    | 12, _ => rfl) (lg_nil _ _) (lg_nil _ _) (lg_nil _ _)
  have B6 := B4.setCell (p := ⟨w1.heap.size, 2 * 13 + 0, none⟩) gn (.int .i64 2)
  have Y1 := fun W' (hb : Below _ _ W') => whyI_any _ 3 3 (thX3 true false true) W' ((O6.below hb).ol) (by decide) (by decide) (th_ok true false true) 1 2 (by decide) (by decide) (by decide) (by decide)
  have Y2 := fun W' (hb : Below _ _ W') => whyI_any _ 3 3 (thX3 true false true) W' ((O6.below hb).ol) (by decide) (by decide) (th_ok true false true) 0 2 (by decide) (by decide) (by decide) (by decide)
  rw [th_12'] at Y1
  rw [th_02'] at Y2
  simp only [Nat.one_mul, Nat.reduceMul, Nat.reduceAdd] at Y1 Y2 B6
  rw [World.setCell_alloc_past _ _ _ _ gl] at Y1 Y2 B6
  rw [World.setCell_alloc_past _ _ _ _ (by simp [World.setCell]; exact gl)] at Y1 Y2 B6
  have HY : Hid (_ ∧ _ ∧ _) := ⟨Y1, Y2, B6⟩
  clear Y1 Y2 B6 O2 O3 O4 lone B2 B4 O6 bw1 
  go_wp2_with (fail)
  refine (HY.out.1 _ (Below.refl _ _)).mono ?_
  rintro e w5 ⟨rfl, b5⟩
  go_wp2_with (fail)
  refine (HY.out.2.1 _ b5).mono ?_
  rintro e w6 ⟨rfl, b6⟩
  have B9 := HY.out.2.2.trans ((b5.trans (b6.mono b5.size)).mono HY.out.2.2.size)
  clear b5 b6 q23 q24 q26 q28 qf HY
  go_wp2
  go_ret
  exact ⟨rfl, B9⟩
set_option maxRecDepth 10000 in
set_option maxHeartbeats 1600000 in
theorem th_dsr (w : World) : Calls Try.prog 6 #[.bool true, .bool true, .bool false] w fun e w' => e = .returned (.bool true) ∧ Below w.heap.size w w' := by
  have b1 := bdO_2 1 4
  have b2 := bdO_3 2 4 8
  have b3 := bdO_3 1 4 12
  have s3 := bsO_3 (W.op3 1 4 0) (W.op3 2 4 8) (W.op3 1 4 12)
  have hF := first13_any w
  have HF : Hid (Calls _ _ _ _ _) := hF
  clear hF
  go_enter Try.func6, Try.ntmps6
  go_wp2_with (fail)
  refine HF.out.mono ?_
  rintro e w1 ⟨rfl, bw1⟩
  have O2 := ow_row [W.op3 1 4 0, W.op3 2 4 8, W.op3 1 4 12] 30 (heap_alloc_last w1 _) W.thX (W.ozL_at _)
  have B2 := bw1.alloc bw1.size (.cells (opsR [W.op3 1 4 0, W.op3 2 4 8, W.op3 1 4 12]) 30)
  have gl : w1.heap.size < (w1.alloc (.cells (opsR [W.op3 1 4 0, W.op3 2 4 8, W.op3 1 4 12]) 30)).heap.size := by simp
  have gn : w.heap.size ≤ w1.heap.size := bw1.size
  generalize hW2 : w1.alloc (.cells (opsR [W.op3 1 4 0, W.op3 2 4 8, W.op3 1 4 12]) 30) = W2 at *
  have hW : Hid (_ = W2) := hW2
  have s3' : (bsO 3 #[(0, .agg (opN (W.op3 1 4 0))), (1, .agg (opN (W.op3 2 4 8))), (2, .agg (opN (W.op3 1 4 12)))]).run Try.prog w1 = .ok (.slice (some ⟨w1.heap.size, 0, none⟩) 3 3) W2 := by rw [← hW.out]; exact s3 w1
  clear s3 hW2
  have q23 := O2.cell 1 10 (by decide) (by decide)
  have q24 := O2.cell 1 11 (by decide) (by decide)
  have q26 := O2.cell 2 0 (by decide) (by decide)
  have q28 := O2.cell 2 2 (by decide) (by decide)
  have qf := O2.b.fz
  simp only [Nat.one_mul, Nat.reduceMul, Nat.reduceAdd] at q23 q24 q26 q28
  generalize opF _ _ 23 = v23 at *
  generalize opF _ _ 24 = v24 at *
  generalize opF _ _ 26 = v26 at *
  generalize opF _ _ 28 = v28 at *
  have O3 := O2.below ((Below.refl _ _).alloc (Nat.le_refl _) (.cells #[.int .i64 0] 3))
  have lone : Lg w1.heap.size ⟨some ⟨W2.heap.size, 0, none⟩, 1, 1⟩ [0] (W2.alloc (.cells #[.int .i64 0] 3)) := ⟨li_one W2 _ 0, fun b o _ e => by cases e; omega⟩
  have O4 := O3.upd 1 11 (by decide) (W.thD true) ⟨W.Sl.nil, ⟨some ⟨W2.heap.size, 0, none⟩, 1, 1⟩, W.Sl.nil⟩ (.slice (some ⟨W2.heap.size, 0, none⟩) 1 1) rfl (fun i hi hne => by
    match i, hi with
    | 0, _ => rfl
    | 1, _ => rfl
    | 2, _ => rfl
    | 3, _ => rfl
    | 4, _ => rfl
    | 5, _ => rfl
    | 6, _ => rfl
    | 7, _ => rfl
    | 8, _ => rfl
    | 9, _ => rfl
    | 10, _ => rfl
    | 11, _ => exact absurd rfl hne
    | 12, _ => rfl) (lg_nil _ _) lone (lg_nil _ _)
  have B4 : Below w.heap.size w ((W2.alloc (.cells #[.int .i64 0] 3)).setCell ⟨w1.heap.size, 1 * 13 + 11, none⟩ (.slice (some ⟨W2.heap.size, 0, none⟩) 1 1)) := (B2.alloc B2.size _).setCell (p := ⟨w1.heap.size, _, none⟩) gn _
  have O5 := O4.upd 2 2 (by decide) (W.thL true false) S3.nil (.int .u32 8) rfl (fun i hi hne => by
    match i, hi with
    | 0, _ => rfl
    | 1, _ => rfl
    | 2, _ => exact absurd rfl hne
    | 3, _ => rfl
    | 4, _ => rfl
    | 5, _ => rfl
    | 6, _ => rfl
    | 7, _ => rfl
    | 8, _ => rfl
    | 9, _ => rfl
    | 10, _ => rfl
    | 11, _ => rfl
    | 12, _ => rfl) (lg_nil _ _) (lg_nil _ _) (lg_nil _ _)
  have B5 := B4.setCell (p := ⟨w1.heap.size, 2 * 13 + 2, none⟩) gn (.int .u32 8)
  have Y1 := fun W' (hb : Below _ _ W') => whyI_any _ 3 3 (thX3 true true false) W' ((O5.below hb).ol) (by decide) (by decide) (th_ok true true false) 1 2 (by decide) (by decide) (by decide) (by decide)
  have Y2 := fun W' (hb : Below _ _ W') => whyI_any _ 3 3 (thX3 true true false) W' ((O5.below hb).ol) (by decide) (by decide) (th_ok true true false) 0 2 (by decide) (by decide) (by decide) (by decide)
  rw [th_12'] at Y1
  rw [th_02'] at Y2
  simp only [Nat.one_mul, Nat.reduceMul, Nat.reduceAdd] at Y1 Y2 B5
  rw [World.setCell_alloc_past _ _ _ _ gl] at Y1 Y2 B5
  rw [World.setCell_alloc_past _ _ _ _ (by simp [World.setCell]; exact gl)] at Y1 Y2 B5
  have HY : Hid (_ ∧ _ ∧ _) := ⟨Y1, Y2, B5⟩
  clear Y1 Y2 B5 O2 O3 O4 lone B2 B4 O5 bw1 
  go_wp2_with (fail)
  refine (HY.out.1 _ (Below.refl _ _)).mono ?_
  rintro e w5 ⟨rfl, b5⟩
  go_wp2_with (fail)
  refine (HY.out.2.1 _ b5).mono ?_
  rintro e w6 ⟨rfl, b6⟩
  have B9 := HY.out.2.2.trans ((b5.trans (b6.mono b5.size)).mono HY.out.2.2.size)
  clear b5 b6 q23 q24 q26 q28 qf HY
  go_wp2
  go_ret
  exact ⟨rfl, B9⟩
set_option maxRecDepth 10000 in
set_option maxHeartbeats 1600000 in
theorem th_dsw (w : World) : Calls Try.prog 6 #[.bool true, .bool true, .bool true] w fun e w' => e = .returned (.bool true) ∧ Below w.heap.size w w' := by
  have b1 := bdO_2 1 4
  have b2 := bdO_3 2 4 8
  have b3 := bdO_3 1 4 12
  have s3 := bsO_3 (W.op3 1 4 0) (W.op3 2 4 8) (W.op3 1 4 12)
  have hF := first13_any w
  have HF : Hid (Calls _ _ _ _ _) := hF
  clear hF
  go_enter Try.func6, Try.ntmps6
  go_wp2_with (fail)
  refine HF.out.mono ?_
  rintro e w1 ⟨rfl, bw1⟩
  have O2 := ow_row [W.op3 1 4 0, W.op3 2 4 8, W.op3 1 4 12] 30 (heap_alloc_last w1 _) W.thX (W.ozL_at _)
  have B2 := bw1.alloc bw1.size (.cells (opsR [W.op3 1 4 0, W.op3 2 4 8, W.op3 1 4 12]) 30)
  have gl : w1.heap.size < (w1.alloc (.cells (opsR [W.op3 1 4 0, W.op3 2 4 8, W.op3 1 4 12]) 30)).heap.size := by simp
  have gn : w.heap.size ≤ w1.heap.size := bw1.size
  generalize hW2 : w1.alloc (.cells (opsR [W.op3 1 4 0, W.op3 2 4 8, W.op3 1 4 12]) 30) = W2 at *
  have hW : Hid (_ = W2) := hW2
  have s3' : (bsO 3 #[(0, .agg (opN (W.op3 1 4 0))), (1, .agg (opN (W.op3 2 4 8))), (2, .agg (opN (W.op3 1 4 12)))]).run Try.prog w1 = .ok (.slice (some ⟨w1.heap.size, 0, none⟩) 3 3) W2 := by rw [← hW.out]; exact s3 w1
  clear s3 hW2
  have q23 := O2.cell 1 10 (by decide) (by decide)
  have q24 := O2.cell 1 11 (by decide) (by decide)
  have q26 := O2.cell 2 0 (by decide) (by decide)
  have q28 := O2.cell 2 2 (by decide) (by decide)
  have qf := O2.b.fz
  simp only [Nat.one_mul, Nat.reduceMul, Nat.reduceAdd] at q23 q24 q26 q28
  generalize opF _ _ 23 = v23 at *
  generalize opF _ _ 24 = v24 at *
  generalize opF _ _ 26 = v26 at *
  generalize opF _ _ 28 = v28 at *
  have O3 := O2.below ((Below.refl _ _).alloc (Nat.le_refl _) (.cells #[.int .i64 0] 3))
  have lone : Lg w1.heap.size ⟨some ⟨W2.heap.size, 0, none⟩, 1, 1⟩ [0] (W2.alloc (.cells #[.int .i64 0] 3)) := ⟨li_one W2 _ 0, fun b o _ e => by cases e; omega⟩
  have O4 := O3.upd 1 11 (by decide) (W.thD true) ⟨W.Sl.nil, ⟨some ⟨W2.heap.size, 0, none⟩, 1, 1⟩, W.Sl.nil⟩ (.slice (some ⟨W2.heap.size, 0, none⟩) 1 1) rfl (fun i hi hne => by
    match i, hi with
    | 0, _ => rfl
    | 1, _ => rfl
    | 2, _ => rfl
    | 3, _ => rfl
    | 4, _ => rfl
    | 5, _ => rfl
    | 6, _ => rfl
    | 7, _ => rfl
    | 8, _ => rfl
    | 9, _ => rfl
    | 10, _ => rfl
    | 11, _ => exact absurd rfl hne
    | 12, _ => rfl) (lg_nil _ _) lone (lg_nil _ _)
  have B4 : Below w.heap.size w ((W2.alloc (.cells #[.int .i64 0] 3)).setCell ⟨w1.heap.size, 1 * 13 + 11, none⟩ (.slice (some ⟨W2.heap.size, 0, none⟩) 1 1)) := (B2.alloc B2.size _).setCell (p := ⟨w1.heap.size, _, none⟩) gn _
  have O5 := O4.upd 2 2 (by decide) (W.thL true false) S3.nil (.int .u32 8) rfl (fun i hi hne => by
    match i, hi with
    | 0, _ => rfl
    | 1, _ => rfl
    | 2, _ => exact absurd rfl hne
    | 3, _ => rfl
    | 4, _ => rfl
    | 5, _ => rfl
    | 6, _ => rfl
    | 7, _ => rfl
    | 8, _ => rfl
    | 9, _ => rfl
    | 10, _ => rfl
    | 11, _ => rfl
    | 12, _ => rfl) (lg_nil _ _) (lg_nil _ _) (lg_nil _ _)
  have B5 := B4.setCell (p := ⟨w1.heap.size, 2 * 13 + 2, none⟩) gn (.int .u32 8)
  have O6 := O5.upd 2 0 (by decide) (W.thL true true) S3.nil (.int .i64 2) rfl (fun i hi hne => by
    match i, hi with
    | 0, _ => exact absurd rfl hne
    | 1, _ => rfl
    | 2, _ => rfl
    | 3, _ => rfl
    | 4, _ => rfl
    | 5, _ => rfl
    | 6, _ => rfl
    | 7, _ => rfl
    | 8, _ => rfl
    | 9, _ => rfl
    | 10, _ => rfl
    | 11, _ => rfl
    | 12, _ => rfl) (lg_nil _ _) (lg_nil _ _) (lg_nil _ _)
  have B6 := B5.setCell (p := ⟨w1.heap.size, 2 * 13 + 0, none⟩) gn (.int .i64 2)
  have Y1 := fun W' (hb : Below _ _ W') => whyI_any _ 3 3 (thX3 true true true) W' ((O6.below hb).ol) (by decide) (by decide) (th_ok true true true) 1 2 (by decide) (by decide) (by decide) (by decide)
  have Y2 := fun W' (hb : Below _ _ W') => whyI_any _ 3 3 (thX3 true true true) W' ((O6.below hb).ol) (by decide) (by decide) (th_ok true true true) 0 2 (by decide) (by decide) (by decide) (by decide)
  rw [th_12'] at Y1
  rw [th_02'] at Y2
  simp only [Nat.one_mul, Nat.reduceMul, Nat.reduceAdd] at Y1 Y2 B6
  rw [World.setCell_alloc_past _ _ _ _ gl] at Y1 Y2 B6
  rw [World.setCell_alloc_past _ _ _ _ (by simp [World.setCell]; exact gl)] at Y1 Y2 B6
  rw [World.setCell_alloc_past _ _ _ _ (by simp [World.setCell]; exact gl)] at Y1 Y2 B6
  have HY : Hid (_ ∧ _ ∧ _) := ⟨Y1, Y2, B6⟩
  clear Y1 Y2 B6 O2 O3 O4 lone B2 B4 O5 O6 bw1 B5 
  go_wp2_with (fail)
  refine (HY.out.1 _ (Below.refl _ _)).mono ?_
  rintro e w5 ⟨rfl, b5⟩
  go_wp2_with (fail)
  refine (HY.out.2.1 _ b5).mono ?_
  rintro e w6 ⟨rfl, b6⟩
  have B9 := HY.out.2.2.trans ((b5.trans (b6.mono b5.size)).mono HY.out.2.2.size)
  clear b5 b6 q23 q24 q26 q28 qf HY
  go_wp2
  go_ret
  exact ⟨rfl, B9⟩
theorem ppothrough_walk (data same store : Bool) (w : World) : Calls Try.prog 6 #[.bool data, .bool same, .bool store] w fun e w' => e = .returned (.bool true) ∧ Below w.heap.size w w' := by
  cases data <;> cases same <;> cases store
  · exact th_aor w
  · exact th_aow w
  · exact th_asr w
  · exact th_asw w
  · exact th_dor w
  · exact th_dow w
  · exact th_dsr w
  · exact th_dsw w
end Go.Proofs.Ytopcejohnofelaa
