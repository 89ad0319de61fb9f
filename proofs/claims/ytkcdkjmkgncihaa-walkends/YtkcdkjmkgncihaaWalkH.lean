/- The chapter's examples. -/
import Derived.Test.YtkcdkjmkgncihaaWalkG
import Derived.Test.YtkcdkjmkgncihaaPteK
namespace Go.Proofs.Ytkcdkjmkgncihaa
open Go.ChangeShapes Go.WideShapes Go.ChangeAt Go.RowKit
set_option linter.unusedVariables false
set_option linter.unusedSimpArgs false

theorem same_any (k pa ad vl ca : Int) (w : World) : Calls Try.prog 16 #[.agg #[.int .i64 k, .int .u32 pa, .int .u32 ad, .int .u32 vl, .int .u32 ca], .agg #[.int .i64 k, .int .u32 pa, .int .u32 ad, .int .u32 vl, .int .u32 ca]] w fun x w' => x = .returned (.bool true) ∧ Below w.heap.size w w' := by
  go_enter Try.func16, Try.ntmps16
  go_wp2
  go_ret
  exact ⟨rfl, ((Below.refl _ _).alloc (Nat.le_refl _) _).alloc (by simp) _⟩

def W.p0 : Nat → W.Pt := fun _ => ⟨0, 0, 0, 0, false⟩
theorem reads_nil (a : Option Addr) (w : World) : Reads a 0 W.p0 w := ⟨Nat.zero_le _, fun h => absurd h (by omega), fun _ => ⟨Int.le_refl 0, by show (0 : Int) < 4294967296; decide⟩⟩
/-- Next without entries. -/
theorem next_nil (satp mode va acc bytes : Int) (s0 : 0 ≤ satp) (s1 : satp < 4294967296) (v0 : 0 ≤ va) (v1 : va < 4294967296) (a : Option Addr) (cap : Nat) (w : World) (S : W.Stp)
    (hS : W.nextS satp mode va acc bytes 0 (fun _ => 0) (fun _ => 0) = S) :
    Calls Try.prog 9 #[.int .u32 satp, .int .i64 mode, .int .u32 va, .int .i64 acc, .int .i64 bytes, .slice a 0 cap] w fun x w' => x = .returned (.agg #[.int .i64 S.k, .int .u32 S.pa, .int .u32 S.ad, .int .u32 S.vl, .int .u32 S.ca]) ∧ Below w.heap.size w w' :=
  next_any satp mode va acc bytes s0 s1 v0 v1 a 0 cap W.p0 w (reads_nil a w) S hS

/-- One entry in a block of its own. -/
theorem reads_one (w : World) (B : Nat) (hB : w.heap.size = B) (a v o t : Int) (f : Bool) (T : TypeId) (h0 : 0 ≤ v) (h1 : v < 4294967296) : Reads (some ⟨B, 0, none⟩) 1 (fun _ => ⟨a, v, o, t, f⟩) (w.alloc (.cells #[.int .u32 a, .int .u32 v, .int .u32 o, .int .i64 t, .bool f] T)) := by
  subst hB
  refine ⟨by decide, fun _ => ⟨w.heap.size, 0, rfl, by simp, ?_⟩, fun _ => ⟨h0, h1⟩⟩
  intro j hj
  obtain rfl : j = 0 := by omega
  simp [go_sem]
theorem next_one (satp mode va acc bytes : Int) (s0 : 0 ≤ satp) (s1 : satp < 4294967296) (v0 : 0 ≤ va) (v1 : va < 4294967296) (w : World) (B : Nat) (hB : w.heap.size = B) (a v o t : Int) (f : Bool) (T : TypeId) (h0 : 0 ≤ v) (h1 : v < 4294967296) (S : W.Stp)
    (hS : W.nextS satp mode va acc bytes 1 (fun _ => a) (fun _ => v) = S) :
    Calls Try.prog 9 #[.int .u32 satp, .int .i64 mode, .int .u32 va, .int .i64 acc, .int .i64 bytes, .slice (some ⟨B, 0, none⟩) 1 1] (w.alloc (.cells #[.int .u32 a, .int .u32 v, .int .u32 o, .int .i64 t, .bool f] T)) fun x w' => x = .returned (.agg #[.int .i64 S.k, .int .u32 S.pa, .int .u32 S.ad, .int .u32 S.vl, .int .u32 S.ca]) ∧ Below w.heap.size w w' :=
  (next_any satp mode va acc bytes s0 s1 v0 v1 _ 1 1 _ _ (reads_one w B hB a v o t f T h0 h1) S hS).mono fun e w' ⟨h, hb⟩ => ⟨h, ((Below.refl _ _).alloc (Nat.le_refl _) _).trans (hb.mono (by simp))⟩

/-- A step lies in block b. -/
def Sp (b : Nat) (k pa ad vl ca : Int) (w : World) : Prop := w.heap[b]? = some (.cells #[.int .i64 k, .int .u32 pa, .int .u32 ad, .int .u32 vl, .int .u32 ca] 28)
theorem Sp.lt {b : Nat} {k pa ad vl ca : Int} {w : World} (h : Sp b k pa ad vl ca w) : b < w.heap.size := by
  obtain ⟨h1, _⟩ := Array.getElem?_eq_some_iff.1 h
  exact h1
theorem Sp.below {b : Nat} {k pa ad vl ca : Int} {w w' : World} (h : Sp b k pa ad vl ca w) (hb : Below w.heap.size w w') : Sp b k pa ad vl ca w' := (hb.block _ h.lt).trans h
theorem Sp.alloc {b : Nat} {k pa ad vl ca : Int} {w : World} (h : Sp b k pa ad vl ca w) (o : Obj) : Sp b k pa ad vl ca (w.alloc o) := h.below ((Below.refl _ _).alloc (Nat.le_refl _) _)
theorem Sp.new (k pa ad vl ca : Int) (w : World) : Sp w.heap.size k pa ad vl ca (w.alloc (.cells #[.int .i64 k, .int .u32 pa, .int .u32 ad, .int .u32 vl, .int .u32 ca] 28)) := by
  show (w.heap.push _)[w.heap.size]? = _
  simp
theorem Sp.cells {b : Nat} {k pa ad vl ca : Int} {w : World} (h : Sp b k pa ad vl ca w) :
    w.cell? ⟨b, 0, none⟩ = some (.int .i64 k) ∧ w.cell? ⟨b, 1, none⟩ = some (.int .u32 pa) ∧ w.cell? ⟨b, 2, none⟩ = some (.int .u32 ad) ∧ w.cell? ⟨b, 3, none⟩ = some (.int .u32 vl) ∧ w.cell? ⟨b, 4, none⟩ = some (.int .u32 ca) ∧ ∀ o, w.frozen? ⟨b, o, none⟩ = false := st_cells h
theorem bnew {w0 w : World} (h : Below w0.heap.size w0 w) (o : Obj) : Below w0.heap.size w0 (w.alloc o) := h.alloc h.size o
theorem bnext {w0 w w' : World} (h : Below w0.heap.size w0 w) (hb : Below w.heap.size w w') : Below w0.heap.size w0 w' := h.trans (hb.mono h.size)

theorem make_f (page : Int) (p0 : 0 ≤ page) (p1 : page < 4294967296) (f : Int) (f0 : 0 ≤ f) (f1 : f < 4294967296) (w : World) (B : Nat) (hB : w.heap.size = B) :
    Calls Try.prog 14 #[.int .u32 page, .slice (some ⟨B, 0, none⟩) 1 1] (w.alloc (.cells #[.int .u32 f] 23)) fun e w' => e = .returned (.int .u32 (W.mk page f)) ∧ Below w.heap.size w w' := by
  subst hB
  refine (make_any page p0 p1 w.heap.size 0 1 1 (fun _ => f) _ (by decide) (by simp) ?_).mono ?_
  · intro j hj
    obtain rfl : j = 0 := by omega
    simp [go_sem]
  · rintro e w' ⟨rfl, hb⟩
    exact ⟨ret_int (by rw [orAll_one _ f0 f1]), ((Below.refl _ _).alloc (Nat.le_refl _) _).trans (hb.mono (by simp))⟩

theorem ex_a : W.nextS 0 0 4660 2 4096 0 (fun _ => 0) (fun _ => 0) = ⟨1, 4660, 0, 0, 0⟩ := by kernel_rfl
theorem ex_b : W.nextS 2147483649 0 4660 2 65536 0 (fun _ => 0) (fun _ => 0) = ⟨3, 0, 4096, 0, 0⟩ := by kernel_rfl
theorem ex_c : W.nextS 2147483649 0 4660 2 65536 1 (fun _ => 4096) (fun _ => 2049) = ⟨3, 0, 8196, 0, 0⟩ := by kernel_rfl

theorem first9_any (w : World) : Calls Try.prog 7 #[] w fun e w' => e = .returned (.bool true) ∧ Below w.heap.size w w' := by
  have hb0 : Below w.heap.size w w := Below.refl _ _
  go_enter Try.func7, Try.ntmps7
  go_wp2_with (fail)
  refine (next_nil 0 0 4660 2 4096 (by decide) (by decide) (by decide) (by decide) _ _ _ _ ex_a).mono ?_
  rintro e w1 ⟨rfl, hb1⟩
  go_wp2_with (fail)
  have oa := Sp.new 1 4660 0 0 0 w1
  refine (next_nil 2147483649 0 4660 2 65536 (by decide) (by decide) (by decide) (by decide) _ _ _ _ ex_b).mono ?_
  rintro e w2 ⟨rfl, hb⟩
  replace oa := oa.below hb
  have hb2 := bnext (bnew hb1 _) hb
  clear hb hb1
  have ob := Sp.new 3 0 4096 0 0 w2
  replace oa := oa.alloc (.cells #[.int .i64 3, .int .u32 0, .int .u32 4096, .int .u32 0, .int .u32 0] 28)
  have hb3 := bnew hb2 (.cells #[.int .i64 3, .int .u32 0, .int .u32 4096, .int .u32 0, .int .u32 0] 28)
  go_wp2_with (fail)
  have mk2 : W.mk 2 1 = 2049 := by kernel_rfl
  refine (make_f 2 (by decide) (by decide) 1 (by decide) (by decide) _ _ (by simp)).mono ?_
  rw [mk2]
  rintro e w3 ⟨rfl, hb⟩
  replace oa := oa.below hb
  replace ob := ob.below hb
  replace hb3 := bnext hb3 hb
  clear hb hb2
  go_wp2_with (fail)
  refine (next_one 2147483649 0 4660 2 65536 (by decide) (by decide) (by decide) (by decide) _ _ rfl _ _ _ _ _ _ (by decide) (by decide) _ ex_c).mono ?_
  rintro e w4 ⟨rfl, hb⟩
  replace oa := oa.below hb
  replace ob := ob.below hb
  replace hb3 := bnext hb3 hb
  clear hb
  obtain ⟨a0, a1, a2, a3, a4, az⟩ := oa.cells
  have la := oa.lt
  go_wp2_with (fail)
  have oc := Sp.new 3 0 8196 0 0 w4
  refine (same_any _ _ _ _ _ _).mono ?_
  rintro e w5 ⟨rfl, hb⟩
  replace oc := oc.below hb
  replace ob := (ob.alloc _).below hb
  replace hb3 := bnext (bnew hb3 _) hb
  clear hb oa a0 a1 a2 a3 a4 az la
  obtain ⟨a0, a1, a2, a3, a4, az⟩ := ob.cells
  go_wp2_with (fail)
  refine (same_any _ _ _ _ _ _).mono ?_
  rintro e w6 ⟨rfl, hb⟩
  replace oc := oc.below hb
  replace hb3 := bnext hb3 hb
  clear hb ob a0 a1 a2 a3 a4 az
  obtain ⟨a0, a1, a2, a3, a4, az⟩ := oc.cells
  go_wp2_with (fail)
  refine (same_any _ _ _ _ _ _).mono ?_
  rintro e w7 ⟨rfl, hb⟩
  replace hb3 := bnext hb3 hb
  go_wp2
  go_ret
  exact ⟨rfl, hb3⟩
end Go.Proofs.Ytkcdkjmkgncihaa
