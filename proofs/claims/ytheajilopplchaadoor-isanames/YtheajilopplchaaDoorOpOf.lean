/- What slices.Index and Op answer. -/
import Derived.Test.YtheajilopplchaaDoorNameOf
namespace Go.Proofs.YtheajilopplchaaDoor
open Go.ChangeShapes Go.WideShapes Go.ChangeAt Go.RowKit
set_option linter.unusedVariables false
set_option linter.unusedSimpArgs false

namespace W
/-- The first name from the k-th on that is L; -1: none. -/
def fidx (L : List UInt8) : Nat → Nat → Int
  | _, 0 => -1
  | k, n + 1 => bif L == nameAt k then (k : Int) else fidx L (k + 1) n
theorem fidx_step {L : List UInt8} {k : Nat} (hk : k < 70) : fidx L k (70 - k) = bif L == nameAt k then (k : Int) else fidx L (k + 1) (70 - (k + 1)) := by
  have : 70 - k = (70 - (k + 1)) + 1 := by omega
  rw [this, fidx]
end W
/-- The names lie in block g. -/
structure Nt (g : Nat) (wc : World) : Prop where
  lt : g < wc.heap.size
  cells : ∀ k, k < 70 → wc.cell? ⟨g, k, none⟩ = some (.string ⟨(W.nameAt k).toArray⟩)

set_option maxRecDepth 100000 in
set_option maxHeartbeats 1600000 in
theorem index_any (L : List UInt8) (g : Nat) (w : World) (hN : Nt g w) : Calls Tryd.prog 44 #[.slice (some ⟨g, 0, none⟩) 70 70, .string ⟨L.toArray⟩] w fun e w' => e = .returned (.int .i64 (W.fidx L 0 70)) ∧ w = w' := by
  have HN : Hid (Nt g w) := hN
  clear hN
  go_enter Tryd.func44, Tryd.ntmps44
  go_wp2
  go_loopw [8] (fun i wr => ∃ k : Nat, k ≤ 70 ∧ i = .int .i64 k ∧ wr = w ∧ W.fidx L 0 70 = W.fidx L k (70 - k)) (fun i _ => (70 - intOf i).toNat)
  case atStart => exact ⟨0, by omega, rfl, rfl, rfl⟩
  case round =>
    obtain ⟨k, hk, rfl, rfl, hD⟩ := hrel
    have HD : Hid (W.fidx L 0 70 = W.fidx L k (70 - k)) := hD
    clear hD
    by_cases hlt : k < 70
    · have c := HN.out.cells k hlt
      have hl0 : (0 : Int) ≤ (k : Int) := by omega
      have hl1 : (k : Int) < 70 := by omega
      have hst := W.fidx_step (L := L) hlt
      cases ht : (L == W.nameAt k)
      · have H2 : Hid (W.fidx L 0 70 = W.fidx L (k + 1) (70 - (k + 1))) := (by rw [HD.out, hst, ht]; rfl : W.fidx L 0 70 = _)
        clear hst
        generalize W.nameAt k = nk at *
        go_wp2
        go_roundw
        case rel => exact ⟨k + 1, by omega, by go_num, trivial, H2.out⟩
        case measure => simp [intOf]; omega
      · have H2 : Hid (W.fidx L 0 70 = (k : Int)) := (by rw [HD.out, hst, ht]; rfl : W.fidx L 0 70 = _)
        clear hst
        generalize W.nameAt k = nk at *
        go_wp2
        go_ret
        exact ⟨ret_int H2.out.symm, rfl⟩
    · obtain rfl : k = 70 := by omega
      go_wp2
      go_ret
      exact ⟨ret_int HD.out.symm, rfl⟩

set_option maxRecDepth 100000 in
set_option maxHeartbeats 1600000 in
theorem op_any (L : List UInt8) (w : World) : Calls Tryd.prog 22 #[.string ⟨L.toArray⟩] w fun e w' => e = .returned (.int .i64 (max 0 (W.fidx L 0 70))) ∧ Below w.heap.size w w' := by
  have hst : ∀ w : World, (storeCells ⟨w.heap.size, 0, none⟩ namesA.toList 0).run Tryd.prog (w.alloc (.cells Tryd.zeroCells76 76)) = .ok () (w.alloc (.cells namesA 76)) := fun w =>
    run_storeCells_new w 76 _ _ (by kernel_rfl) (by kernel_rfl) (by kernel_rfl)
  have hb : Below w.heap.size w w := Below.refl _ _
  have hn : namesA.size = 70 := by kernel_rfl
  generalize hI : W.fidx L 0 70 = I
  have HI : Hid (W.fidx L 0 70 = I) := hI
  clear hI
  go_enter Tryd.func22, Tryd.ntmps22
  go_wp2_with (first
    | (go_at_call 40; refine (from_ (names_any _) hb).mono ?_; clear hb; rintro e w1 ⟨rfl, hb⟩)
    | (go_at_call 44; refine (index_any L w1.heap.size _ ⟨by simp, fun k hk => (cell_of_row _ _ k namesA 76 (0, 0) (heap_alloc_last w1 _)).trans (namesA_at k hk)⟩).mono ?_; rintro e w' ⟨rfl, rfl⟩; rw [HI.out]))
  all_goals
    go_ret
    exact ⟨ret_int (by omega), hb.alloc hb.size _⟩
end Go.Proofs.YtheajilopplchaaDoor
