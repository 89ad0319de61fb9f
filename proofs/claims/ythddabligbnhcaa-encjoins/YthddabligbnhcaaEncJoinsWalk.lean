/- EncJoins, walked: it returns true, whatever the fields. -/
import Derived.Test.YthddabligbnhcaaEnc2
import Derived.Test.YthddabligbnhcaaEnc3
namespace Go.Proofs.Ythddabligbnhcaa
open Go.ChangeShapes Go.WideShapes Go.ChangeAt Go.RowKit
set_option linter.unusedVariables false

theorem joined (a b c d e f : Int) (a0 : 0 ≤ a) (a1 : a < 4294967296) (b0 : 0 ≤ b) (b1 : b < 4294967296) (c0 : 0 ≤ c) (c1 : c < 4294967296)
    (d0 : 0 ≤ d) (d1 : d < 4294967296) (e0 : 0 ≤ e) (e1 : e < 4294967296) (f0 : 0 ≤ f) (f1 : f < 4294967296) :
    (W.bitsOf (W.pack W.hL W.hN (six a b c d e f) 6) 0 7 == bits .and .u32 a 127) = true ∧ (W.bitsOf (W.pack W.hL W.hN (six a b c d e f) 6) 7 5 == bits .and .u32 b 31) = true
    ∧ (W.bitsOf (W.pack W.hL W.hN (six a b c d e f) 6) 12 3 == bits .and .u32 c 7) = true ∧ (W.bitsOf (W.pack W.hL W.hN (six a b c d e f) 6) 15 5 == bits .and .u32 d 31) = true
    ∧ (W.bitsOf (W.pack W.hL W.hN (six a b c d e f) 6) 20 5 == bits .and .u32 e 31) = true ∧ (W.bitsOf (W.pack W.hL W.hN (six a b c d e f) 6) 25 7 == bits .and .u32 f 127) = true := by
  have hV : ∀ j, j < 6 → 0 ≤ six a b c d e f j ∧ six a b c d e f j < 4294967296 := by
    intro j hj
    match j, hj with
    | 0, _ | 1, _ | 2, _ | 3, _ | 4, _ | 5, _ => simp [six]; omega
  have g := W.split_join (six a b c d e f) hV
  refine ⟨beq_iff_eq.2 ?_, beq_iff_eq.2 ?_, beq_iff_eq.2 ?_, beq_iff_eq.2 ?_, beq_iff_eq.2 ?_, beq_iff_eq.2 ?_⟩
  · exact (g 0 (by decide)).trans (W.low_and a 7 (by decide) a0 a1).symm
  · exact (g 1 (by decide)).trans (W.low_and b 5 (by decide) b0 b1).symm
  · exact (g 2 (by decide)).trans (W.low_and c 3 (by decide) c0 c1).symm
  · exact (g 3 (by decide)).trans (W.low_and d 5 (by decide) d0 d1).symm
  · exact (g 4 (by decide)).trans (W.low_and e 5 (by decide) e0 e1).symm
  · exact (g 5 (by decide)).trans (W.low_and f 7 (by decide) f0 f1).symm

set_option maxHeartbeats 3200000 in
theorem joins_walk (a b c d e f : Int) (a0 : 0 ≤ a) (a1 : a < 4294967296) (b0 : 0 ≤ b) (b1 : b < 4294967296) (c0 : 0 ≤ c) (c1 : c < 4294967296)
    (d0 : 0 ≤ d) (d1 : d < 4294967296) (e0 : 0 ≤ e) (e1 : e < 4294967296) (f0 : 0 ≤ f) (f1 : f < 4294967296) (w : World) :
    Calls Try.prog 5 #[.int .u32 a, .int .u32 b, .int .u32 c, .int .u32 d, .int .u32 e, .int .u32 f] w fun e w' => e = .returned (.bool true) ∧ Below w.heap.size w w' := by
  obtain ⟨h1, h2, h3, h4, h5, h6⟩ := joined a b c d e f a0 a1 b0 b1 c0 c1 d0 d1 e0 e1 f0 f1
  clear a0 a1 b0 b1 c0 c1 d0 d1 e0 e1 f0 f1
  have hb : Below w.heap.size w w := Below.refl _ _
  go_enter Try.func5, Try.ntmps5
  go_wp2_with (first
    | (go_at_call 7; refine (from_ (first_any _) hb).mono ?_; clear hb; rintro e' w' ⟨rfl, hb⟩)
    | (go_at_call 9; refine (from_ (join_any _ _ _ _ _ _ _) hb).mono ?_; clear hb; rintro e' w' ⟨rfl, hb⟩)
    | (go_at_call 8; refine (from_ (split_any _ _) hb).mono ?_; clear hb; rintro e' w' ⟨rfl, hb⟩; unfold headV))
  go_ret
  exact ⟨rfl, hb.alloc hb.size _⟩
end Go.Proofs.Ythddabligbnhcaa
