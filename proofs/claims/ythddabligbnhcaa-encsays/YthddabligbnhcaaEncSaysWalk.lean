/- EncSays, walked: it returns true, whatever the words and the format. -/
import Derived.Test.YthddabligbnhcaaRef2
import Derived.Test.YthddabligbnhcaaEnc3
namespace Go.Proofs.Ythddabligbnhcaa
open Go.ChangeShapes Go.WideShapes Go.ChangeAt Go.RowKit
set_option linter.unusedVariables false

theorem joined_back (x : Int) (x0 : 0 ≤ x) (x1 : x < 4294967296) : (W.pack W.hL W.hN (six (W.bitsOf x 0 7) (W.bitsOf x 7 5) (W.bitsOf x 12 3) (W.bitsOf x 15 5) (W.bitsOf x 20 5) (W.bitsOf x 25 7)) 6 != x) = false := by
  have e : W.pack W.hL W.hN (six (W.bitsOf x 0 7) (W.bitsOf x 7 5) (W.bitsOf x 12 3) (W.bitsOf x 15 5) (W.bitsOf x 20 5) (W.bitsOf x 25 7)) 6 = W.pack W.hL W.hN (fun j => W.bitsOf x (W.hL j) (W.hN j)) 6 := rfl
  rw [e, W.join_split x x0 x1]
  simp

set_option maxHeartbeats 6400000 in
theorem encsays_walk (x v f : Int) (x0 : 0 ≤ x) (x1 : x < 4294967296) (v0 : 0 ≤ v) (v1 : v < 4294967296) (f0 : 0 ≤ f) (f1 : f ≤ 255) (w : World) :
    Calls Try.prog 3 #[.int .u32 x, .int .u32 v, .int .u8 f] w fun e w' => e = .returned (.bool true) ∧ Below w.heap.size w w' := by
  obtain ⟨h1, h2, h3, h4, h5, h6⟩ := W.heads x x0 x1
  have h7 := joined_back x x0 x1
  have hb : Below w.heap.size w w := Below.refl _ _
  clear f0 f1
  go_enter Try.func3, Try.ntmps3
  go_wp2_with (first
    | (go_at_call 7; refine (from_ (first_any _) hb).mono ?_; clear hb; rintro e' w' ⟨rfl, hb⟩)
    | (go_at_call 8; refine (from_ (split_any _ _) hb).mono ?_; clear hb; rintro e' w' ⟨rfl, hb⟩; unfold headV)
    | (go_at_call 9; refine (from_ (join_any _ _ _ _ _ _ _) (hb.alloc hb.size _)).mono ?_; clear hb; rintro e' w' ⟨rfl, hb⟩)
    | (go_at_call 10; refine (from_ (lay_any _ _ _) hb).mono ?_; clear hb; rintro e w' ⟨rfl, hb⟩)
    | (go_at_call 12; refine (from_ (imm_any _ _ _) hb).mono ?_; clear hb; rintro e w' ⟨rfl, hb⟩)
    | (go_at_call 11; refine (rlay_any _ _ _ v0 v1).mono ?_; rintro e w'' ⟨rfl, rfl⟩)
    | (go_at_call 13; refine (rimm_any _ _ _ x0 x1).mono ?_; rintro e w'' ⟨rfl, rfl⟩))
  go_ret
  exact ⟨rfl, hb⟩
end Go.Proofs.Ythddabligbnhcaa
