/- PteKinds: the walk, for each rest of access by 3. -/
import Derived.Test.YtfkbdkalaajkhaaPteKindsA
import Derived.Test.YtfkbdkalaajkhaaPteKindsB
import Derived.Test.YtfkbdkalaajkhaaPteKindsC
import Derived.Test.YtfkbdkalaajkhaaPteKindsD
import Derived.Test.YtfkbdkalaajkhaaPteKindsE
namespace Go.Proofs.Ytfkbdkalaajkhaa
open Go.ChangeShapes Go.WideShapes Go.ChangeAt Go.RowKit
set_option linter.unusedVariables false

theorem tmod_bd8 (a M : Int) (hM : 0 < M) : -M < a.tmod M ∧ a.tmod M < M := by
  rcases Int.le_total 0 a with h | h
  · rw [Int.tmod_eq_emod_of_nonneg h]
    have := Int.emod_nonneg a (show M ≠ 0 by omega)
    have := Int.emod_lt_of_pos a hM
    omega
  · obtain ⟨b, rfl⟩ : ∃ b, a = -b := ⟨-a, by omega⟩
    rw [Int.neg_tmod, Int.tmod_eq_emod_of_nonneg (show 0 ≤ b by omega)]
    have := Int.emod_nonneg b (show M ≠ 0 by omega)
    have := Int.emod_lt_of_pos b hM
    omega

theorem pteKinds_walk (page a : Int) (user : Bool) (p0 : 0 ≤ page) (p1 : page < 4294967296) (a0 : -9223372036854775808 ≤ a) (a1 : a ≤ 9223372036854775807) (w : World) :
    Calls Try.prog 6 #[.int .u32 page, .int .i64 a, .bool user] w fun x w' => x = .returned (.bool true) ∧ Below w.heap.size w w' := by
  have hq := tmod_bd8 a 3 (by decide)
  have h : a.tmod 3 = -2 ∨ a.tmod 3 = -1 ∨ a.tmod 3 = 0 ∨ a.tmod 3 = 1 ∨ a.tmod 3 = 2 := by omega
  cases user
  · rcases h with h | h | h | h | h
    · exact kinds_0_false page a p0 p1 h w
    · exact kinds_1_false page a p0 p1 h w
    · exact kinds_2_false page a p0 p1 h w
    · exact kinds_3_false page a p0 p1 h w
    · exact kinds_4_false page a p0 p1 h w
  · rcases h with h | h | h | h | h
    · exact kinds_0_true page a p0 p1 h w
    · exact kinds_1_true page a p0 p1 h w
    · exact kinds_2_true page a p0 p1 h w
    · exact kinds_3_true page a p0 p1 h w
    · exact kinds_4_true page a p0 p1 h w
end Go.Proofs.Ytfkbdkalaajkhaa
