/- PpoDeps. -/
import Derived.Test.YtopcejohnofelaaPpoDepsR0
import Derived.Test.YtopcejohnofelaaPpoDepsR1
import Derived.Test.YtopcejohnofelaaPpoDepsR2
import Derived.Test.YtopcejohnofelaaPpoDepsR3
import Derived.Test.YtopcejohnofelaaPpoDepsW0
import Derived.Test.YtopcejohnofelaaPpoDepsW1
import Derived.Test.YtopcejohnofelaaPpoDepsW2
import Derived.Test.YtopcejohnofelaaPpoDepsW3
namespace Go.Proofs.Ytopcejohnofelaa
open Go.ChangeShapes Go.WideShapes Go.ChangeAt Go.RowKit
set_option linter.unusedVariables false

theorem ppodeps_walk (n a b how : Int) (write : Bool) (n0 : -9223372036854775808 ≤ n) (n1 : n ≤ 9223372036854775807) (a0 : -9223372036854775808 ≤ a) (a1 : a ≤ 9223372036854775807) (b0 : -9223372036854775808 ≤ b) (b1 : b ≤ 9223372036854775807) (h0 : -9223372036854775808 ≤ how) (h1 : how ≤ 9223372036854775807) (w : World) :
    Calls Try.prog 5 #[.int .i64 n, .int .i64 a, .int .i64 b, .int .i64 how, .bool write] w fun e w' => e = .returned (.bool true) ∧ Below w.heap.size w w' := by
  obtain ⟨N, hN⟩ := Int.eq_ofNat_of_zero_le (show 0 ≤ n % 12 + 2 by omega)
  obtain ⟨B, hB⟩ := Int.eq_ofNat_of_zero_le (show 0 ≤ b % ((N : Int) - 1) + 1 by have := Int.emod_nonneg b (show (N : Int) - 1 ≠ 0 by omega); omega)
  have B1 : 1 ≤ B := by have := Int.emod_nonneg b (show (N : Int) - 1 ≠ 0 by omega); omega
  obtain ⟨A, hA⟩ := Int.eq_ofNat_of_zero_le (show 0 ≤ a % (B : Int) from Int.emod_nonneg a (by omega))
  have hH : how % 4 = 0 ∨ how % 4 = 1 ∨ how % 4 = 2 ∨ how % 4 = 3 := by omega
  cases write
  · rcases hH with h | h | h | h
    · exact deps_r0 N A B n a b how n0 n1 a0 a1 b0 b1 h0 h1 hN hB hA h w
    · exact deps_r1 N A B n a b how n0 n1 a0 a1 b0 b1 h0 h1 hN hB hA h w
    · exact deps_r2 N A B n a b how n0 n1 a0 a1 b0 b1 h0 h1 hN hB hA h w
    · exact deps_r3 N A B n a b how n0 n1 a0 a1 b0 b1 h0 h1 hN hB hA h w
  · rcases hH with h | h | h | h
    · exact deps_w0 N A B n a b how n0 n1 a0 a1 b0 b1 h0 h1 hN hB hA h w
    · exact deps_w1 N A B n a b how n0 n1 a0 a1 b0 b1 h0 h1 hN hB hA h w
    · exact deps_w2 N A B n a b how n0 n1 a0 a1 b0 b1 h0 h1 hN hB hA h w
    · exact deps_w3 N A B n a b how n0 n1 a0 a1 b0 b1 h0 h1 hN hB hA h w
end Go.Proofs.Ytopcejohnofelaa
