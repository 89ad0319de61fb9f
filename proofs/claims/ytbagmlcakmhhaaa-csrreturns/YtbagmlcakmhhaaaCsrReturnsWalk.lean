/- Behind a trap and a return all is as it was. -/
import Derived.Test.YtbagmlcakmhhaaaCsrRetA
import Derived.Test.YtbagmlcakmhhaaaCsrRetB
import Derived.Test.YtbagmlcakmhhaaaCsrRetC
import Derived.Test.YtbagmlcakmhhaaaCsrRetD
namespace Go.Proofs.Ytbagmlcakmhhaaa
open Go.ChangeShapes Go.WideShapes Go.ChangeAt Go.RowKit
set_option linter.unusedVariables false

theorem st_four (s : Int) (s0 : 0 ≤ s) (s1 : s < 4294967296) (x : Int) (hx : bits .andNot .u32 s 6144 = x) : W.status (W.bitsOf x 3 1) (W.bitsOf x 7 1) (W.kmode x) = 0 ∨ W.status (W.bitsOf x 3 1) (W.bitsOf x 7 1) (W.kmode x) = 8 ∨ W.status (W.bitsOf x 3 1) (W.bitsOf x 7 1) (W.kmode x) = 128 ∨ W.status (W.bitsOf x 3 1) (W.bitsOf x 7 1) (W.kmode x) = 136 := by
  have e := W.off_1800 s s0 s1
  rw [hx] at e
  have h := W.set_st x (by omega) (by omega)
  rw [if_neg (by omega)] at h
  rw [h]
  omega

theorem csrreturns_go (s c t pc : Int) (u : Bool) (s0 : 0 ≤ s) (s1 : s < 4294967296) (c0 : 0 ≤ c) (c1 : c < 4294967296) (t0 : 0 ≤ t) (t1 : t < 4294967296) (p0 : 0 ≤ pc) (p1 : pc < 4294967296) (w : World) : Calls Try.prog 4 #[.int .u32 s, .int .u32 c, .int .u32 t, .int .u32 pc, .bool u] w fun e w' => e = .returned (.bool true) ∧ Below w.heap.size w w' := by
  obtain ⟨x, hx⟩ : ∃ x, bits .andNot .u32 s 6144 = x := ⟨_, rfl⟩
  have h := st_four s s0 s1 x hx
  cases u
  · rcases h with h | h | h | h
    · exact returns_0_0 s c t pc x hx h w
    · exact returns_0_8 s c t pc x hx h w
    · exact returns_0_128 s c t pc x hx h w
    · exact returns_0_136 s c t pc x hx h w
  · rcases h with h | h | h | h
    · exact returns_1_0 s c t pc x hx h w
    · exact returns_1_8 s c t pc x hx h w
    · exact returns_1_128 s c t pc x hx h w
    · exact returns_1_136 s c t pc x hx h w
end Go.Proofs.Ytbagmlcakmhhaaa
