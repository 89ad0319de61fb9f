/- WalkPages: the walk. -/
import Derived.Test.YtkcdkjmkgncihaaWalkTg0
import Derived.Test.YtkcdkjmkgncihaaWalkTg1
import Derived.Test.YtkcdkjmkgncihaaWalkTg2
import Derived.Test.YtkcdkjmkgncihaaWalkTg3
import Derived.Test.YtkcdkjmkgncihaaWalkTg4
import Derived.Test.YtkcdkjmkgncihaaWalkTg5
import Derived.Test.YtkcdkjmkgncihaaWalkTs0
import Derived.Test.YtkcdkjmkgncihaaWalkTs1
import Derived.Test.YtkcdkjmkgncihaaWalkTs2
import Derived.Test.YtkcdkjmkgncihaaWalkTs3
import Derived.Test.YtkcdkjmkgncihaaWalkTs4
import Derived.Test.YtkcdkjmkgncihaaWalkTs5
namespace Go.Proofs.Ytkcdkjmkgncihaa
open Go.ChangeShapes Go.WideShapes Go.ChangeAt Go.RowKit
set_option linter.unusedVariables false
set_option linter.unusedSimpArgs false

theorem walkPages_walk (va page : Int) (great : Bool) (flags access : Int) (user : Bool) (v0 : 0 ≤ va) (v1 : va < 4294967296) (p0 : 0 ≤ page) (p1 : page < 4294967296) (f0 : 0 ≤ flags) (f1 : flags < 4294967296) (a0 : -9223372036854775808 ≤ access) (a1 : access ≤ 9223372036854775807) (w : World) :
    Calls Try.prog 4 #[.int .u32 va, .int .u32 page, .bool great, .int .u32 flags, .int .i64 access, .bool user] w fun e w' => e = .returned (.bool true) ∧ Below w.heap.size w w' := by
  cases user
  · exact pages_machine va page flags access great v0 v1 w
  · obtain ⟨f, hf, h193, hF⟩ := W.flags_pg flags f0 f1
    have hp := W.low_and page 20 (by decide) p0 p1
    rw [show ((2 : Int) ^ 20 - 1) = 1048575 from rfl, show ((2 : Int) ^ 20) = 1048576 from rfl] at hp
    cases great
    · have q0 : 0 ≤ bits .and .u32 page 1048575 := by omega
      have q1 : bits .and .u32 page 1048575 < 1048576 := by omega
      cases hl : W.leaf f
      · exact pages_s0 va page flags access _ f v0 v1 hf h193 hF q0 q1 rfl hl w
      · cases c1 : (bits .and .u32 (f : Int) 16 != 0)
        · exact pages_s1 va page flags access _ f v0 v1 hf h193 hF q0 q1 rfl hl c1 w
        · cases c2 : (bits .and .u32 (f : Int) (W.asked access) != 0)
          · exact pages_s2 va page flags access _ f v0 v1 hf h193 hF q0 q1 rfl hl c1 c2 w
          · cases c3 : (bits .and .u32 (f : Int) 4 != 0)
            · exact pages_s3 va page flags access _ f v0 v1 hf h193 hF q0 q1 rfl hl c1 c2 c3 w
            · cases c4 : (bits .and .u32 (f : Int) 2 == 0)
              · exact pages_s4 va page flags access _ f v0 v1 hf h193 hF q0 q1 rfl hl c1 c2 c3 c4 w
              · exact pages_s5 va page flags access _ f v0 v1 hf h193 hF q0 q1 rfl hl c1 c2 c3 c4 w
    · have hq := W.andNot_1023 page p0 p1
      have q0 : 0 ≤ bits .andNot .u32 (bits .and .u32 page 1048575) 1023 := by rw [hq]; omega
      have q1 : bits .andNot .u32 (bits .and .u32 page 1048575) 1023 < 1048576 := by rw [hq]; omega
      have q2 : bits .andNot .u32 (bits .and .u32 page 1048575) 1023 % 1024 = 0 := by rw [hq]; omega
      cases hl : W.leaf f
      · exact pages_g0 va page flags access _ f v0 v1 hf h193 hF q0 q1 rfl q2 hl w
      · cases c1 : (bits .and .u32 (f : Int) 16 != 0)
        · exact pages_g1 va page flags access _ f v0 v1 hf h193 hF q0 q1 rfl q2 hl c1 w
        · cases c2 : (bits .and .u32 (f : Int) (W.asked access) != 0)
          · exact pages_g2 va page flags access _ f v0 v1 hf h193 hF q0 q1 rfl q2 hl c1 c2 w
          · cases c3 : (bits .and .u32 (f : Int) 4 != 0)
            · exact pages_g3 va page flags access _ f v0 v1 hf h193 hF q0 q1 rfl q2 hl c1 c2 c3 w
            · cases c4 : (bits .and .u32 (f : Int) 2 == 0)
              · exact pages_g4 va page flags access _ f v0 v1 hf h193 hF q0 q1 rfl q2 hl c1 c2 c3 c4 w
              · exact pages_g5 va page flags access _ f v0 v1 hf h193 hF q0 q1 rfl q2 hl c1 c2 c3 c4 w
end Go.Proofs.Ytkcdkjmkgncihaa
