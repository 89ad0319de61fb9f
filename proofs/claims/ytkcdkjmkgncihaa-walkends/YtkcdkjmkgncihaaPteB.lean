/- What an entry that is made is, as a sum. -/
import Derived.Test.YtkcdkjmkgncihaaPteM
import Derived.Test.YtkcdkjmkgncihaaMath4
namespace Go.Proofs.Ytkcdkjmkgncihaa.W
open Go.RowKit
set_option linter.unusedVariables false

def mkL (j : Nat) : Int := if j = 0 then 0 else 10
def mkN (j : Nat) : Int := if j = 0 then 10 else 22
def mkV (all page : Int) (j : Nat) : Int := if j = 0 then all else page
theorem orAll_lt (f : Nat → Int) (k : Nat) : 0 ≤ orAll f k ∧ orAll f k < 4294967296 := by
  cases k with
  | zero => show (0 : Int) ≤ 0 ∧ (0 : Int) < 4294967296; decide
  | succ k => exact or_lt _ _
theorem mk_lt (page all : Int) : 0 ≤ mk page all ∧ mk page all < 4294967296 := by unfold mk; omega
theorem mk_pack (all page : Int) (a0 : 0 ≤ all) (a1 : all < 4294967296) (p0 : 0 ≤ page) (p1 : page < 4294967296) : pack mkL mkN (mkV all page) 2 = mk page all := by
  have e1 : place all 0 10 = all % 1024 := by
    unfold place
    rw [lowest_eq 10 (by decide)]
    have := low_and all 10 (by decide) a0 a1
    rw [show (min (10 : Int).toNat 32) = 10 from rfl, this, show ((2 : Int) ^ 10) = 1024 from rfl, show ((2 : Int) ^ (0 : Int).toNat) = 1 from rfl]
    omega
  have e2 : place page 10 22 = page % 4194304 * 1024 := by
    unfold place
    rw [lowest_eq 22 (by decide)]
    have := low_and page 22 (by decide) p0 p1
    rw [show (min (22 : Int).toNat 32) = 22 from rfl, this, show ((2 : Int) ^ 22) = 4194304 from rfl, show ((2 : Int) ^ (10 : Int).toNat) = 1024 from rfl]
    omega
  have h1 : pack mkL mkN (mkV all page) 1 = all % 1024 := by
    show bits .or .u32 0 (place all 0 10) = _
    rw [e1]
    have := or_join 0 (all % 1024) 10 (by decide) (by decide) (by omega) (by omega) (by decide) (by decide)
    have hc := or_join (all % 1024) 0 0 (by omega) (by omega) (by decide) (by decide) (by decide) (by omega)
    rw [hc]; omega
  show bits .or .u32 (pack mkL mkN (mkV all page) 1) (place page 10 22) = _
  rw [h1, e2, or_join (page % 4194304 * 1024) (all % 1024) 10 (by omega) (by omega) (by omega) (by omega) (by decide) (by omega)]
  rfl
theorem page_eq (e : Int) (e0 : 0 ≤ e) (e1 : e < 4294967296) : bitsOf e 10 22 = e / 1024 := by
  rw [bitsOf_eq e 10 22 e0 e1 (by decide) (by decide) (by decide), show (min (22 : Int).toNat 32) = 22 from rfl, show ((2 : Int) ^ 22) = 4194304 from rfl, show ((2 : Int) ^ (10 : Int).toNat) = 1024 from rfl]
  omega
end Go.Proofs.Ytkcdkjmkgncihaa.W
