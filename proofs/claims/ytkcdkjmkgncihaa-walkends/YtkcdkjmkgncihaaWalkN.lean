/- What comes next, of the entries that the statements lay. -/
import Derived.Test.YtkcdkjmkgncihaaWalkM
namespace Go.Proofs.Ytkcdkjmkgncihaa.W
open Go.RowKit
set_option linter.unusedVariables false
set_option linter.unusedSimpArgs false

theorem and_1023 (x : Int) (h0 : 0 ≤ x) (h1 : x < 4294967296) : bits .and .u32 x 1023 = x % 1024 := by
  have := low_and x 10 (by decide) h0 h1
  rw [show ((2 : Int) ^ 10 - 1) = 1023 from rfl, show ((2 : Int) ^ 10) = 1024 from rfl] at this
  exact this
theorem and_4095 (x : Int) (h0 : 0 ≤ x) (h1 : x < 4294967296) : bits .and .u32 x 4095 = x % 4096 := by
  have := low_and x 12 (by decide) h0 h1
  rw [show ((2 : Int) ^ 12 - 1) = 4095 from rfl, show ((2 : Int) ^ 12) = 4096 from rfl] at this
  exact this
theorem and_4194303 (x : Int) (h0 : 0 ≤ x) (h1 : x < 4294967296) : bits .and .u32 x 4194303 = x % 4194304 := by
  have := low_and x 22 (by decide) h0 h1
  rw [show ((2 : Int) ^ 22 - 1) = 4194303 from rfl, show ((2 : Int) ^ 22) = 4194304 from rfl] at this
  exact this

/-- The table of level 1 at page 1, of 64 KiB. -/
theorem ent_1 (va : Int) (h0 : 0 ≤ va) (h1 : va < 4294967296) : entA 1 va true = 4096 + 4 * (va / 4194304) ∧ entB 1 va 65536 true = true := by
  have e : entA 1 va true = 4096 + 4 * (va / 4194304) := by show 1 * 4096 + 4 * (va / 4194304) = _; omega
  refine ⟨e, ?_⟩
  unfold entB
  rw [e, show decide (4294967295 < 4096 + 4 * (va / 4194304)) = false by simp; omega, cond_false]
  simp; omega
theorem ent_no (va : Int) (h0 : 0 ≤ va) (h1 : va < 4294967296) : entB 1 va 4096 true = false := by
  unfold entB
  rw [(ent_1 va h0 h1).1, show decide (4294967295 < 4096 + 4 * (va / 4194304)) = false by simp; omega, cond_false]
  simp; omega
/-- The table of level 0 at page 2. -/
theorem ent_2 (va : Int) (h0 : 0 ≤ va) (h1 : va < 4294967296) : entA 2 va false = 8192 + 4 * (va / 4096 % 1024) ∧ entB 2 va 65536 false = true := by
  have e : entA 2 va false = 8192 + 4 * (va / 4096 % 1024) := by show 2 * 4096 + 4 * (va / 4096 % 1024) = _; omega
  refine ⟨e, ?_⟩
  unfold entB
  rw [e, show decide (4294967295 < 8192 + 4 * (va / 4096 % 1024)) = false by simp; omega, cond_false]
  simp; omega
theorem bad_2049 : bad 2049 = false := by decide +kernel
theorem leaf_2049 : leaf 2049 = false := by decide +kernel
theorem on_1 : onB 2147483649 0 = true := by decide +kernel

theorem odd_more (va s A0 : Int) (h0 : 0 ≤ va) (h1 : va < 4294967296) (hA : A0 = 4096 + 4 * (va / 4194304)) : nextS 2147483649 0 va s 65536 1 (fun _ => A0) (fun _ => 2049) = moreS (8192 + 4 * (va / 4096 % 1024)) := by
  have e1 := ent_1 va h0 h1
  have e2 := ent_2 va h0 h1
  have e : stepS 2147483649 0 va s 65536 1 (fun _ => A0) (fun _ => 2049) = (moreS (8192 + 4 * (va / 4096 % 1024)), 1) := by
    unfold stepS downS
    rw [on_1, show ((2147483649 : Int) % 4194304) = 1 from rfl, e1.1, e1.2, bad_2049, leaf_2049]
    unfold downL
    rw [show ((2049 : Int) / 1024) = 2 from rfl, e2.1, e2.2]
    simp [hA]
  unfold nextS
  rw [e]
  rfl
theorem odd_flt (va s A0 : Int) (h0 : 0 ≤ va) (h1 : va < 4294967296) (hA : A0 ≠ 4096 + 4 * (va / 4194304)) : nextS 2147483649 0 va s 65536 1 (fun _ => A0) (fun _ => 2049) = fltS s true := by
  have e1 := ent_1 va h0 h1
  have e : stepS 2147483649 0 va s 65536 1 (fun _ => A0) (fun _ => 2049) = (fltS s true, 0) := by
    unfold stepS downS
    rw [on_1, show ((2147483649 : Int) % 4194304) = 1 from rfl, e1.1, e1.2]
    simp [show (A0 != 4096 + 4 * (va / 4194304)) = true by simpa using hA]
  unfold nextS
  rw [e]
  rfl
theorem odd_y (va s : Int) (h0 : 0 ≤ va) (h1 : va < 4294967296) : nextS 2147483649 0 va s 4096 0 (fun _ => 0) (fun _ => 0) = fltS s false := by
  have e : stepS 2147483649 0 va s 4096 0 (fun _ => 0) (fun _ => 0) = (fltS s false, 0) := by
    unfold stepS downS
    rw [on_1, show ((2147483649 : Int) % 4194304) = 1 from rfl, ent_no va h0 h1]
    rfl
  unfold nextS
  rw [e]
  rfl
theorem odd_z (va s A0 V0 : Int) : nextS 0 0 va s 65536 1 (fun _ => A0) (fun _ => V0) = fltS s true := by
  have e : stepS 0 0 va s 65536 1 (fun _ => A0) (fun _ => V0) = (hereS va, 0) := by
    unfold stepS
    rw [show onB 0 0 = false by decide +kernel]
    rfl
  unfold nextS
  rw [e]
  rfl
end Go.Proofs.Ytkcdkjmkgncihaa.W
