/- Plain mirrors of package walk: a step, an entry's place, what comes of a leaf, the way down, what comes next. -/
import Derived.Test.YtkcdkjmkgncihaaPteE
namespace Go.Proofs.Ytkcdkjmkgncihaa.W
open Go.RowKit
set_option linter.unusedVariables false

structure Stp where
  k : Int
  pa : Int
  ad : Int
  vl : Int
  ca : Int

def fltS (acc : Int) (p : Bool) : Stp := ⟨2, 0, 0, 0, cause acc p⟩
def moreS (a : Int) : Stp := ⟨3, 0, a, 0, 0⟩
def hereS (pa : Int) : Stp := ⟨1, pa, 0, 0, 0⟩
def markS (a v : Int) : Stp := ⟨4, 0, a, v, 0⟩
/-- The bits of va within a leaf of level 1 (g), or of level 0. -/
def offv (va : Int) (g : Bool) : Int := bif g then va % 4194304 else va % 4096
def fitsB (ev : Int) (g : Bool) : Bool := bif g then ev / 1024 % 1024 == 0 else true
def lv (g : Bool) : Int := bif g then 1 else 0
def leafS (ea ev va acc mode : Int) (g : Bool) : Stp :=
  bif may ev acc mode then bif fitsB ev g then bif needs ev acc != ev then markS ea (needs ev acc) else
    bif decide (4294967295 < ev / 1024 * 4096 + offv va g) then fltS acc false else hereS (ev / 1024 * 4096 + offv va g)
  else fltS acc true else fltS acc true
def idx (va : Int) (g : Bool) : Int := bif g then va / 4194304 else va / 4096 % 1024
def entA (table va : Int) (g : Bool) : Int := table * 4096 + 4 * idx va g
def entB (table va bytes : Int) (g : Bool) : Bool := bif decide (4294967295 < entA table va g) then false else decide (entA table va g + 4 ≤ bytes)

/-- The second level. -/
def downL (table va acc mode bytes : Int) (n : Nat) (A V : Nat → Int) : Stp × Int :=
  bif entB table va bytes false then
    if n = 1 then (moreS (entA table va false), 1) else
    bif A 1 != entA table va false then (fltS acc true, 1) else
    bif bad (V 1) then (fltS acc true, 2) else
    bif leaf (V 1) then (leafS (A 1) (V 1) va acc mode false, 2) else (fltS acc true, 2)
  else (fltS acc false, 1)
def downS (table va acc mode bytes : Int) (n : Nat) (A V : Nat → Int) : Stp × Int :=
  bif entB table va bytes true then
    if n = 0 then (moreS (entA table va true), 0) else
    bif A 0 != entA table va true then (fltS acc true, 0) else
    bif bad (V 0) then (fltS acc true, 1) else
    bif leaf (V 0) then (leafS (A 0) (V 0) va acc mode true, 1) else downL (V 0 / 1024) va acc mode bytes n A V
  else (fltS acc false, 0)
def onB (satp mode : Int) : Bool := bif mode == 3 then false else decide (2147483648 ≤ satp)
def stepS (satp mode va acc bytes : Int) (n : Nat) (A V : Nat → Int) : Stp × Int :=
  bif onB satp mode then downS (satp % 4194304) va acc mode bytes n A V else (hereS va, 0)
def nextS (satp mode va acc bytes : Int) (n : Nat) (A V : Nat → Int) : Stp :=
  bif decide ((stepS satp mode va acc bytes n A V).2 < n) then fltS acc true else (stepS satp mode va acc bytes n A V).1

theorem idx_lt (va : Int) (g : Bool) (h0 : 0 ≤ va) (h1 : va < 4294967296) : 0 ≤ idx va g ∧ idx va g < 1024 := by
  cases g <;> simp only [idx, cond_true, cond_false] <;> omega
theorem offv_lt (va : Int) (g : Bool) : 0 ≤ offv va g ∧ offv va g < 4194304 := by
  cases g <;> simp only [offv, cond_true, cond_false] <;> omega
theorem bits_22 (x : Int) (h0 : 0 ≤ x) (h1 : x < 4294967296) : bitsOf x 22 10 = idx x true := by
  rw [bitsOf_eq x 22 10 h0 h1 (by decide) (by decide) (by decide)]
  show x / 4194304 % 1024 = x / 4194304
  omega
theorem bits_12 (x : Int) (h0 : 0 ≤ x) (h1 : x < 4294967296) : bitsOf x 12 10 = idx x false := by
  rw [bitsOf_eq x 12 10 h0 h1 (by decide) (by decide) (by decide)]
  rfl
theorem bits_l22 (x : Int) (h0 : 0 ≤ x) (h1 : x < 4294967296) : bitsOf x 0 22 = x % 4194304 := by
  rw [bitsOf_eq x 0 22 h0 h1 (by decide) (by decide) (by decide)]
  show x / 1 % 4194304 = _
  omega
theorem bits_l12 (x : Int) (h0 : 0 ≤ x) (h1 : x < 4294967296) : bitsOf x 0 12 = x % 4096 := by
  rw [bitsOf_eq x 0 12 h0 h1 (by decide) (by decide) (by decide)]
  show x / 1 % 4096 = _
  omega
theorem bits_l10 (x : Int) (h0 : 0 ≤ x) (h1 : x < 4294967296) : bitsOf x 0 10 = x % 1024 := by
  rw [bitsOf_eq x 0 10 h0 h1 (by decide) (by decide) (by decide)]
  show x / 1 % 1024 = _
  omega
theorem bits_31 (x : Int) (h0 : 0 ≤ x) (h1 : x < 4294967296) : bitsOf x 31 1 = x / 2147483648 := by
  rw [bitsOf_eq x 31 1 h0 h1 (by decide) (by decide) (by decide)]
  show x / 2147483648 % 2 = _
  omega
end Go.Proofs.Ytkcdkjmkgncihaa.W
