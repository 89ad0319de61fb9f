/- wmo: small functions. -/
import Derived.Test.YtibohlbkkaghkaaDoorPpoM
import Derived.Test.YtibohlbkkaghkaaDoorDepA
import Derived.Test.YtibohlbkkaghkaaDoorPpoE
namespace Go.Proofs.YtibohlbkkaghkaaDoor
open Go.ChangeShapes Go.WideShapes Go.ChangeAt Go.RowKit
set_option linter.unusedVariables false
set_option linter.unusedSimpArgs false

namespace W
def rds (k : Int) : Bool := k == 1 || k == 3
def wrs (k : Int) : Bool := k == 2 || k == 3
end W
theorem reads_any (g off : Nat) (k : Int) (w : World) (hl : g < w.heap.size) (c0 : w.cell? ⟨g, off, none⟩ = some (.int .i64 k)) :
    Calls Tryd.prog 41 #[.pointer (some ⟨g, off, none⟩)] w fun e w' => e = .returned (.bool (W.rds k)) ∧ w = w' := by
  unfold W.rds
  by_cases h1 : k = 1
  · subst h1
    go_enter Tryd.func41, Tryd.ntmps41
    go_wp2
    go_ret
    exact ⟨rfl, rfl⟩
  · have r1 : (k == 1) = false := by simpa using h1
    rw [r1]
    go_enter Tryd.func41, Tryd.ntmps41
    go_wp2
    go_ret
    exact ⟨rfl, rfl⟩
theorem writes_any (g off : Nat) (k : Int) (w : World) (hl : g < w.heap.size) (c0 : w.cell? ⟨g, off, none⟩ = some (.int .i64 k)) :
    Calls Tryd.prog 44 #[.pointer (some ⟨g, off, none⟩)] w fun e w' => e = .returned (.bool (W.wrs k)) ∧ w = w' := by
  unfold W.wrs
  by_cases h1 : k = 2
  · subst h1
    go_enter Tryd.func44, Tryd.ntmps44
    go_wp2
    go_ret
    exact ⟨rfl, rfl⟩
  · have r1 : (k == 2) = false := by simpa using h1
    rw [r1]
    go_enter Tryd.func44, Tryd.ntmps44
    go_wp2
    go_ret
    exact ⟨rfl, rfl⟩
/-- An operation whose bytes are such as can be. -/
def W.FitB (o : W.Opr) : Prop := ((o.k = 1 ∨ o.k = 2) ∧ (o.sz = 1 ∨ o.sz = 2 ∧ o.ad % 2 = 0 ∨ o.sz = 4 ∧ o.ad % 4 = 0)) ∨ (o.k = 3 ∧ o.sz = 4 ∧ o.ad % 4 = 0) ∨ (o.k = 4 ∧ o.sz = 0)
theorem bytesFit_any (g off : Nat) (o : W.Opr) (w : World) (h : OpAt g off o w) (hf : W.FitB o) (a0 : 0 ≤ o.ad) (a1 : o.ad < 4294967296) :
    Calls Tryd.prog 48 #[.pointer (some ⟨g, off, none⟩)] w fun e w' => e = .returned (.bool true) ∧ Below w.heap.size w w' := by
  obtain ⟨lt, c0, c1, c2, _, _, _⟩ := h
  obtain ⟨k, sz, ad, vl, gt, pr, aq, rl, pd, sc⟩ := o
  unfold W.FitB at hf
  dsimp only at *
  have r2 : ad % 2 = 0 → (ad.tmod 2 == 0) = true := fun h => by rw [Int.tmod_eq_emod_of_nonneg a0]; simpa using h
  have r4 : ad % 4 = 0 → (ad.tmod 4 == 0) = true := fun h => by rw [Int.tmod_eq_emod_of_nonneg a0]; simpa using h
  rcases hf with ⟨rfl | rfl, rfl | ⟨rfl, hm⟩ | ⟨rfl, hm⟩⟩ | ⟨rfl, rfl, hm⟩ | ⟨rfl, rfl⟩
  all_goals
    try have q2 := r2 hm
    try have q4 := r4 hm
    clear r2 r4
    go_enter Tryd.func48, Tryd.ntmps48
    go_wp2
    try go_region
    try go_wp2
    go_ret
    first
      | exact ⟨rfl, Below.refl _ _⟩
      | exact ⟨rfl, (Below.refl _ _).drew⟩
      | exact ⟨by simp [hm], Below.refl _ _⟩
      | exact ⟨by simp [hm], (Below.refl _ _).drew⟩
end Go.Proofs.YtibohlbkkaghkaaDoor
