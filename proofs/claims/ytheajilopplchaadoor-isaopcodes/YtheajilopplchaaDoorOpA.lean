/- IsaOpcodes, walked: it returns true, whatever the word. -/
import Derived.Test.YtheajilopplchaaDoorFirst
import Derived.Test.YtheajilopplchaaDoorNameOf
import Derived.Test.YtheajilopplchaaDoorGy
import Derived.Test.YtheajilopplchaaDoorMath11
import Derived.Deep.RegionHeld3
import Derived.Deep.DrawnRows
namespace Go.Proofs.YtheajilopplchaaDoor
open Go.ChangeShapes Go.WideShapes Go.ChangeAt Go.RowKit
set_option linter.unusedVariables false
set_option linter.unusedSimpArgs false
attribute [local go_sem ↓] Go.wp_at_zero Go.wp_at_succ

namespace W
def l12 : List Int := [55, 23, 111, 103, 99, 3, 35, 19, 51, 15, 115, 47]
def kn (c : Int) (j : Nat) : Bool := (l12.take j).any (fun z => c == z)
theorem kn_succ (c : Int) (j : Nat) (hj : j < 12) : kn c (j + 1) = (kn c j || (c == l12.getD j 0)) := by
  have hl : l12.length = 12 := rfl
  unfold kn
  rw [List.take_add_one, List.any_append]
  have : l12[j]? = some (l12.getD j 0) := by
    rw [List.getD_eq_getElem?_getD, List.getElem?_eq_getElem (by omega)]; rfl
  rw [this]; simp
end W
abbrev SO (n : Nat) (op : Int) (aq : Bool) (w w' : World) : Prop := Below w.heap.size w w' ∧ n < w'.heap.size ∧ w'.cell? ⟨n, 0, none⟩ = some (.int .i64 op) ∧ w'.cell? ⟨n, 6, none⟩ = some (.bool aq)
theorem SO.below {n : Nat} {op : Int} {aq : Bool} {w a b : World} (h : SO n op aq w a) (hm : Below a.heap.size a b) : SO n op aq w b :=
  ⟨h.1.trans (hm.mono h.1.size), Nat.lt_of_lt_of_le h.2.1 hm.size, (hm.cell h.2.1).trans h.2.2.1, (hm.cell h.2.1).trans h.2.2.2⟩
theorem kind_bel (op : Int) (w : World) : Calls Tryd.prog 19 #[.int .i64 op] w fun e w' => e = .returned (.int .i64 (W.kind op)) ∧ Below w.heap.size w w' :=
  (kind_any op w).mono fun e w' ⟨h, hk⟩ => ⟨h, by rw [← hk]; exact Below.refl _ _⟩
theorem rkind_bel (op : Int) (w : World) : Calls Tryd.prog 20 #[.int .i64 op] w fun e w' => e = .returned (.int .i64 (W.kind op)) ∧ Below w.heap.size w w' :=
  (rkind_any op w).mono fun e w' ⟨h, hk⟩ => ⟨h, by rw [← hk]; exact Below.refl _ _⟩

end Go.Proofs.YtheajilopplchaaDoor
