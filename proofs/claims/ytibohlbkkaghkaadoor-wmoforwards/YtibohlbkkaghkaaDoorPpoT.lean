/- Why. -/
import Derived.Test.YtibohlbkkaghkaaDoorPpoT0
import Derived.Test.YtibohlbkkaghkaaDoorPpoQ2
import Derived.Test.YtibohlbkkaghkaaDoorPpoS
namespace Go.Proofs.YtibohlbkkaghkaaDoor
open Go.ChangeShapes Go.WideShapes Go.ChangeAt Go.RowKit
set_option linter.unusedVariables false
set_option linter.unusedSimpArgs false

/-- Operations whose numbers are such as a Go value's. -/
structure W.OzOk (z : W.Oz) : Prop where
  z0 : -9223372036854775808 ≤ z.o.sz
  z1 : z.o.sz ≤ 9223372036854775807
  a0 : 0 ≤ z.o.ad
  a1 : z.o.ad < 4294967296
theorem W.actO_sp (o : W.Opr) (h0 : 0 ≤ o.ad) (h1 : o.ad < 4294967296) : W.SpOk (W.actO o).p := by
  unfold W.actO
  cases (o.k == 4)
  · exact W.spn_ok o h0 h1
  · exact ⟨Int.le_refl _, (by decide : (0 : Int) < 4294967296), Int.le_refl _, (by decide : (0 : Int) ≤ 4294967296)⟩
theorem W.acts_sp (x : Nat → W.Oz) (b j : Nat) (h : W.OzOk (x j)) : W.SpOk (W.acts x b j).p := W.actO_sp _ h.a0 h.a1
theorem Ol.less {a : Option Addr} {n m : Nat} {x : Nat → W.Oz} {w : World} (h : Ol a n x w) (hm : m ≤ n) : Ol a m x w := ⟨fun h0 => by
  obtain ⟨g, o, e, hx⟩ := h.at_ (by omega)
  exact ⟨g, o, e, fun j hj => hx j (by omega)⟩⟩

end Go.Proofs.YtibohlbkkaghkaaDoor
