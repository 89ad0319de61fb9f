/- The document's registers: a register read, and put. -/
import Derived.Test.YtbagmlcakmhhaaaCsrR
import Derived.Deep.RegionWith
namespace Go.Proofs.Ytbagmlcakmhhaaa
open Go.ChangeShapes Go.WideShapes Go.ChangeAt Go.RowKit
set_option linter.unusedVariables false
set_option linter.unusedSimpArgs false

namespace W
/-- A register put. -/
def rput (G : F) (n v : Int) : F := bif n == 384 then { G with satp := v } else bif n == 768 then { G with st := v } else bif n == 772 then { G with mie := v } else bif n == 773 then { G with tvec := v } else bif n == 832 then { G with scr := v } else bif n == 833 then { G with epc := v } else bif n == 834 then { G with cause := v } else bif n == 835 then { G with tval := v } else bif n == 836 then { G with mip := v } else { G with hart := v }
end W
abbrev RT : TypeId := 30

theorem rcells (G : W.F) (w : World) : At RT w.heap.size G (w.alloc (.cells (fileCells G) RT)) := At.new w

theorem isReg_cases (n : Int) (h : W.isReg n = true) : n = 384 ∨ n = 768 ∨ n = 772 ∨ n = 773 ∨ n = 832 ∨ n = 833 ∨ n = 834 ∨ n = 835 ∨ n = 836 ∨ n = 3860 := by
  simp only [W.isReg, Bool.or_eq_true, beq_iff_eq] at h
  exact h

theorem rreg_any (G : W.F) (n : Int) (hn : W.isReg n = true) (w : World) : Calls Try.prog 27 #[.agg (fileCells G), .int .i64 n] w fun x w' => x = .returned (.int .u32 (W.reg G n)) ∧ Below w.heap.size w w' := by
  have hA := rcells G w
  rcases isReg_cases n hn with rfl | rfl | rfl | rfl | rfl | rfl | rfl | rfl | rfl | rfl
  all_goals
    unfold fileCells
    go_enter Try.func27, Try.ntmps27
    go_wp2_with (go_at_call 35; refine (at_g _ _ rfl _).mono ?_; rintro e w1 ⟨rfl, hb⟩; have h1 := hA.below (by exact hb); obtain ⟨c0, c1, c2, c3, c4, c5, c6, c7, c8, c9, c10, hz⟩ := h1.cells; have hlt := h1.lt; simp only [W.atN])
    go_wp2
    go_ret
    exact ⟨rfl, ((Below.refl _ _).alloc (Nat.le_refl _) _).trans (hb.mono (by simp))⟩
end Go.Proofs.Ytbagmlcakmhhaaa
