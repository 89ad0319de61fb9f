/- What Name answers. -/
import Derived.Test.YthbcdlaejefkaaaDoorNames
import Derived.Test.YthbcdlaejefkaaaDoorRKind
import Derived.Test.YthbcdlaejefkaaaDoorAluB
import Derived.Test.YthbcdlaejefkaaaDoorUses
namespace Go.Proofs.YthbcdlaejefkaaaDoor
open Go.ChangeShapes Go.WideShapes Go.ChangeAt Go.RowKit
set_option linter.unusedVariables false
set_option linter.unusedSimpArgs false

theorem namesA_at (k : Nat) (hk : k < 70) : namesA[k]? = some (.string ⟨(W.nameAt k).toArray⟩) := by
  have hs : W.nameL.length = 70 := by kernel_rfl
  simp [namesA, W.nameAt, hs, hk]
theorem nidx_at (k : Nat) (hk : k < 70) (w : World) : (Instr.index 76 (.agg namesA) (.int .i64 k)).run Tryd.prog w = .ok (.string ⟨(W.nameAt k).toArray⟩) w := by
  unfold Instr.index
  simp [go_sem]
  rw [if_pos hk, namesA_at k hk]
  rfl

set_option maxRecDepth 100000 in
set_option maxHeartbeats 1600000 in
theorem name_any (op : Int) (w : World) : Calls Tryd.prog 18 #[.int .i64 op] w fun e w' => e = .returned (.string ⟨(W.nm op).toArray⟩) ∧ Below w.heap.size w w' := by
  have hb : Below w.heap.size w w := Below.refl _ _
  cases h1 : W.known op
  · have hv : Hid (W.nm op = []) := (by rw [W.nm, h1]; rfl : W.nm op = [])
    go_enter Tryd.func18, Tryd.ntmps18
    go_wp2_with (go_at_call 30; refine (known_any _ _).mono ?_; rintro e w' ⟨rfl, rfl⟩)
    go_ret
    exact ⟨by rw [hv.out]; rfl, hb⟩
  · have hv : Hid (W.nm op = W.nameAt op.toNat) := (by rw [W.nm, h1]; rfl : W.nm op = _)
    have hix : ∀ w, (Instr.index 76 (.agg namesA) (.int .i64 op)).run Tryd.prog w = .ok (.string ⟨(W.nameAt op.toNat).toArray⟩) w := fun w => by
      have hk : 1 ≤ op ∧ op ≤ 69 := by simpa [W.known, W.fr] using h1
      have := nidx_at op.toNat (by omega) w
      rwa [Int.toNat_of_nonneg (by omega)] at this
    go_enter Tryd.func18, Tryd.ntmps18
    go_wp2_with (first
      | (go_at_call 30; refine (known_any _ _).mono ?_; rintro e w' ⟨rfl, rfl⟩)
      | (go_at_call 40; refine (from_ (names_any _) hb).mono ?_; clear hb; rintro e w1 ⟨rfl, hb⟩))

    go_ret
    exact ⟨by rw [hv.out]; rfl, hb⟩

end Go.Proofs.YthbcdlaejefkaaaDoor
