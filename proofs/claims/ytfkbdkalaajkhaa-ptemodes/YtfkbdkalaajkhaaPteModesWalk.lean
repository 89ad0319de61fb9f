/- PteModes: the walk. -/
import Derived.Test.YtfkbdkalaajkhaaPteD
import Derived.Test.YtfkbdkalaajkhaaPteE
namespace Go.Proofs.Ytfkbdkalaajkhaa
open Go.ChangeShapes Go.WideShapes Go.ChangeAt Go.RowKit
set_option linter.unusedVariables false

/-- The loop over the modes, and what stands behind it. -/
def Md (e a : Int) : Prop := (∀ j : Int, W.may (bits .andNot .u32 e 1) a j = false) ∧ (∀ j : Int, W.may e 3 j = true → W.may e 2 j = true)

set_option maxHeartbeats 3200000 in
theorem pteModes_any (e a : Int) (u m bd lf : Bool) (hu : W.may e a 0 = u) (hm : W.may e a 3 = m) (hb : W.bad e = bd) (hl : W.leaf e = lf) (hx : W.may (bits .xor .u32 e 16) a 0 = m) (hmd : Hid (Md e a))
    (hc : (u = true ∧ m = false ∧ bd = false ∧ lf = true) ∨ (u = false ∧ m = true ∧ bd = false ∧ lf = true) ∨ (u = false ∧ m = false))
    (w : World) : Calls Try.prog 5 #[.int .u32 e, .int .i64 a] w fun x w' => x = .returned (.bool true) ∧ Below w.heap.size w w' := by
  rcases hc with ⟨rfl, rfl, rfl, rfl⟩ | ⟨rfl, rfl, rfl, rfl⟩ | ⟨rfl, rfl⟩
  all_goals
    go_enter Try.func5, Try.ntmps5
    go_wp2_with (first
      | (go_at_call 7; refine (first8_any _).mono ?_; rintro x w1 ⟨rfl, hb1⟩)
      | (go_at_call 8; refine (bad_any _ _).mono ?_; rintro x w' ⟨rfl, rfl⟩)
      | (go_at_call 10; refine (leaf_any _ _).mono ?_; rintro x w' ⟨rfl, rfl⟩)
      | (go_at_call 13; refine (may_any _ _ _ _).mono ?_; rintro x w' ⟨rfl, rfl⟩))
    go_loopw [8] (fun i wr => ∃ k : Nat, k ≤ 4 ∧ i = .int .i64 k ∧ Below w.heap.size w wr) (fun i _ => 4 - (intOf i).toNat)
    case atStart => exact ⟨0, by decide, rfl, hb1⟩
    case round =>
      obtain ⟨k, hk, rfl, hbl⟩ := hrel
      by_cases hlt : k < 4
      · have h1 := hmd.out.1 k
        have h2 := hmd.out.2 k
        cases h3 : W.may e 3 k
        · clear h2
          go_wp2_with (go_at_call 13; refine (may_any _ _ _ _).mono ?_; rintro x w' ⟨rfl, rfl⟩)
          go_roundw
          case rel => exact ⟨k + 1, by omega, by go_num, hbl⟩
          case measure => simp [intOf]; omega
        · have h4 := h2 h3
          clear h2
          go_wp2_with (go_at_call 13; refine (may_any _ _ _ _).mono ?_; rintro x w' ⟨rfl, rfl⟩)
          go_roundw
          case rel => exact ⟨k + 1, by omega, by go_num, hbl⟩
          case measure => simp [intOf]; omega
      · go_wp2_with (go_at_call 13; refine (may_any _ _ _ _).mono ?_; rintro x w' ⟨rfl, rfl⟩)
        go_ret
        exact ⟨rfl, hbl⟩

theorem pteModes_walk (e a : Int) (e0 : 0 ≤ e) (e1 : e < 4294967296) (a0 : -9223372036854775808 ≤ a) (a1 : a ≤ 9223372036854775807) (w : World) :
    Calls Try.prog 5 #[.int .u32 e, .int .i64 a] w fun x w' => x = .returned (.bool true) ∧ Below w.heap.size w w' := by
  refine pteModes_any e a _ _ _ _ rfl rfl rfl rfl (W.may_flip e a e0 e1) ⟨fun j => W.may_no_v e a j e0 e1, fun j h => W.may_store h⟩ ?_ w
  cases h1 : W.may e a 0
  · cases h2 : W.may e a 3
    · exact Or.inr (Or.inr ⟨rfl, rfl⟩)
    · have := W.may_parts h2
      exact Or.inr (Or.inl ⟨rfl, rfl, this.2.1, this.1⟩)
  · have := W.may_parts h1
    exact Or.inl ⟨rfl, W.may_one h1, this.2.1, this.1⟩
end Go.Proofs.Ytfkbdkalaajkhaa
