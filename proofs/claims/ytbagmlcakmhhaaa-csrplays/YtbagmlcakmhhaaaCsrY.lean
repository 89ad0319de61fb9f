/- The document's look at two lists of words. -/
import Derived.Test.YtbagmlcakmhhaaaCsrK
namespace Go.Proofs.Ytbagmlcakmhhaaa
open Go.ChangeShapes Go.WideShapes Go.ChangeAt Go.RowKit
set_option linter.unusedVariables false
set_option linter.unusedSimpArgs false

theorem same_any (a ao b bo n ca cb : Nat) (A : Nat → Int) (w : World) (hn : n ≤ 4611686018427387904)
    (ha : ∀ j, j < n → w.cell? ⟨a, ao + j, none⟩ = some (.int .u32 (A j))) (hb : ∀ j, j < n → w.cell? ⟨b, bo + j, none⟩ = some (.int .u32 (A j))) :
    Calls Try.prog 28 #[.slice (some ⟨a, ao, none⟩) n ca, .slice (some ⟨b, bo, none⟩) n cb] w fun x w' => x = .returned (.bool true) ∧ ∃ k, w' = w.drewN k := by
  go_enter Try.func28, Try.ntmps28
  go_wp2
  go_loopw [5] (fun i wr => ∃ k : Nat, k ≤ n ∧ i = .int .i64 k ∧ ∃ q, wr = w.drewN q) (fun i _ => n - (intOf i).toNat)
  case atStart => exact ⟨0, by omega, rfl, 0, rfl⟩
  case round =>
    obtain ⟨k, hk, rfl, q, rfl⟩ := hrel
    by_cases hlt : k < n
    · have h1 := ha k hlt
      have h2 := hb k hlt
      clear ha hb
      go_wp2
      go_quiet (fail)
      go_wp2
      go_roundw
      case rel => exact ⟨k + 1, by omega, by go_num, _, rfl⟩
      case measure => simp [intOf]; omega
    · go_wp2
      go_ret
      exact ⟨rfl, q, rfl⟩
end Go.Proofs.Ytbagmlcakmhhaaa
