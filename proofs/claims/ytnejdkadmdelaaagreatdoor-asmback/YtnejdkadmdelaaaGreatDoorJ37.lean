/- Texts in one: AsmBackWalk. -/
import Derived.Test.YtnejdkadmdelaaaGreatDoorJ36
/- AsmBack: words told as lines, and read. -/
namespace Go.Proofs.YtnejdkadmdelaaaGreatDoor
open Go.ChangeShapes Go.WideShapes Go.ChangeAt Go.RowKit
set_option linter.unusedVariables false
set_option linter.unusedSimpArgs false

/-- All are, or there is a first one that is not. -/
theorem first_not (f : Nat → Bool) : ∀ n, (∀ j, j < n → f j = true) ∨ ∃ m, m < n ∧ (∀ j, j < m → f j = true) ∧ f m = false
  | 0 => Or.inl fun j hj => absurd hj (by omega)
  | n + 1 => by
    rcases first_not f n with h | ⟨m, hm, h1, h2⟩
    · cases hf : f n
      · exact Or.inr ⟨n, by omega, h, hf⟩
      · refine Or.inl fun j hj => ?_
        by_cases e : j = n
        · rw [e]; exact hf
        · exact h j (by omega)
    · exact Or.inr ⟨m, by omega, h1, h2⟩

theorem back_some (A : Nat → Addr) (b off n cap : Nat) (X : Nat → Int) (w : World) (hS : Sg A w) (hn : n ≤ 100) (hbB : b < w.heap.size) (hX : ∀ j, j < n → 0 ≤ X j ∧ X j < 4294967296)
    (hc : ∀ j, j < n → w.cell? ⟨b, off + j, none⟩ = some (.int .u32 (X j))) :
    Calls Tryz.prog 4 #[.slice (some ⟨b, off, none⟩) n cap] w fun e w' => e = .returned (.bool true) ∧ Below w.heap.size w w' := by
  rcases first_not (fun j => W.decB (X j)) n with h | ⟨m, hm, h1, h2⟩
  · exact back_all A b off n cap X w hS hn hbB hX hc h
  · exact back_bad A b off n cap m X w hS hn hbB hX hc hm h1 h2

theorem back_long (A : Nat → Addr) (a : Option Addr) (n cap : Nat) (hl : 100 < n) (hm : n ≤ maxLen) (w : World) (hS : Sg A w) : Calls Tryz.prog 4 #[.slice a n cap] w fun e w' => e = .returned (.bool true) ∧ Below w.heap.size w w' := by
  unfold maxLen at hm
  have hd : decide ((100 : Int) < (n : Int)) = true := by simp; omega
  have HS : Hid (Sg A w) := hS
  clear hS
  go_enter Tryz.func4, Tryz.ntmps4
  go_wp2_with (go_at_call 8; refine (first5_any A _ HS.out).mono ?_; rintro e w1 ⟨rfl, hb1⟩)
  go_ret
  exact ⟨rfl, hb1⟩

theorem back_zero (A : Nat → Addr) (a : Option Addr) (cap : Nat) (w : World) (hS : Sg A w) : Calls Tryz.prog 4 #[.slice a 0 cap] w fun e w' => e = .returned (.bool true) ∧ Below w.heap.size w w' := by
  have HS : Hid (Sg A w) := hS
  clear hS
  go_enter Tryz.func4, Tryz.ntmps4
  go_wp2_with (go_at_call 8; refine (first5_any A _ HS.out).mono ?_; rintro e w1 ⟨rfl, hb1⟩)
  refine (lines_zero a cap w1).mono ?_
  rintro e w2 ⟨rfl, hb2, hs2⟩
  have hbl2 : Below w.heap.size w w2 := hb1.trans (hb2.mono hb1.size)
  go_wp2_with fail
  refine (prog_ok A w1.heap.size 0 0 0 (fun _ => []) (fun _ => ⟨0, 0, 0, 0, 0, 0, false, false⟩) w2 (HS.out.below hbl2) (by decide) hs2 (fun j hj => absurd hj (by omega)) (fun j hj => absurd hj (by omega)) (fun j hj => absurd hj (by omega))).mono ?_
  rintro e w3 ⟨rfl, hb3, _, hs3⟩
  have hbl3 : Below w.heap.size w w3 := hbl2.trans (hb3.mono hbl2.size)
  go_wp2_with fail
  go_loopw [7] (fun i wr => i = .int .i64 0 ∧ wr = w3) (fun _ _ => 0)
  case atStart => exact ⟨rfl, rfl⟩
  case round =>
    obtain ⟨rfl, rfl⟩ := hrel
    go_wp2_with (go_at_call 22; refine (sameWords_zero _ _ _ _ _).mono ?_; rintro e w4 ⟨rfl, hb4⟩)
    go_ret
    exact ⟨rfl, hbl3.trans (hb4.mono hbl3.size)⟩
end Go.Proofs.YtnejdkadmdelaaaGreatDoor
