/- The document's registers: the place of a number; a register read, and put. -/
import Derived.Test.YtbagmlcakmhhaaaCsrK
namespace Go.Proofs.Ytbagmlcakmhhaaa
open Go.ChangeShapes Go.WideShapes Go.ChangeAt Go.RowKit
set_option linter.unusedVariables false
set_option linter.unusedSimpArgs false

namespace W
def num (j : Nat) : Int := match j with | 0 => 384 | 1 => 768 | 2 => 772 | 3 => 773 | 4 => 832 | 5 => 833 | 6 => 834 | 7 => 835 | 8 => 836 | _ => 3860
def atN (n : Int) : Int := bif n == 384 then 0 else bif n == 768 then 1 else bif n == 772 then 2 else bif n == 773 then 3 else bif n == 832 then 4 else bif n == 833 then 5 else bif n == 834 then 6 else bif n == 835 then 7 else bif n == 836 then 8 else bif n == 3860 then 9 else -1
theorem atN_hit (k : Nat) (hk : k < 10) : atN (num k) = k := by
  have h : k = 0 ∨ k = 1 ∨ k = 2 ∨ k = 3 ∨ k = 4 ∨ k = 5 ∨ k = 6 ∨ k = 7 ∨ k = 8 ∨ k = 9 := by omega
  rcases h with rfl | rfl | rfl | rfl | rfl | rfl | rfl | rfl | rfl | rfl <;> rfl
theorem atN_no (n : Int) (h : ∀ j, j < 10 → ¬ num j = n) : atN n = -1 := by
  have g : ∀ j, j < 10 → (n == num j) = false := fun j hj => by have := h j hj; simp; omega
  have g0 := g 0 (by decide)
  have g1 := g 1 (by decide)
  have g2 := g 2 (by decide)
  have g3 := g 3 (by decide)
  have g4 := g 4 (by decide)
  have g5 := g 5 (by decide)
  have g6 := g 6 (by decide)
  have g7 := g 7 (by decide)
  have g8 := g 8 (by decide)
  have g9 := g 9 (by decide)
  simp only [num] at g0 g1 g2 g3 g4 g5 g6 g7 g8 g9
  simp only [atN, g0, g1, g2, g3, g4, g5, g6, g7, g8, g9, cond_false]
end W

theorem numbers_any (w : World) : Calls Try.prog 39 #[] w fun x w' => x = .returned (.slice (some ⟨w.heap.size, 0, none⟩) 10 10) ∧ (∀ j, j < 10 → w'.cell? ⟨w.heap.size, j, none⟩ = some (.int .i64 (W.num j))) ∧ Below w.heap.size w w' := by
  go_enter Try.func39, Try.ntmps39
  go_wp2
  go_ret
  refine ⟨rfl, ?_, (Below.refl _ _).alloc (Nat.le_refl _) _⟩
  intro j hj
  have h : j = 0 ∨ j = 1 ∨ j = 2 ∨ j = 3 ∨ j = 4 ∨ j = 5 ∨ j = 6 ∨ j = 7 ∨ j = 8 ∨ j = 9 := by omega
  rcases h with rfl | rfl | rfl | rfl | rfl | rfl | rfl | rfl | rfl | rfl <;> simp [go_sem, W.num]

theorem at_any (n : Int) (w : World) : Calls Try.prog 35 #[.int .i64 n] w fun x w' => x = .returned (.int .i64 (W.atN n)) ∧ Below w.heap.size w w' := by
  go_enter Try.func35, Try.ntmps35
  go_wp2_with (go_at_call 39; refine (numbers_any _).mono ?_; rintro e w1 ⟨rfl, hc, hb⟩)
  generalize hB : w.heap.size = b at *
  go_loopw [4] (fun i wr => ∃ k : Nat, k ≤ 10 ∧ i = .int .i64 k ∧ wr = w1 ∧ ∀ j, j < k → ¬ W.num j = n) (fun i _ => 10 - (intOf i).toNat)
  case atStart => exact ⟨0, by omega, rfl, rfl, fun j hj => absurd hj (by omega)⟩
  case round =>
    obtain ⟨k, hk, rfl, rfl, hno⟩ := hrel
    by_cases hlt : k < 10
    · have h1 := hc k hlt
      have HN : Hid (∀ j, j < k → ¬ W.num j = n) := hno
      have HH : Hid (W.atN (W.num k) = k) := W.atN_hit k hlt
      clear hc hno
      cases he : (W.num k == n)
      · go_wp2
        go_roundw
        case rel =>
          refine ⟨k + 1, by omega, by go_num, (by first | trivial | rfl), fun j hj => ?_⟩
          by_cases e : j = k
          · subst e; simpa using he
          · exact HN.out j (by omega)
        case measure => simp [intOf]; omega
      · have e2 : W.num k = n := by simpa using he
        have HE : Hid (W.atN n = k) := by
          have := HH.out
          rw [e2] at this
          exact this
        clear e2
        go_wp2
        go_ret
        exact ⟨ret_int HE.out.symm, hB ▸ hb⟩
    · have e10 : k = 10 := by omega
      subst e10
      have HE : Hid (W.atN n = -1) := W.atN_no n hno
      clear hc hno
      go_wp2
      go_ret
      exact ⟨ret_int HE.out.symm, hB ▸ hb⟩
theorem at_g (n k : Int) (hk : W.atN n = k) (w : World) : Calls Try.prog 35 #[.int .i64 n] w fun x w' => x = .returned (.int .i64 k) ∧ Below w.heap.size w w' :=
  (at_any n w).mono fun x w' ⟨a, b⟩ => ⟨by rw [a, hk], b⟩
end Go.Proofs.Ytbagmlcakmhhaaa
