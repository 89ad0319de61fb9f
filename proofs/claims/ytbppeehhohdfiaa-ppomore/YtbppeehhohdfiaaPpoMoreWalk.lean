/- PpoMore. -/
import Derived.Test.YtbppeehhohdfiaaPpoMw0
import Derived.Test.YtbppeehhohdfiaaPpoMw1
import Derived.Test.YtbppeehhohdfiaaPpoMw20
import Derived.Test.YtbppeehhohdfiaaPpoMw2p
import Derived.Test.YtbppeehhohdfiaaPpoMw30
import Derived.Test.YtbppeehhohdfiaaPpoMw3p
import Derived.Test.YtbppeehhohdfiaaPpoMw4n
import Derived.Test.YtbppeehhohdfiaaPpoMw4b
namespace Go.Proofs.Ytbppeehhohdfiaa
open Go.ChangeShapes Go.WideShapes Go.ChangeAt Go.RowKit
set_option linter.unusedVariables false
set_option linter.unusedSimpArgs false

set_option maxHeartbeats 1600000 in
/-- Few operations, or too many: at once. -/
theorem more_out (a : Option Addr) (n c : Nat) (o : Nat → W.Opr) (S : Nat → S3) (A D C : Nat → Nat → Int) (at_ what : Int) (w : World) (h : Rs a n c o S A D C w) (hn : n = 0 ∨ 30 < n) :
    Calls Try.prog 3 #[.slice a n c, .int .i64 at_, .int .i64 what] w fun e w' => e = .returned (.bool true) ∧ Below w.heap.size w w' := by
  have hm : n ≤ maxLen := Nat.le_trans h.nc h.cm
  unfold maxLen at hm
  have HH : Hid (_ ∧ _) := ⟨first13_any w, h⟩
  clear h
  go_enter Try.func3, Try.ntmps3
  go_wp2_with (fail)
  refine HH.out.1.mono ?_
  rintro e w1 ⟨rfl, bw1⟩
  have hfit := fit_any a n c o S A D C w1 (HH.out.2.below bw1)
  have HF : Hid (Calls _ _ _ _ _) := hfit
  clear hfit
  go_wp2_with (fail)
  refine HF.out.mono ?_
  rintro e w2 ⟨he, bw2⟩
  have bw3 := bw1.trans (bw2.mono bw1.size)
  clear bw1 bw2 HF HH
  rcases he with rfl | ⟨rfl, _⟩
  · go_wp2
    go_ret
    exact ⟨rfl, bw3⟩
  · rcases hn with rfl | hn
    · go_wp2
      go_ret
      exact ⟨rfl, bw3⟩
    · have e2 : (30 : Int) < (n : Int) := by omega
      have e3 : (n == 0) = false := by simp; omega
      have e1 : ((n : Int) == 0) = false := by simp; omega
      go_wp2
      go_ret
      exact ⟨rfl, bw3⟩
/-- What a slice of operations that can be read holds. -/
def IsOps (w : World) (a : Option Addr) (n c : Nat) : Prop := ∃ o S A D C, Rs a n c o S A D C w
theorem more_any (a : Option Addr) (n c : Nat) (at_ what : Int) (a0 : -9223372036854775808 ≤ at_) (a1 : at_ ≤ 9223372036854775807) (b0 : -9223372036854775808 ≤ what) (b1 : what ≤ 9223372036854775807) (w : World) (h : IsOps w a n c) :
    Calls Try.prog 3 #[.slice a n c, .int .i64 at_, .int .i64 what] w fun e w' => e = .returned (.bool true) ∧ Below w.heap.size w w' := by
  obtain ⟨o, S, A, D, C, h⟩ := h
  by_cases n0 : n = 0
  · exact more_out a n c o S A D C at_ what w h (Or.inl n0)
  by_cases n3 : 30 < n
  · exact more_out a n c o S A D C at_ what w h (Or.inr n3)
  obtain ⟨P, hP⟩ := Int.eq_ofNat_of_zero_le (Int.emod_nonneg at_ (show (n : Int) ≠ 0 by omega))
  have e : what % 5 = 0 ∨ what % 5 = 1 ∨ what % 5 = 2 ∨ what % 5 = 3 ∨ what % 5 = 4 := by omega
  rcases e with e | e | e | e | e
  · exact more_0 a n c o S A D C at_ what a0 a1 b0 b1 w h (by omega) (by omega) P hP e
  · exact more_1 a n c o S A D C at_ what a0 a1 b0 b1 w h (by omega) (by omega) P hP e
  · by_cases p : P = 0
    · exact more_20 a n c o S A D C at_ what a0 a1 b0 b1 w h (by omega) (by omega) P hP e p
    · exact more_2p a n c o S A D C at_ what a0 a1 b0 b1 w h (by omega) (by omega) P hP e (by omega)
  · by_cases p : P = 0
    · exact more_30 a n c o S A D C at_ what a0 a1 b0 b1 w h (by omega) (by omega) P hP e p
    · exact more_3p a n c o S A D C at_ what a0 a1 b0 b1 w h (by omega) (by omega) P hP e (by omega)
  · by_cases p : (o P).k = 4
    · exact more_4b a n c o S A D C at_ what a0 a1 b0 b1 w h (by omega) (by omega) P hP e p
    · exact more_4n a n c o S A D C at_ what a0 a1 b0 b1 w h (by omega) (by omega) P hP e p
end Go.Proofs.Ytbppeehhohdfiaa
