/- wmo: find. -/
import Derived.Test.YtibohlbkkaghkaaDoorWmoC
import Derived.Deep.QuietTactic
namespace Go.Proofs.YtibohlbkkaghkaaDoor
open Go.ChangeShapes Go.WideShapes Go.ChangeAt Go.RowKit
set_option linter.unusedVariables false
set_option linter.unusedSimpArgs false

theorem bdN {n : Nat} {x y : World} (h : Below n x y) : ∀ k, Below n x (y.drewN k)
  | 0 => h
  | k + 1 => by
    have := (bdN h k).drew
    exact this
set_option maxHeartbeats 800000 in
theorem find_any (b K KC : Nat) (a : Nat → Option Addr) (n c : Nat → Nat) (x : Nat → Nat → W.Oz) (w : World) (h : Hs b K a n c x w) (hn : ∀ h, h < K → n h ≤ 4096) (kK : K ≤ 64) (i j : Nat) (hi : i < K) (hj : j < n i) (hk : (x i j).o.k ≠ 4) :
    Calls Tryd.prog 37 #[.slice (some ⟨b, 0, none⟩) K KC, .agg #[.int .i64 (i : Int), .int .i64 (j : Int)]] w fun e w' => (∃ p, e = .returned (.pointer (some p))) ∧ Below w.heap.size w w' := by
  have lt := h.lt
  have c0 := h.cl i hi
  obtain ⟨g, off, ha, hx⟩ := (h.ol i hi).at_ (by omega)
  rw [ha] at c0
  have k0 := (hx j hj).o.c0
  have gl := (hx j hj).o.lt
  have n0 := hn i hi
  have r : ((x i j).o.k != 4) = true := by simpa using hk
  have hiK : (i : Int) < (K : Int) := by omega
  have hjn : (j : Int) < (n i : Int) := by omega
  clear h hn hx hk ha
  generalize (x i j).o.k = k at *
  generalize n i = ni at *
  generalize c i = ci at *
  go_enter Tryd.func37, Tryd.ntmps37
  go_wp2
  go_quiet (fail)
  go_wp2
  go_quiet (fail)
  go_wp2
  go_ret
  exact ⟨⟨_, rfl⟩, bdN ((Below.refl _ _).alloc (Nat.le_refl _) _) _⟩
end Go.Proofs.YtibohlbkkaghkaaDoor
