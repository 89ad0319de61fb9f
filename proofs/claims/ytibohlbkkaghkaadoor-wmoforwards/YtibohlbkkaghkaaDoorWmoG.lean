/- wmo: harts that go as their lists do. -/
import Derived.Test.YtibohlbkkaghkaaDoorWmoF
namespace Go.Proofs.YtibohlbkkaghkaaDoor
open Go.ChangeShapes Go.WideShapes Go.ChangeAt Go.RowKit
set_option linter.unusedVariables false
set_option linter.unusedSimpArgs false

namespace W
def mx (f : Nat → Int) : Nat → Int
  | 0 => 0
  | j + 1 => max (mx f j) (f j)
/-- Each place, but 0, is no less than those ahead of it. -/
def InT (f : Nat → Int) (n : Nat) : Prop := ∀ j, j < n → f j = 0 ∨ mx f j ≤ f j
end W
set_option maxHeartbeats 800000 in
theorem inTurn_any (pb n : Nat) (f : Nat → Int) (w : World) (h : Bc pb n (fun i => .int .i64 (f i)) w) (hn : n ≤ 4096) (ht : W.InT f n) :
    Calls Tryd.prog 51 #[.slice (some ⟨pb, 0, none⟩) n n] w fun e w' => e = .returned (.bool true) ∧ w = w' := by
  have lt := h.lt
  have HH : Hid (_ ∧ _) := ⟨h.c, ht⟩
  clear h ht
  go_enter Tryd.func51, Tryd.ntmps51
  go_wp2
  go_loopw [3, 8] (fun s i wr => ∃ j : Nat, j ≤ n ∧ s = .int .i64 (W.mx f j) ∧ i = .int .i64 (j : Int) ∧ wr = w) (fun _ i _ => n - (intOf i).toNat)
  case atStart => exact ⟨0, by omega, rfl, rfl, rfl⟩
  case round =>
    obtain ⟨j, hj, rfl, rfl, rfl⟩ := hrel
    by_cases hlt : j < n
    · have g0 := HH.out.1 j hlt
      have ht := HH.out.2 j hlt
      have hjn : (j : Int) < (n : Int) := by omega
      have e1 : W.mx f (j + 1) = max (W.mx f j) (f j) := rfl
      generalize f j = p at *
      generalize W.mx f j = T at *
      by_cases hp : p = 0
      · subst hp
        go_wp2
        go_roundw
        case rel => exact ⟨j + 1, by omega, by first | rw [e1] | (rw [e1]; simp), by go_num, trivial⟩
        case measure => simp [intOf]; omega
      · have r1 : (p != 0) = true := by simpa using hp
        have r2 : ¬ p < T := by omega
        go_wp2
        go_roundw
        case rel => exact ⟨j + 1, by omega, by first | rw [e1] | (rw [e1]; simp), by go_num, trivial⟩
        case measure => simp [intOf]; omega
    · have hjn : ¬ (j : Int) < (n : Int) := by omega
      generalize W.mx f j = T at *
      go_wp2
      go_ret
      exact ⟨rfl, rfl⟩
theorem turnedIn_any (a : Option Addr) (m c : Nat) (pb n : Nat) (f : Nat → Int) (w : World) (h : Bc pb n (fun i => .int .i64 (f i)) w) (hn : n ≤ 4096) (ht : W.InT f n) :
    Calls Tryd.prog 38 #[.slice a m c, .slice (some ⟨pb, 0, none⟩) n n] w fun e w' => e = .returned (.int .i64 0) ∧ w = w' := by
  have HH : Hid (Calls _ _ _ _ _) := inTurn_any pb n f w h hn ht
  clear h ht
  go_enter Tryd.func38, Tryd.ntmps38
  go_wp2_with (fail)
  refine HH.out.mono ?_
  rintro e w1 ⟨rfl, rfl⟩
  go_wp2
  go_ret
  exact ⟨rfl, rfl⟩
set_option maxHeartbeats 800000 in
theorem turned_any (b K KC : Nat) (a : Nat → Option Addr) (n c : Nat → Nat) (x : Nat → Nat → W.Oz) (base PB : Nat) (pb : Nat → Nat) (f : Nat → Nat → Int) (w : World) (h : Hs b K a n c x w) (v : W.Vd K n x) (hP : Pl base PB K n pb f K w) (ht : ∀ h, h < K → W.InT (f h) (n h)) :
    Calls Tryd.prog 27 #[.slice (some ⟨b, 0, none⟩) K KC, .slice (some ⟨PB, 0, none⟩) K K] w fun e w' => e = .returned (.int .i64 0) ∧ w = w' := by
  have k1 := v.k
  have lt := h.lt
  have pl := hP.o.lt
  have HH : Hid (_ ∧ _ ∧ _ ∧ _) := ⟨h, v, hP, ht⟩
  clear h v hP ht
  go_enter Tryd.func27, Tryd.ntmps27
  go_wp2
  go_loopw [5, 11] (fun s i wr => ∃ j : Nat, j ≤ K ∧ s = .int .i64 0 ∧ i = .int .i64 (j : Int) ∧ wr = w) (fun _ i _ => K - (intOf i).toNat)
  case atStart => exact ⟨0, by omega, rfl, rfl, rfl⟩
  case round =>
    obtain ⟨j, hj, rfl, rfl, rfl⟩ := hrel
    by_cases hlt : j < K
    · have g0 := HH.out.1.cl j hlt
      have q0 := HH.out.2.2.1.o.c j hlt
      rw [if_pos hlt] at q0
      have hjn : (j : Int) < (K : Int) := by omega
      have ti := turnedIn_any (a j) (n j) (c j) (pb j) (n j) (f j) wr (HH.out.2.2.1.i j hlt) (HH.out.2.1.le j hlt) (HH.out.2.2.2 j hlt)
      have HT : Hid (Calls _ _ _ _ _) := ti
      clear ti
      generalize n j = nj at *
      generalize a j = aj at *
      generalize c j = cj at *
      generalize pb j = pj at *
      go_wp2_with (fail)
      refine HT.out.mono ?_
      rintro e w1 ⟨rfl, rfl⟩
      go_wp2
      go_roundw
      case rel => exact ⟨j + 1, by omega, rfl, by go_num, trivial⟩
      case measure => simp [intOf]; omega
    · have hjn : ¬ (j : Int) < (K : Int) := by omega
      go_wp2
      go_ret
      exact ⟨rfl, rfl⟩
end Go.Proofs.YtibohlbkkaghkaaDoor
