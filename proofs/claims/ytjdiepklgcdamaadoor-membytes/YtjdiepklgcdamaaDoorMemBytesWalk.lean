/- MemBytes, walked. -/
import Derived.Test.YtjdiepklgcdamaaDoorMemK
namespace Go.Proofs.YtjdiepklgcdamaaDoor
open Go.ChangeShapes Go.WideShapes Go.ChangeAt Go.RowKit
set_option linter.unusedVariables false
set_option linter.unusedSimpArgs false

theorem memBytes_walk (v at_ : Int) (v0 : 0 ≤ v) (v1 : v < 4294967296) (w : World) : Calls Tryd.prog 6 #[.int .u32 v, .int .i64 at_] w fun e w' => e = .returned (.bool true) ∧ Below w.heap.size w w' := by
  obtain ⟨A, hE, hA, hl⟩ : ∃ A : Nat, wrap64 (4 * (wrap64 (at_.tmod 16 + 16)).tmod 16) % 4294967296 = A ∧ A % 4 = 0 ∧ A < 64 := by
    obtain ⟨r, h1, h2⟩ := W.turned at_ 16 (by decide) (by decide)
    rw [h1]
    exact ⟨4 * r, by unfold wrap64; omega, by omega, by omega⟩
  go_enter Tryd.func6, Tryd.ntmps6
  go_wp2_with (go_at_call 8; refine (first7_any _).mono ?_; rintro e w1 ⟨rfl, hw1⟩)
  try simp only [hE]
  refine (new_0 4 64 none 0 w1 rfl (by decide) (by decide)).mono ?_
  rintro e w2 ⟨rfl, hM, hB⟩
  have hL := Ms.start hw1 hM hB
  have g0 := hw1.size
  generalize w1.heap.size = g at *
  clear hM hB hw1
  go_wp2
  go_loopw [9] (fun i wr => (i = .int .u32 0 ∧ Ms w (g + 1) g 4 4 (fun _ => 0) wr) ∨ (i = .int .u32 1 ∧ Ms w (g + 1) g 4 4 (W.stored 4 (fun _ => 0) A 1 v) wr) ∨ (i = .int .u32 2 ∧ Ms w (g + 1) g 4 4 (W.stored 4 (W.stored 4 (fun _ => 0) A 1 v) (A + 1) 1 (v / 256)) wr) ∨ (i = .int .u32 3 ∧ Ms w (g + 1) g 4 4 (W.stored 4 (W.stored 4 (W.stored 4 (fun _ => 0) A 1 v) (A + 1) 1 (v / 256)) (A + 2) 1 (v / 65536)) wr) ∨ (i = .int .u32 4 ∧ Ms w (g + 1) g 4 4 (W.b4 A v) wr)) (fun i _ => 4 - (intOf i).toNat)
  case atStart => exact Or.inl ⟨rfl, hL⟩
  case round =>
    clear hL
    rcases hrel with ⟨rfl, hL⟩ | ⟨rfl, hL⟩ | ⟨rfl, hL⟩ | ⟨rfl, hL⟩ | ⟨rfl, hL⟩
    · go_wp2_with fail
      refine (store_l hL _ (A + 0) _ _ true (by omega) (by omega) (W.has_in 4 _ 1 (W.al_1 _) (by omega))).mono ?_
      clear hL
      rintro e w3 ⟨rfl, hL, _⟩
      go_wp2
      go_roundw
      case rel => exact Or.inr (Or.inl ⟨by go_num, hL⟩)
      case measure => simp [intOf]
    · go_wp2_with fail
      refine (store_l hL _ (A + 1) _ _ true (by omega) (by omega) (W.has_in 4 _ 1 (W.al_1 _) (by omega))).mono ?_
      clear hL
      rintro e w3 ⟨rfl, hL, _⟩
      go_wp2
      go_roundw
      case rel => exact Or.inr (Or.inr (Or.inl ⟨by go_num, hL⟩))
      case measure => simp [intOf]
    · go_wp2_with fail
      refine (store_l hL _ (A + 2) _ _ true (by omega) (by omega) (W.has_in 4 _ 1 (W.al_1 _) (by omega))).mono ?_
      clear hL
      rintro e w3 ⟨rfl, hL, _⟩
      go_wp2
      go_roundw
      case rel => exact Or.inr (Or.inr (Or.inr (Or.inl ⟨by go_num, hL⟩)))
      case measure => simp [intOf]
    · go_wp2_with fail
      refine (store_l hL _ (A + 3) _ _ true (by omega) (by omega) (W.has_in 4 _ 1 (W.al_1 _) (by omega))).mono ?_
      clear hL
      rintro e w3 ⟨rfl, hL, _⟩
      go_wp2
      go_roundw
      case rel => exact Or.inr (Or.inr (Or.inr (Or.inr ⟨by go_num, hL⟩)))
      case measure => simp [intOf]
    · have q := W.b4_loads A v v0 v1 hA hl
      have hv : bits .and .u32 v 65535 = v % 65536 := W.and16 v v0 v1
      go_wp2_with fail
      refine (load_l hL _ A _ v true rfl (by omega) q.1 (W.has_in 4 _ 4 (W.al_4 _ hA) (by omega))).mono ?_
      clear hL
      rintro e w3 ⟨rfl, hL, _⟩
      go_wp2_with fail
      refine (load_l hL _ A _ (v % 65536) true rfl (by omega) q.2.1 (W.has_in 4 _ 2 (W.al_2 _ (by omega)) (by omega))).mono ?_
      clear hL
      rintro e w3 ⟨rfl, hL, _⟩
      go_wp2_with fail
      refine (load_l hL _ (A + 2) _ (v / 65536) true (by omega) (by omega) q.2.2 (W.has_in 4 _ 2 (W.al_2 _ (by omega)) (by omega))).mono ?_
      clear hL
      rintro e w3 ⟨rfl, hL, _⟩
      go_wp2_with fail
      refine (new_0 4 64 none 0 w3 rfl (by decide) (by decide)).mono ?_
      rintro e w4 ⟨rfl, hM, hB⟩
      have hN := Ms.start hL.bel hM hB
      have g1 := hL.at_.lt
      replace hL := hL.call hB
      generalize w3.heap.size = g2 at *
      clear hM hB
      go_wp2_with fail
      refine (store_l hN _ (A + 2) _ _ true (by omega) (by omega) (W.has_in 4 _ 2 (W.al_2 _ (by omega)) (by omega))).mono ?_
      clear hN
      rintro e w5 ⟨rfl, hN, hg⟩
      replace hL := hL.other hg (by omega) (by omega) hN.lc
      clear hg
      go_wp2_with fail
      refine (store_l hN _ A _ _ true rfl (by omega) (W.has_in 4 _ 2 (W.al_2 _ (by omega)) (by omega))).mono ?_
      clear hN
      rintro e w6 ⟨rfl, hN, hg⟩
      replace hL := hL.other hg (by omega) (by omega) hN.lc
      clear hg
      go_wp2_with fail
      refine (same_any _ _ _ _ _ _ 4 (W.b4 A v) (W.h2 A v) _ hL.at_ hN.at_).mono ?_
      rw [W.b4_h2 A v v0 v1 hA hl]
      rintro e w7 ⟨rfl, hB7⟩
      go_wp2
      go_ret
      exact ⟨rfl, (hL.call hB7).bel⟩
end Go.Proofs.YtjdiepklgcdamaaDoor
