/- MemEdges, walked. -/
import Derived.Test.YtjdiepklgcdamaaDoorMemEdgesA
namespace Go.Proofs.YtjdiepklgcdamaaDoor
open Go.ChangeShapes Go.WideShapes Go.ChangeAt Go.RowKit
set_option linter.unusedVariables false
set_option linter.unusedSimpArgs false

theorem has_out (n A : Nat) (s : Int) (h : 16 * n ≤ A) : W.has n A s = false := by
  have : ¬ A < 16 * n := by omega
  simp [W.has, this]
theorem has_off (n A : Nat) (s : Int) (h : W.al A s = false) : W.has n A s = false := by simp [W.has, h]
theorem al_no2 (A : Nat) (h : A % 2 = 1) : W.al A 2 = false := by simp [W.al]; omega
theorem al_no4 (A : Nat) (h : ¬ A % 4 = 0) : W.al A 4 = false := by simp [W.al]; omega

set_option maxHeartbeats 1600000 in
theorem memEdges_good (A : Nat → Addr) (bytes : Int) (q : Nat) (hr : (wrap64 (bytes.tmod 128 + 128)).tmod 128 = ((16 * q : Nat) : Int)) (q1 : 1 ≤ q) (q2 : q < 8) (w : World) (hS : Sent A w) : Calls Tryd.prog 7 #[.int .i64 bytes] w fun e w' => e = .returned (.bool true) ∧ Below w.heap.size w w' := by
  have HS : Hid (Sent A w) := hS
  have hn : (num 1 == 106) = true := by kernel_rfl
  obtain ⟨N, hN⟩ : ∃ N : Int, ((16 * q : Nat) : Int) = N := ⟨_, rfl⟩
  have n1 : N = 16 * q := by omega
  have n2 : 16 ≤ N := by omega
  have n3 : N < 128 := by omega
  have n4 : N % 16 = 0 := by omega
  have n5 : N / 16 = q := by omega
  rw [hN] at hr
  have n1H : Hid (N = 16 * q) := n1
  clear hS hN n1
  go_enter Tryd.func7, Tryd.ntmps7
  go_wp2_with (first
      | (go_at_call 8; refine (first7_any _).mono ?_; rintro e w1 ⟨rfl, hw1⟩)
      | fail)
  refine (new_0 q N none 0 w1 n1H.out q1 (by omega)).mono ?_
  rintro e w2 ⟨rfl, hM, hB⟩
  have hL := Ms.start hw1 hM hB
  generalize w1.heap.size = g at *
  clear hM hB hw1
  go_wp2_with (go_at_call 12; refine (bytes_l hL N n1H.out.symm).mono ?_; rintro e w' ⟨rfl, rfl⟩)
  have b3 := (Below.refl w2.heap.size w2).alloc (Nat.le_refl _) (.cells #[.int .i64 1, .int .i64 2, .int .i64 4] 3)
  replace hL := hL.call b3
  have k0 : (w2.alloc (.cells #[.int .i64 1, .int .i64 2, .int .i64 4] 3)).cell? ⟨w2.heap.size, 0, none⟩ = some (.int .i64 1) := by simp [go_sem]
  have k1 : (w2.alloc (.cells #[.int .i64 1, .int .i64 2, .int .i64 4] 3)).cell? ⟨w2.heap.size, 1, none⟩ = some (.int .i64 2) := by simp [go_sem]
  have k2 : (w2.alloc (.cells #[.int .i64 1, .int .i64 2, .int .i64 4] 3)).cell? ⟨w2.heap.size, 2, none⟩ = some (.int .i64 4) := by simp [go_sem]
  generalize World.alloc w2 _ = w3 at *
  generalize w2.heap.size = g2 at *
  clear b3
  go_loopw [60] (fun i wr => (i = .int .i64 0 ∨ i = .int .i64 1 ∨ i = .int .i64 2 ∨ i = .int .i64 3) ∧ wr = w3) (fun i _ => 3 - (intOf i).toNat)
  case atStart => exact ⟨Or.inl rfl, rfl⟩
  case round =>
    obtain ⟨hi, rfl⟩ := hrel
    rcases hi with rfl | rfl | rfl | rfl
    · go_wp2_with fail
      refine (has_l hL _ (16 * q - 1) 1 true (by have := n1H.out; omega) (by omega) (W.has_in q _ 1 (W.al_1 _) (by omega))).mono ?_
      rintro e w' ⟨rfl, rfl⟩
      go_wp2_with fail
      refine (has_l hL _ (16 * q) 1 false (by have := n1H.out; omega) (by omega) (has_out q _ _ (by omega))).mono ?_
      rintro e w' ⟨rfl, rfl⟩
      go_wp2
      go_roundw
      case rel => exact ⟨Or.inr (Or.inl (by go_num)), trivial⟩
      case measure => simp [intOf]
    · go_wp2_with fail
      refine (has_l hL _ (16 * q - 2) 2 true (by have := n1H.out; omega) (by omega) (W.has_in q _ 2 (W.al_2 _ (by omega)) (by omega))).mono ?_
      rintro e w' ⟨rfl, rfl⟩
      go_wp2_with fail
      refine (has_l hL _ (16 * q) 2 false (by have := n1H.out; omega) (by omega) (has_out q _ _ (by omega))).mono ?_
      rintro e w' ⟨rfl, rfl⟩
      go_wp2_with fail
      refine (has_l hL _ (16 * q - 1) 2 false (by have := n1H.out; omega) (by omega) (has_off q _ _ (al_no2 _ (by omega)))).mono ?_
      rintro e w' ⟨rfl, rfl⟩
      go_wp2
      go_roundw
      case rel => exact ⟨Or.inr (Or.inr (Or.inl (by go_num))), trivial⟩
      case measure => simp [intOf]
    · go_wp2_with fail
      refine (has_l hL _ (16 * q - 4) 4 true (by have := n1H.out; omega) (by omega) (W.has_in q _ 4 (W.al_4 _ (by omega)) (by omega))).mono ?_
      rintro e w' ⟨rfl, rfl⟩
      go_wp2_with fail
      refine (has_l hL _ (16 * q) 4 false (by have := n1H.out; omega) (by omega) (has_out q _ _ (by omega))).mono ?_
      rintro e w' ⟨rfl, rfl⟩
      go_wp2_with fail
      refine (has_l hL _ (16 * q - 3) 4 false (by have := n1H.out; omega) (by omega) (has_off q _ _ (al_no4 _ (by omega)))).mono ?_
      rintro e w' ⟨rfl, rfl⟩
      go_wp2
      go_roundw
      case rel => exact ⟨Or.inr (Or.inr (Or.inr (by go_num))), trivial⟩
      case measure => simp [intOf]
    · have m1 : decide (0 ≤ (q : Int) - 1 ∧ (q : Int) - 1 < q) = true := by simp; omega
      have m2 : decide (0 ≤ (q : Int) ∧ (q : Int) < q) = false := by simp
      clear k0 k1 k2
      go_wp2_with fail
      refine (line_l hL _ true m1).mono ?_
      clear hL
      unfold lineV
      rintro e w4 ⟨rfl, hL, _⟩
      go_wp2_with fail
      replace hL := hL.call ((Below.refl _ _).alloc (Nat.le_refl _) (.cells #[.int .u32 (W.lineOf q (fun _ => 0) ((q : Int) - 1) 0), .int .u32 (W.lineOf q (fun _ => 0) ((q : Int) - 1) 1), .int .u32 (W.lineOf q (fun _ => 0) ((q : Int) - 1) 2), .int .u32 (W.lineOf q (fun _ => 0) ((q : Int) - 1) 3)] 38))
      refine (line_l hL _ false m2).mono ?_
      clear hL
      unfold lineV
      rintro e w5 ⟨rfl, hL, _⟩
      go_wp2_with fail
      replace hL := hL.call ((Below.refl _ _).alloc (Nat.le_refl _) (.cells #[.int .u32 (W.lineOf q (fun _ => 0) (q : Int) 0), .int .u32 (W.lineOf q (fun _ => 0) (q : Int) 1), .int .u32 (W.lineOf q (fun _ => 0) (q : Int) 2), .int .u32 (W.lineOf q (fun _ => 0) (q : Int) 3)] 38))
      refine (new_range A 65552 _ _ _ _ (HS.out.below hL.bel) (by omega)).mono ?_
      rintro e w6 ⟨rfl, hb6⟩
      replace hL := hL.call hb6
      clear hb6
      generalize hev : errV A 1 = v1
      go_wp2_with fail
      refine (has_l hL _ 4294967292 4 false rfl (by decide) (has_out q _ _ (by omega))).mono ?_
      rintro e w' ⟨rfl, rfl⟩
      go_wp2_with fail
      refine (has_l hL _ 0 8 false rfl (by decide) (has_off q _ _ (by decide))).mono ?_
      rintro e w' ⟨rfl, rfl⟩
      go_wp2_with fail
      rw [← hev]
      refine (is_any A 1 (by decide) 106 _ (HS.out.below hL.bel)).mono ?_
      rw [hn]
      rintro e w7 ⟨rfl, hb7⟩
      go_wp2
      go_ret
      exact ⟨rfl, (hL.call hb7).bel⟩

theorem memEdges_walk (A : Nat → Addr) (bytes : Int) (w : World) (hS : Sent A w) : Calls Tryd.prog 7 #[.int .i64 bytes] w fun e w' => e = .returned (.bool true) ∧ Below w.heap.size w w' := by
  obtain ⟨r, h1, h2⟩ := W.turned bytes 128 (by decide) (by decide)
  by_cases hg : r = 0 ∨ ¬ r % 16 = 0
  · exact memEdges_bad A bytes r h1 (by omega) hg w hS
  · exact memEdges_good A bytes (r / 16) (by rw [h1]; omega) (by omega) (by omega) w hS
end Go.Proofs.YtjdiepklgcdamaaDoor
