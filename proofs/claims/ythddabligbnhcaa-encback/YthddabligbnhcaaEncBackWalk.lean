/- EncBack, walked: it returns true, whatever the word. -/
import Derived.Test.YthddabligbnhcaaEnc2
namespace Go.Proofs.Ythddabligbnhcaa
open Go.ChangeShapes Go.WideShapes Go.ChangeAt Go.RowKit
set_option linter.unusedVariables false

theorem letters : (∀ w, (Instr.index 9 (.string ⟨#[73, 83, 66, 85, 74]⟩) (.int .i64 0)).run Try.prog w = .ok (.int .u8 73) w)
    ∧ (∀ w, (Instr.index 9 (.string ⟨#[73, 83, 66, 85, 74]⟩) (.int .i64 1)).run Try.prog w = .ok (.int .u8 83) w)
    ∧ (∀ w, (Instr.index 9 (.string ⟨#[73, 83, 66, 85, 74]⟩) (.int .i64 2)).run Try.prog w = .ok (.int .u8 66) w)
    ∧ (∀ w, (Instr.index 9 (.string ⟨#[73, 83, 66, 85, 74]⟩) (.int .i64 3)).run Try.prog w = .ok (.int .u8 85) w)
    ∧ (∀ w, (Instr.index 9 (.string ⟨#[73, 83, 66, 85, 74]⟩) (.int .i64 4)).run Try.prog w = .ok (.int .u8 74) w) :=
  ⟨fun _ => by kernel_rfl, fun _ => by kernel_rfl, fun _ => by kernel_rfl, fun _ => by kernel_rfl, fun _ => by kernel_rfl⟩

theorem imm_other (f x : Int) (hf : W.isF f) (x0 : 0 ≤ x) (x1 : x < 4294967296) : W.imm f (bits .andNot .u32 x (W.mask f)) = 0 := by
  have hm := W.mask_lt f
  refine W.imm_off f x _ hf ?_ ?_ ?_
  · rw [u32_andNot x (W.mask f) x0 x1 hm.1 hm.2]; omega
  · rw [u32_andNot x (W.mask f) x0 x1 hm.1 hm.2]
    have := Nat.and_le_left (n := x.toNat) (m := 4294967295 - (W.mask f).toNat)
    omega
  · intro q hq
    rw [u32_andNot x (W.mask f) x0 x1 hm.1 hm.2] at hq
    unfold W.tb at hq ⊢
    rw [Int.toNat_natCast, Nat.testBit_and, show 4294967295 - (W.mask f).toNat = 2 ^ 32 - ((W.mask f).toNat + 1) from by omega, Nat.testBit_two_pow_sub_succ (by omega)] at hq
    simp only [Bool.and_eq_true, decide_eq_true_eq, Bool.not_eq_true'] at hq
    exact hq.2.2

theorem back_facts (f x : Int) (hf : W.isF f) (x0 : 0 ≤ x) (x1 : x < 4294967296) :
    W.layB f (W.imm f x) = true ∧ (W.layV f (W.imm f x) != bits .and .u32 x (W.mask f)) = false ∧ (W.imm f (W.layV f (W.imm f x)) != W.imm f x) = false ∧ (W.imm f (bits .andNot .u32 x (W.mask f)) != 0) = false := by
  have h1 := W.lay_back f x hf x0 x1
  have h2 : W.layV f (W.imm f x) = bits .and .u32 x (W.mask f) := by
    unfold W.layV
    rw [h1, cond_true]
    exact W.lay_imm f x hf x0 x1
  refine ⟨h1, ?_, ?_, ?_⟩
  · rw [h2]; simp
  · rw [h2, W.imm_and f x hf x0 x1]; simp
  · rw [imm_other f x hf x0 x1]; rfl

set_option maxHeartbeats 3200000 in
theorem back_walk (x : Int) (x0 : 0 ≤ x) (x1 : x < 4294967296) (w : World) :
    Calls Try.prog 4 #[.int .u32 x] w fun e w' => e = .returned (.bool true) ∧ Below w.heap.size w w' := by
  obtain ⟨i0, i1, i2, i3, i4⟩ := letters
  have hb : Below w.heap.size w w := Below.refl _ _
  have f0 : Hid (W.layB 73 (W.imm 73 x) = true ∧ (W.layV 73 (W.imm 73 x) != bits .and .u32 x 4293918720) = false ∧ (W.imm 73 (W.layV 73 (W.imm 73 x)) != W.imm 73 x) = false ∧ (W.imm 73 (bits .andNot .u32 x 4293918720) != 0) = false) := back_facts 73 x (by simp [W.isF]) x0 x1
  have f1 : Hid (W.layB 83 (W.imm 83 x) = true ∧ (W.layV 83 (W.imm 83 x) != bits .and .u32 x 4261416832) = false ∧ (W.imm 83 (W.layV 83 (W.imm 83 x)) != W.imm 83 x) = false ∧ (W.imm 83 (bits .andNot .u32 x 4261416832) != 0) = false) := back_facts 83 x (by simp [W.isF]) x0 x1
  have f2 : Hid (W.layB 66 (W.imm 66 x) = true ∧ (W.layV 66 (W.imm 66 x) != bits .and .u32 x 4261416832) = false ∧ (W.imm 66 (W.layV 66 (W.imm 66 x)) != W.imm 66 x) = false ∧ (W.imm 66 (bits .andNot .u32 x 4261416832) != 0) = false) := back_facts 66 x (by simp [W.isF]) x0 x1
  have f3 : Hid (W.layB 85 (W.imm 85 x) = true ∧ (W.layV 85 (W.imm 85 x) != bits .and .u32 x 4294963200) = false ∧ (W.imm 85 (W.layV 85 (W.imm 85 x)) != W.imm 85 x) = false ∧ (W.imm 85 (bits .andNot .u32 x 4294963200) != 0) = false) := back_facts 85 x (by simp [W.isF]) x0 x1
  have f4 : Hid (W.layB 74 (W.imm 74 x) = true ∧ (W.layV 74 (W.imm 74 x) != bits .and .u32 x 4294963200) = false ∧ (W.imm 74 (W.layV 74 (W.imm 74 x)) != W.imm 74 x) = false ∧ (W.imm 74 (bits .andNot .u32 x 4294963200) != 0) = false) := back_facts 74 x (by simp [W.isF]) x0 x1
  clear x0 x1
  go_enter Try.func4, Try.ntmps4
  go_wp2_with (go_at_call 7; refine (from_ (first_any _) hb).mono ?_; clear hb; rintro e' w1 ⟨rfl, hb⟩)
  go_loopw [4] (fun i wr => ∃ k : Nat, k ≤ 5 ∧ i = .int .i64 k ∧ Below w.heap.size w wr) (fun i _ => 5 - (intOf i).toNat)
  case atStart => exact ⟨0, by omega, rfl, hb⟩
  case round =>
    clear hb
    obtain ⟨k, hk, rfl, hb⟩ := hrel
    have hk5 : k = 0 ∨ k = 1 ∨ k = 2 ∨ k = 3 ∨ k = 4 ∨ k = 5 := by omega
    clear hk
    rcases hk5 with rfl | rfl | rfl | rfl | rfl | rfl
    case inr.inr.inr.inr.inr =>
      go_wp2
      go_ret
      exact ⟨rfl, hb⟩
    · obtain ⟨g1, g2, g3, g4⟩ := f0.out
      clear f0 f1 f2 f3 f4
      go_wp2_with (first
        | (go_at_call 10; refine (from_ (lay_any _ _ _) hb).mono ?_; clear hb; rintro e w' ⟨rfl, hb⟩)
        | (go_at_call 12; refine (from_ (imm_any _ _ _) hb).mono ?_; clear hb; rintro e w' ⟨rfl, hb⟩)
        | (go_at_call 12; refine (from_ (imm_any _ _ _) (hb.alloc hb.size _)).mono ?_; clear hb; rintro e w' ⟨rfl, hb⟩))
      go_roundw
      case rel => exact ⟨_, by decide, rfl, hb⟩
      case measure => simp [intOf]
    · obtain ⟨g1, g2, g3, g4⟩ := f1.out
      clear f0 f1 f2 f3 f4
      go_wp2_with (first
        | (go_at_call 10; refine (from_ (lay_any _ _ _) hb).mono ?_; clear hb; rintro e w' ⟨rfl, hb⟩)
        | (go_at_call 12; refine (from_ (imm_any _ _ _) hb).mono ?_; clear hb; rintro e w' ⟨rfl, hb⟩)
        | (go_at_call 12; refine (from_ (imm_any _ _ _) (hb.alloc hb.size _)).mono ?_; clear hb; rintro e w' ⟨rfl, hb⟩))
      go_roundw
      case rel => exact ⟨_, by decide, rfl, hb⟩
      case measure => simp [intOf]
    · obtain ⟨g1, g2, g3, g4⟩ := f2.out
      clear f0 f1 f2 f3 f4
      go_wp2_with (first
        | (go_at_call 10; refine (from_ (lay_any _ _ _) hb).mono ?_; clear hb; rintro e w' ⟨rfl, hb⟩)
        | (go_at_call 12; refine (from_ (imm_any _ _ _) hb).mono ?_; clear hb; rintro e w' ⟨rfl, hb⟩)
        | (go_at_call 12; refine (from_ (imm_any _ _ _) (hb.alloc hb.size _)).mono ?_; clear hb; rintro e w' ⟨rfl, hb⟩))
      go_roundw
      case rel => exact ⟨_, by decide, rfl, hb⟩
      case measure => simp [intOf]
    · obtain ⟨g1, g2, g3, g4⟩ := f3.out
      clear f0 f1 f2 f3 f4
      go_wp2_with (first
        | (go_at_call 10; refine (from_ (lay_any _ _ _) hb).mono ?_; clear hb; rintro e w' ⟨rfl, hb⟩)
        | (go_at_call 12; refine (from_ (imm_any _ _ _) hb).mono ?_; clear hb; rintro e w' ⟨rfl, hb⟩)
        | (go_at_call 12; refine (from_ (imm_any _ _ _) (hb.alloc hb.size _)).mono ?_; clear hb; rintro e w' ⟨rfl, hb⟩))
      go_roundw
      case rel => exact ⟨_, by decide, rfl, hb⟩
      case measure => simp [intOf]
    · obtain ⟨g1, g2, g3, g4⟩ := f4.out
      clear f0 f1 f2 f3 f4
      go_wp2_with (first
        | (go_at_call 10; refine (from_ (lay_any _ _ _) hb).mono ?_; clear hb; rintro e w' ⟨rfl, hb⟩)
        | (go_at_call 12; refine (from_ (imm_any _ _ _) hb).mono ?_; clear hb; rintro e w' ⟨rfl, hb⟩)
        | (go_at_call 12; refine (from_ (imm_any _ _ _) (hb.alloc hb.size _)).mono ?_; clear hb; rintro e w' ⟨rfl, hb⟩))
      go_roundw
      case rel => exact ⟨_, by decide, rfl, hb⟩
      case measure => simp [intOf]
end Go.Proofs.Ythddabligbnhcaa
