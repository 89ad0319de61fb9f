/- EncEach, walked: it returns true, whatever the words. -/
import Derived.Test.YthddabligbnhcaaEncBackWalk
namespace Go.Proofs.Ythddabligbnhcaa
open Go.ChangeShapes Go.WideShapes Go.ChangeAt Go.RowKit
set_option linter.unusedVariables false

/-- What the first k bits come to, laid over one another. -/
def acc (f : Int) : Nat → Int
  | 0 => 0
  | k + 1 => bits .or .u32 (acc f k) (W.imm f (2 ^ k % 4294967296))

def eachB (f : Int) : Bool := ((List.range 31).all fun k => (bits .and .u32 (W.imm f (2 ^ k % 4294967296)) ((W.imm f (2 ^ k % 4294967296) - 1) % 4294967296) == 0) && (bits .and .u32 (W.imm f (2 ^ k % 4294967296)) (acc f k) == 0))
  && (bits .and .u32 (W.imm f 2147483648) (acc f 31) == 0) && (W.imm f 2147483648 / 2147483648 == 1)
theorem each_all (f : Int) (h : W.isF f) : eachB f = true := by
  rcases h with rfl | rfl | rfl | rfl | rfl <;> decide +kernel
theorem each_bit (f : Int) (h : W.isF f) (k : Nat) (hk : k < 31) :
    (bits .and .u32 (W.imm f (2 ^ k % 4294967296)) ((W.imm f (2 ^ k % 4294967296) - 1) % 4294967296) != 0) = false ∧ (bits .and .u32 (W.imm f (2 ^ k % 4294967296)) (acc f k) != 0) = false := by
  have := each_all f h
  unfold eachB at this
  rw [Bool.and_eq_true, Bool.and_eq_true] at this
  have := List.all_eq_true.1 this.1.1 k (List.mem_range.2 hk)
  simpa using this
theorem each_top (f : Int) (h : W.isF f) : (bits .and .u32 (W.imm f 2147483648) (acc f 31) != 0) = false ∧ (W.imm f 2147483648 / 2147483648 != 1) = false := by
  have := each_all f h
  unfold eachB at this
  rw [Bool.and_eq_true, Bool.and_eq_true] at this
  simpa using And.intro this.1.2 this.2
theorem imm_none (f x : Int) (h : ¬ W.isF f) : W.imm f x = 0 := by
  have e := layout_other f h
  unfold W.imm W.sgn
  rw [e.1, if_pos (by decide)]
theorem each_mix (f v x : Int) (hf : W.isF f) (v0 : 0 ≤ v) (v1 : v < 4294967296) (x0 : 0 ≤ x) (x1 : x < 4294967296) :
    (W.imm f (bits .xor .u32 v x) != bits .xor .u32 (W.imm f v) (W.imm f x)) = false ∧ (W.imm f (bits .or .u32 v x) != bits .or .u32 (W.imm f v) (W.imm f x)) = false := by
  rw [W.imm_xor f v x hf v0 v1 x0 x1, W.imm_or f v x hf v0 v1 x0 x1]; simp

set_option maxRecDepth 100000 in
set_option maxHeartbeats 12800000 in
theorem each_walk (v x : Int) (v0 : 0 ≤ v) (v1 : v < 4294967296) (x0 : 0 ≤ x) (x1 : x < 4294967296) (w : World) :
    Calls Try.prog 6 #[.int .u32 v, .int .u32 x] w fun e w' => e = .returned (.bool true) ∧ Below w.heap.size w w' := by
  obtain ⟨i0, i1, i2, i3, i4⟩ := letters
  have hb : Below w.heap.size w w := Below.refl _ _
  have hX : (W.imm 88 v == 0) = true := by rw [imm_none 88 v (by simp [W.isF])]; rfl
  go_enter Try.func6, Try.ntmps6
  go_wp2_with (go_at_call 7; refine (from_ (first_any _) hb).mono ?_; clear hb; rintro e' w1 ⟨rfl, hb⟩)
  go_loopw [6] (fun i wr => ∃ k : Nat, k ≤ 5 ∧ i = .int .i64 k ∧ Below w.heap.size w wr) (fun i _ => 5 - (intOf i).toNat)
  case atStart => exact ⟨0, by omega, rfl, hb⟩
  case round =>
    clear hb
    obtain ⟨k, hk, rfl, hb⟩ := hrel
    have hk5 : k = 0 ∨ k = 1 ∨ k = 2 ∨ k = 3 ∨ k = 4 ∨ k = 5 := by omega
    clear hk
    rcases hk5 with rfl | rfl | rfl | rfl | rfl | rfl
    · have hF : Hid (W.isF 73) := (by simp [W.isF] : W.isF 73)
      obtain ⟨h0, h1⟩ := each_mix 73 v x hF.out v0 v1 x0 x1
      obtain ⟨t0, t1⟩ := each_top 73 hF.out
      clear v0 v1 x0 x1
      go_wp2_with (go_at_call 12; refine (from_ (imm_any _ _ _) hb).mono ?_; clear hb; rintro e w' ⟨rfl, hb⟩)
      go_loopw [8, 9] (fun t i wr => ∃ k : Nat, k ≤ 31 ∧ i = .int .i64 k ∧ t = .int .u32 (acc 73 k) ∧ Below w.heap.size w wr) (fun _ i _ => 31 - (intOf i).toNat)
      case atStart => exact ⟨0, by omega, rfl, rfl, hb⟩
      case round =>
        clear hb
        obtain ⟨k, hk, rfl, rfl, hb⟩ := hrel
        by_cases hk2 : k < 31
        · obtain ⟨q0, q1⟩ := each_bit 73 hF.out k hk2
          go_wp2_with (go_at_call 12; refine (from_ (imm_any _ _ _) hb).mono ?_; clear hb; rintro e w' ⟨rfl, hb⟩)
          go_roundw
          case rel => exact ⟨k + 1, by omega, by go_num, rfl, hb⟩
          case measure => simp [intOf]; omega
        · obtain rfl : k = 31 := by omega
          clear hk hk2
          generalize acc 73 31 = A at *
          go_wp2_with (go_at_call 12; refine (from_ (imm_any _ _ _) hb).mono ?_; clear hb; rintro e w' ⟨rfl, hb⟩)
          go_roundw
          case rel => exact ⟨_, by decide, rfl, hb⟩
          case measure => simp [intOf]
    · have hF : Hid (W.isF 83) := (by simp [W.isF] : W.isF 83)
      obtain ⟨h0, h1⟩ := each_mix 83 v x hF.out v0 v1 x0 x1
      obtain ⟨t0, t1⟩ := each_top 83 hF.out
      clear v0 v1 x0 x1
      go_wp2_with (go_at_call 12; refine (from_ (imm_any _ _ _) hb).mono ?_; clear hb; rintro e w' ⟨rfl, hb⟩)
      go_loopw [8, 9] (fun t i wr => ∃ k : Nat, k ≤ 31 ∧ i = .int .i64 k ∧ t = .int .u32 (acc 83 k) ∧ Below w.heap.size w wr) (fun _ i _ => 31 - (intOf i).toNat)
      case atStart => exact ⟨0, by omega, rfl, rfl, hb⟩
      case round =>
        clear hb
        obtain ⟨k, hk, rfl, rfl, hb⟩ := hrel
        by_cases hk2 : k < 31
        · obtain ⟨q0, q1⟩ := each_bit 83 hF.out k hk2
          go_wp2_with (go_at_call 12; refine (from_ (imm_any _ _ _) hb).mono ?_; clear hb; rintro e w' ⟨rfl, hb⟩)
          go_roundw
          case rel => exact ⟨k + 1, by omega, by go_num, rfl, hb⟩
          case measure => simp [intOf]; omega
        · obtain rfl : k = 31 := by omega
          clear hk hk2
          generalize acc 83 31 = A at *
          go_wp2_with (go_at_call 12; refine (from_ (imm_any _ _ _) hb).mono ?_; clear hb; rintro e w' ⟨rfl, hb⟩)
          go_roundw
          case rel => exact ⟨_, by decide, rfl, hb⟩
          case measure => simp [intOf]
    · have hF : Hid (W.isF 66) := (by simp [W.isF] : W.isF 66)
      obtain ⟨h0, h1⟩ := each_mix 66 v x hF.out v0 v1 x0 x1
      obtain ⟨t0, t1⟩ := each_top 66 hF.out
      clear v0 v1 x0 x1
      go_wp2_with (go_at_call 12; refine (from_ (imm_any _ _ _) hb).mono ?_; clear hb; rintro e w' ⟨rfl, hb⟩)
      go_loopw [8, 9] (fun t i wr => ∃ k : Nat, k ≤ 31 ∧ i = .int .i64 k ∧ t = .int .u32 (acc 66 k) ∧ Below w.heap.size w wr) (fun _ i _ => 31 - (intOf i).toNat)
      case atStart => exact ⟨0, by omega, rfl, rfl, hb⟩
      case round =>
        clear hb
        obtain ⟨k, hk, rfl, rfl, hb⟩ := hrel
        by_cases hk2 : k < 31
        · obtain ⟨q0, q1⟩ := each_bit 66 hF.out k hk2
          go_wp2_with (go_at_call 12; refine (from_ (imm_any _ _ _) hb).mono ?_; clear hb; rintro e w' ⟨rfl, hb⟩)
          go_roundw
          case rel => exact ⟨k + 1, by omega, by go_num, rfl, hb⟩
          case measure => simp [intOf]; omega
        · obtain rfl : k = 31 := by omega
          clear hk hk2
          generalize acc 66 31 = A at *
          go_wp2_with (go_at_call 12; refine (from_ (imm_any _ _ _) hb).mono ?_; clear hb; rintro e w' ⟨rfl, hb⟩)
          go_roundw
          case rel => exact ⟨_, by decide, rfl, hb⟩
          case measure => simp [intOf]
    · have hF : Hid (W.isF 85) := (by simp [W.isF] : W.isF 85)
      obtain ⟨h0, h1⟩ := each_mix 85 v x hF.out v0 v1 x0 x1
      obtain ⟨t0, t1⟩ := each_top 85 hF.out
      clear v0 v1 x0 x1
      go_wp2_with (go_at_call 12; refine (from_ (imm_any _ _ _) hb).mono ?_; clear hb; rintro e w' ⟨rfl, hb⟩)
      go_loopw [8, 9] (fun t i wr => ∃ k : Nat, k ≤ 31 ∧ i = .int .i64 k ∧ t = .int .u32 (acc 85 k) ∧ Below w.heap.size w wr) (fun _ i _ => 31 - (intOf i).toNat)
      case atStart => exact ⟨0, by omega, rfl, rfl, hb⟩
      case round =>
        clear hb
        obtain ⟨k, hk, rfl, rfl, hb⟩ := hrel
        by_cases hk2 : k < 31
        · obtain ⟨q0, q1⟩ := each_bit 85 hF.out k hk2
          go_wp2_with (go_at_call 12; refine (from_ (imm_any _ _ _) hb).mono ?_; clear hb; rintro e w' ⟨rfl, hb⟩)
          go_roundw
          case rel => exact ⟨k + 1, by omega, by go_num, rfl, hb⟩
          case measure => simp [intOf]; omega
        · obtain rfl : k = 31 := by omega
          clear hk hk2
          generalize acc 85 31 = A at *
          go_wp2_with (go_at_call 12; refine (from_ (imm_any _ _ _) hb).mono ?_; clear hb; rintro e w' ⟨rfl, hb⟩)
          go_roundw
          case rel => exact ⟨_, by decide, rfl, hb⟩
          case measure => simp [intOf]
    · have hF : Hid (W.isF 74) := (by simp [W.isF] : W.isF 74)
      obtain ⟨h0, h1⟩ := each_mix 74 v x hF.out v0 v1 x0 x1
      obtain ⟨t0, t1⟩ := each_top 74 hF.out
      clear v0 v1 x0 x1
      go_wp2_with (go_at_call 12; refine (from_ (imm_any _ _ _) hb).mono ?_; clear hb; rintro e w' ⟨rfl, hb⟩)
      go_loopw [8, 9] (fun t i wr => ∃ k : Nat, k ≤ 31 ∧ i = .int .i64 k ∧ t = .int .u32 (acc 74 k) ∧ Below w.heap.size w wr) (fun _ i _ => 31 - (intOf i).toNat)
      case atStart => exact ⟨0, by omega, rfl, rfl, hb⟩
      case round =>
        clear hb
        obtain ⟨k, hk, rfl, rfl, hb⟩ := hrel
        by_cases hk2 : k < 31
        · obtain ⟨q0, q1⟩ := each_bit 74 hF.out k hk2
          go_wp2_with (go_at_call 12; refine (from_ (imm_any _ _ _) hb).mono ?_; clear hb; rintro e w' ⟨rfl, hb⟩)
          go_roundw
          case rel => exact ⟨k + 1, by omega, by go_num, rfl, hb⟩
          case measure => simp [intOf]; omega
        · obtain rfl : k = 31 := by omega
          clear hk hk2
          generalize acc 74 31 = A at *
          go_wp2_with (go_at_call 12; refine (from_ (imm_any _ _ _) hb).mono ?_; clear hb; rintro e w' ⟨rfl, hb⟩)
          go_roundw
          case rel => exact ⟨_, by decide, rfl, hb⟩
          case measure => simp [intOf]
    · go_wp2_with (go_at_call 12; refine (from_ (imm_any _ _ _) hb).mono ?_; clear hb; rintro e w' ⟨rfl, hb⟩)
      go_ret
      exact ⟨rfl, hb⟩
end Go.Proofs.Ythddabligbnhcaa
