/- The immediates and their words, spelled format by format. -/
import Derived.Test.YtjdiepklgcdamaaDoorMathE
namespace Go.Proofs.YtjdiepklgcdamaaDoor.W
open Go.RowKit
set_option linter.unusedVariables false

theorem bitsOf_low (x low n : Int) (x0 : 0 ≤ x) (x1 : x < 4294967296) (l0 : 0 ≤ low) (l1 : low ≤ 31) (n0 : 1 ≤ n) : bits .and .u32 (bitsOf x low n) (lowest n) = bitsOf x low n := by
  have h := bitsOf_lt x low n
  rw [lowest_eq n n0, low_and _ _ (by omega) h.1 h.2, bitsOf_eq x low n x0 x1 l0 l1 n0]
  exact Int.emod_emod_of_dvd _ (Int.dvd_refl _)
theorem moved_eq (x low to n : Int) (x0 : 0 ≤ x) (x1 : x < 4294967296) (l0 : 0 ≤ low) (l1 : low ≤ 31) (t0 : 0 ≤ to) (t1 : to ≤ 31) (n0 : 1 ≤ n) :
    moved x low to n = bitsOf x low n * 2 ^ to.toNat % 4294967296 := by
  have hw : within to n = true := by simp [within, t0, t1, n0]
  rw [moved_placed]
  unfold placed
  rw [hw, cond_true, place, bitsOf_low x low n x0 x1 l0 l1 n0]
theorem moved_shift (x low to n : Int) (x0 : 0 ≤ x) (x1 : x < 4294967296) (l0 : 0 ≤ low) (l1 : low ≤ 31) (t0 : 0 ≤ to) (t1 : to ≤ 31) (n0 : 1 ≤ n) :
    moved x low to n = placed (x / 2 ^ low.toNat) to n := by
  have hw : within to n = true := by simp [within, t0, t1, n0]
  have hw2 : within low n = true := by simp [within, l0, l1, n0]
  rw [moved_eq x low to n x0 x1 l0 l1 t0 t1 n0]
  unfold placed
  rw [hw, cond_true, place, bitsOf, hw2, cond_true]
theorem moved_nil (x low to : Int) : moved x low to 0 = 0 := by
  have hw : within to 0 = false := by simp [within]
  rw [moved_placed]
  unfold placed
  rw [hw, cond_false]
theorem moved_low (x low n : Int) (x0 : 0 ≤ x) (x1 : x < 4294967296) (l0 : 0 ≤ low) (l1 : low ≤ 31) (n0 : 1 ≤ n) : moved x low 0 n = bitsOf x low n := by
  have h := bitsOf_lt x low n
  rw [moved_eq x low 0 n x0 x1 l0 l1 (by decide) (by decide) n0]
  simp
  omega
theorem or1 (a : Int) (h : 0 ≤ a ∧ a < 4294967296) : bits .or .u32 (bits .or .u32 (bits .or .u32 (bits .or .u32 0 a) 0) 0) 0 = a := by
  rw [zero_or a h.1 h.2, or_zero a h.1 h.2, or_zero a h.1 h.2, or_zero a h.1 h.2]
theorem or2 (a b : Int) (h : 0 ≤ a ∧ a < 4294967296) : bits .or .u32 (bits .or .u32 (bits .or .u32 (bits .or .u32 0 a) b) 0) 0 = bits .or .u32 a b := by
  have g := or_lt a b
  rw [zero_or a h.1 h.2, or_zero _ g.1 g.2, or_zero _ g.1 g.2]
theorem or4 (a b c d : Int) (h : 0 ≤ a ∧ a < 4294967296) : bits .or .u32 (bits .or .u32 (bits .or .u32 (bits .or .u32 0 a) b) c) d = bits .or .u32 (bits .or .u32 (bits .or .u32 a b) c) d := by
  rw [zero_or a h.1 h.2]

theorem imm_I (x : Int) (x0 : 0 ≤ x) (x1 : x < 4294967296) : sgn (bitsOf x 20 12) 12 = imm 73 x := by
  have e : imm 73 x = sgn (bits .or .u32 (bits .or .u32 (bits .or .u32 (bits .or .u32 0 (moved x 20 0 12)) (moved x 0 0 0)) (moved x 0 0 0)) (moved x 0 0 0)) 12 := rfl
  rw [e, moved_nil, or1 _ (moved_lt _ _ _ _), moved_low x 20 12 x0 x1 (by decide) (by decide) (by decide)]
theorem imm_S (x : Int) (x0 : 0 ≤ x) (x1 : x < 4294967296) : sgn (bits .or .u32 (bitsOf x 25 7 * 32 % 4294967296) (bitsOf x 7 5)) 12 = imm 83 x := by
  have e : imm 83 x = sgn (bits .or .u32 (bits .or .u32 (bits .or .u32 (bits .or .u32 0 (moved x 25 5 7)) (moved x 7 0 5)) (moved x 0 0 0)) (moved x 0 0 0)) 12 := rfl
  rw [e, moved_nil, or2 _ _ (moved_lt _ _ _ _), moved_low x 7 5 x0 x1 (by decide) (by decide) (by decide), moved_eq x 25 5 7 x0 x1 (by decide) (by decide) (by decide) (by decide) (by decide)]
  rfl
theorem imm_B (x : Int) (x0 : 0 ≤ x) (x1 : x < 4294967296) : sgn (bits .or .u32 (bits .or .u32 (bits .or .u32 (bitsOf x 31 1 * 4096 % 4294967296) (bitsOf x 7 1 * 2048 % 4294967296)) (bitsOf x 25 6 * 32 % 4294967296)) (bitsOf x 8 4 * 2 % 4294967296)) 13 = imm 66 x := by
  have e : imm 66 x = sgn (bits .or .u32 (bits .or .u32 (bits .or .u32 (bits .or .u32 0 (moved x 31 12 1)) (moved x 7 11 1)) (moved x 25 5 6)) (moved x 8 1 4)) 13 := rfl
  rw [e, or4 _ _ _ _ (moved_lt _ _ _ _), moved_eq x 31 12 1 x0 x1 (by decide) (by decide) (by decide) (by decide) (by decide), moved_eq x 7 11 1 x0 x1 (by decide) (by decide) (by decide) (by decide) (by decide), moved_eq x 25 5 6 x0 x1 (by decide) (by decide) (by decide) (by decide) (by decide), moved_eq x 8 1 4 x0 x1 (by decide) (by decide) (by decide) (by decide) (by decide)]
  rfl
theorem imm_U (x : Int) (x0 : 0 ≤ x) (x1 : x < 4294967296) : bitsOf x 12 20 * 4096 % 4294967296 = imm 85 x := by
  have e : imm 85 x = sgn (bits .or .u32 (bits .or .u32 (bits .or .u32 (bits .or .u32 0 (moved x 12 12 20)) (moved x 0 0 0)) (moved x 0 0 0)) (moved x 0 0 0)) 32 := rfl
  rw [e, moved_nil, or1 _ (moved_lt _ _ _ _), sgn, if_neg (by decide), if_pos (by decide), moved_eq x 12 12 20 x0 x1 (by decide) (by decide) (by decide) (by decide) (by decide)]
  rfl
theorem imm_J (x : Int) (x0 : 0 ≤ x) (x1 : x < 4294967296) : sgn (bits .or .u32 (bits .or .u32 (bits .or .u32 (bitsOf x 31 1 * 1048576 % 4294967296) (bitsOf x 12 8 * 4096 % 4294967296)) (bitsOf x 20 1 * 2048 % 4294967296)) (bitsOf x 21 10 * 2 % 4294967296)) 21 = imm 74 x := by
  have e : imm 74 x = sgn (bits .or .u32 (bits .or .u32 (bits .or .u32 (bits .or .u32 0 (moved x 31 20 1)) (moved x 12 12 8)) (moved x 20 11 1)) (moved x 21 1 10)) 21 := rfl
  rw [e, or4 _ _ _ _ (moved_lt _ _ _ _), moved_eq x 31 20 1 x0 x1 (by decide) (by decide) (by decide) (by decide) (by decide), moved_eq x 12 12 8 x0 x1 (by decide) (by decide) (by decide) (by decide) (by decide), moved_eq x 20 11 1 x0 x1 (by decide) (by decide) (by decide) (by decide) (by decide), moved_eq x 21 1 10 x0 x1 (by decide) (by decide) (by decide) (by decide) (by decide)]
  rfl

theorem lay_I (x : Int) (x0 : 0 ≤ x) (x1 : x < 4294967296) : placed x 20 12 = layw 73 x := by
  have e : layw 73 x = bits .or .u32 (bits .or .u32 (bits .or .u32 (bits .or .u32 0 (moved x 0 20 12)) (moved x 0 0 0)) (moved x 0 0 0)) (moved x 0 0 0) := rfl
  rw [e, moved_nil, or1 _ (moved_lt _ _ _ _), moved_shift x 0 20 12 x0 x1 (by decide) (by decide) (by decide) (by decide) (by decide)]
  simp
theorem lay_S (x : Int) (x0 : 0 ≤ x) (x1 : x < 4294967296) : bits .or .u32 (placed (x / 32) 25 7) (placed x 7 5) = layw 83 x := by
  have e : layw 83 x = bits .or .u32 (bits .or .u32 (bits .or .u32 (bits .or .u32 0 (moved x 5 25 7)) (moved x 0 7 5)) (moved x 0 0 0)) (moved x 0 0 0) := rfl
  rw [e, moved_nil, or2 _ _ (moved_lt _ _ _ _), moved_shift x 5 25 7 x0 x1 (by decide) (by decide) (by decide) (by decide) (by decide), moved_shift x 0 7 5 x0 x1 (by decide) (by decide) (by decide) (by decide) (by decide)]
  simp
theorem lay_B (x : Int) (x0 : 0 ≤ x) (x1 : x < 4294967296) : bits .or .u32 (bits .or .u32 (bits .or .u32 (placed (x / 4096) 31 1) (placed (x / 2048) 7 1)) (placed (x / 32) 25 6)) (placed (x / 2) 8 4) = layw 66 x := by
  have e : layw 66 x = bits .or .u32 (bits .or .u32 (bits .or .u32 (bits .or .u32 0 (moved x 12 31 1)) (moved x 11 7 1)) (moved x 5 25 6)) (moved x 1 8 4) := rfl
  rw [e, or4 _ _ _ _ (moved_lt _ _ _ _), moved_shift x 12 31 1 x0 x1 (by decide) (by decide) (by decide) (by decide) (by decide), moved_shift x 11 7 1 x0 x1 (by decide) (by decide) (by decide) (by decide) (by decide), moved_shift x 5 25 6 x0 x1 (by decide) (by decide) (by decide) (by decide) (by decide), moved_shift x 1 8 4 x0 x1 (by decide) (by decide) (by decide) (by decide) (by decide)]
  simp
theorem lay_U (x : Int) (x0 : 0 ≤ x) (x1 : x < 4294967296) : placed (x / 4096) 12 20 = layw 85 x := by
  have e : layw 85 x = bits .or .u32 (bits .or .u32 (bits .or .u32 (bits .or .u32 0 (moved x 12 12 20)) (moved x 0 0 0)) (moved x 0 0 0)) (moved x 0 0 0) := rfl
  rw [e, moved_nil, or1 _ (moved_lt _ _ _ _), moved_shift x 12 12 20 x0 x1 (by decide) (by decide) (by decide) (by decide) (by decide)]
  simp
theorem lay_J (x : Int) (x0 : 0 ≤ x) (x1 : x < 4294967296) : bits .or .u32 (bits .or .u32 (bits .or .u32 (placed (x / 1048576) 31 1) (placed (x / 4096) 12 8)) (placed (x / 2048) 20 1)) (placed (x / 2) 21 10) = layw 74 x := by
  have e : layw 74 x = bits .or .u32 (bits .or .u32 (bits .or .u32 (bits .or .u32 0 (moved x 20 31 1)) (moved x 12 12 8)) (moved x 11 20 1)) (moved x 1 21 10) := rfl
  rw [e, or4 _ _ _ _ (moved_lt _ _ _ _), moved_shift x 20 31 1 x0 x1 (by decide) (by decide) (by decide) (by decide) (by decide), moved_shift x 12 12 8 x0 x1 (by decide) (by decide) (by decide) (by decide) (by decide), moved_shift x 11 20 1 x0 x1 (by decide) (by decide) (by decide) (by decide) (by decide), moved_shift x 1 21 10 x0 x1 (by decide) (by decide) (by decide) (by decide) (by decide)]
  simp

theorem heads (x : Int) (x0 : 0 ≤ x) (x1 : x < 4294967296) : (bitsOf x 0 7 != bits .and .u32 x 127) = false ∧ (bitsOf x 7 5 != bits .and .u32 (x / 128) 31) = false ∧ (bitsOf x 12 3 != bits .and .u32 (x / 4096) 7) = false
    ∧ (bitsOf x 15 5 != bits .and .u32 (x / 32768) 31) = false ∧ (bitsOf x 20 5 != bits .and .u32 (x / 1048576) 31) = false ∧ (bitsOf x 25 7 != x / 33554432) = false := by
  have h : ∀ (l n : Int) (c d : Int), 0 ≤ l → l ≤ 31 → 1 ≤ n → (2 : Int) ^ l.toNat = c → lowest n = d → bitsOf x l n = bits .and .u32 (x / c) d := by
    intro l n c d l0 l1 n0 hc hd
    have hw : within l n = true := by simp [within, l0, l1, n0]
    rw [bitsOf, hw, cond_true, hc, hd]
  have e0 := h 0 7 1 127 (by decide) (by decide) (by decide) (by decide) (by decide)
  rw [Int.ediv_one] at e0
  have e5 : bitsOf x 25 7 = x / 33554432 := by
    rw [bitsOf_eq x 25 7 x0 x1 (by decide) (by decide) (by decide)]
    simp only [Int.reduceToNat, Int.reducePow, Nat.reduceLeDiff, Nat.min_eq_left]
    omega
  rw [e0, h 7 5 128 31 (by decide) (by decide) (by decide) (by decide) (by decide), h 12 3 4096 7 (by decide) (by decide) (by decide) (by decide) (by decide), h 15 5 32768 31 (by decide) (by decide) (by decide) (by decide) (by decide), h 20 5 1048576 31 (by decide) (by decide) (by decide) (by decide) (by decide), e5]
  simp
end Go.Proofs.YtjdiepklgcdamaaDoor.W
