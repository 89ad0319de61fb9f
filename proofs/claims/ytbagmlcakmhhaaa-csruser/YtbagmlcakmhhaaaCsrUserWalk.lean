/- In User there is no register; what is kept is kept again. -/
import Derived.Test.YtbagmlcakmhhaaaCsrMasksWalk
namespace Go.Proofs.Ytbagmlcakmhhaaa
open Go.ChangeShapes Go.WideShapes Go.ChangeAt Go.RowKit
set_option linter.unusedVariables false
set_option linter.unusedSimpArgs false

namespace W
theorem nat_off (a b : Nat) (h : a &&& b = a) (hb : b < 4294967296) : a &&& (4294967295 - b) = 0 := by
  apply Nat.eq_of_testBit_eq
  intro i
  have e : (4294967295 - b).testBit i = (decide (i < 32) && !b.testBit i) := by
    have := Nat.testBit_two_pow_sub_succ (x := b) (n := 32) hb i
    rw [show 2 ^ 32 - (b + 1) = 4294967295 - b by omega] at this
    exact this
  rw [Nat.testBit_and, e, Nat.zero_testBit]
  have hi : (a &&& b).testBit i = a.testBit i := by rw [h]
  rw [Nat.testBit_and] at hi
  cases ha : a.testBit i <;> cases hb2 : b.testBit i <;> simp_all
/-- What is kept of v by a mask has no bit that v has not. -/
theorem off_and (v m : Int) (v0 : 0 ≤ v) (v1 : v < 4294967296) (m0 : 0 ≤ m) (m1 : m < 4294967296) : bits .andNot .u32 (bits .and .u32 v m) v = 0 := by
  rw [u32_and v m v0 v1 m0 m1]
  have hle : v.toNat &&& m.toNat ≤ v.toNat := Nat.and_le_left
  rw [u32_andNot _ _ (by omega) (by omega) v0 v1, Int.toNat_natCast, nat_off _ _ ?_ (by omega)]
  · rfl
  · rw [Nat.and_comm v.toNat, Nat.and_assoc, Nat.and_self]
theorem off_self (v : Int) (v0 : 0 ≤ v) (v1 : v < 4294967296) : bits .andNot .u32 v v = 0 := by
  rw [u32_andNot _ _ v0 v1 v0 v1, nat_off _ _ (Nat.and_self _) (by omega)]
  rfl
theorem and_1888 (v : Int) (v0 : 0 ≤ v) (v1 : v < 4294967296) : bits .and .u32 v 6280 = v / 2048 % 4 * 2048 + (v / 128 % 2 * 128 + v / 8 % 2 * 8) := by
  have e1 := and_1800 v v0 v1
  have e2 := and_88 v v0 v1
  rw [u32_and v 6144 v0 v1 (by decide) (by decide), show (6144 : Int).toNat = 6144 from rfl] at e1
  rw [u32_and v 136 v0 v1 (by decide) (by decide), show (136 : Int).toNat = 136 from rfl] at e2
  have e3 := nat_two v.toNat 6144 136 11 (by omega) (by decide)
  rw [u32_and v 6280 v0 v1 (by decide) (by decide), show (6280 : Int).toNat = 6144 ||| 136 from rfl, e3]
  omega
/-- Mstatus keeps what it kept, and no bit that was not there. -/
theorem st_kept (v : Int) (v0 : 0 ≤ v) (v1 : v < 4294967296) (A : Int) (hA : status (bitsOf v 3 1) (bitsOf v 7 1) (kmode v) = A) : status (bitsOf A 3 1) (bitsOf A 7 1) (kmode A) = A ∧ bits .andNot .u32 A v = 0 := by
  have h := set_st v v0 v1
  rw [hA] at h
  by_cases hc : v / 2048 % 4 = 3
  · rw [if_pos hc] at h
    have e := and_1888 v v0 v1
    refine ⟨?_, ?_⟩
    · rw [set_st A (by omega) (by omega), if_pos (by omega)]; omega
    · rw [show A = bits .and .u32 v 6280 by omega]; exact off_and v 6280 v0 v1 (by decide) (by decide)
  · rw [if_neg hc] at h
    have e := and_88 v v0 v1
    refine ⟨?_, ?_⟩
    · rw [set_st A (by omega) (by omega), if_neg (by omega)]; omega
    · rw [show A = bits .and .u32 v 136 by omega]; exact off_and v 136 v0 v1 (by decide) (by decide)
end W


set_option maxHeartbeats 1600000 in
theorem user_384 (v A : Int) (h1 : Hid (bits .and .u32 v 2151677951 = A)) (h2 : Hid (bits .and .u32 A 2151677951 = A)) (hA : Hid (bits .andNot .u32 A v = 0)) (w : World) : Calls Try.prog 5 #[.int .i64 384, .int .u32 v] w fun e w' => e = .returned (.bool true) ∧ Below w.heap.size w w' := by
  have hb : Below w.heap.size w w := Below.refl _ _
  have hz : (bits .andNot .u32 A v != 0) = false := by rw [hA.out]; rfl
  go_enter Try.func5, Try.ntmps5
  go_wp2_with (first
    | (go_at_call 9; refine (from_ (first6_any _) hb).mono ?_; clear hb; rintro e w1 ⟨rfl, hb⟩)
    | (go_at_call 10; refine (from_ (new_any _ _) hb).mono ?_; clear hb; rintro e w2 ⟨rfl, hb⟩; unfold fileCells W.fnew))
  have hL := Ls.start (W.fnew 1) hb
  clear hb
  refine (set_g 384 v true ⟨3, A, 0, 0, 0, 0, 0, 0, 0, 0, 1⟩ (by exact hL) (by rfl) (by have h := h1.out; unfold W.fset; simp [W.fnew, h])).mono ?_
  clear hL; rintro e w3 ⟨rfl, hL, hg⟩
  go_wp2_with fail
  refine (get_g 384 A true (by exact hL) (by rfl) (by rfl)).mono ?_
  rintro e w4 ⟨rfl, rfl⟩
  go_wp2_with fail
  refine (set_g 384 A true ⟨3, A, 0, 0, 0, 0, 0, 0, 0, 0, 1⟩ (by exact hL) (by rfl) (by have h := h2.out; unfold W.fset; simp [h])).mono ?_
  clear hL; rintro e w5 ⟨rfl, hL, hg⟩
  go_wp2_with fail
  refine (get_g 384 A true (by exact hL) (by rfl) (by rfl)).mono ?_
  rintro e w6 ⟨rfl, rfl⟩
  go_wp2_with fail
  refine (set_g 768 0 true ⟨3, A, 0, 0, 0, 0, 0, 0, 0, 0, 1⟩ (by exact hL) (by rfl) (by kernel_rfl)).mono ?_
  clear hL; rintro e w7 ⟨rfl, hL, hg⟩
  go_wp2_with fail
  refine (return_g 0 ⟨0, A, 128, 0, 0, 0, 0, 0, 0, 0, 1⟩ (by exact hL) (by rfl) (by kernel_rfl)).mono ?_
  clear hL; rintro e w8 ⟨rfl, hL, hg⟩
  go_wp2_with fail
  refine (get_g 384 0 false (by exact hL) (by rfl) (by rfl)).mono ?_
  rintro e w9 ⟨rfl, rfl⟩
  go_wp2_with fail
  refine (mode_g 0 (by exact hL) (by rfl)).mono ?_
  rintro e w10 ⟨rfl, rfl⟩
  go_wp2_with fail
  refine (set_l 384 v (by exact hL)).mono ?_
  clear hL; rintro e w11 ⟨rfl, hL, hg⟩
  rw [show W.setB _ 384 = false from rfl]
  go_wp2
  go_ret
  exact ⟨rfl, hL.bel⟩


set_option maxHeartbeats 1600000 in
theorem user_768 (v A : Int) (h1 : Hid (W.status (W.bitsOf v 3 1) (W.bitsOf v 7 1) (W.kmode v) = A)) (h2 : Hid (W.status (W.bitsOf A 3 1) (W.bitsOf A 7 1) (W.kmode A) = A)) (hA : Hid (bits .andNot .u32 A v = 0)) (w : World) : Calls Try.prog 5 #[.int .i64 768, .int .u32 v] w fun e w' => e = .returned (.bool true) ∧ Below w.heap.size w w' := by
  have hb : Below w.heap.size w w := Below.refl _ _
  have hz : (bits .andNot .u32 A v != 0) = false := by rw [hA.out]; rfl
  go_enter Try.func5, Try.ntmps5
  go_wp2_with (first
    | (go_at_call 9; refine (from_ (first6_any _) hb).mono ?_; clear hb; rintro e w1 ⟨rfl, hb⟩)
    | (go_at_call 10; refine (from_ (new_any _ _) hb).mono ?_; clear hb; rintro e w2 ⟨rfl, hb⟩; unfold fileCells W.fnew))
  have hL := Ls.start (W.fnew 1) hb
  clear hb
  refine (set_g 768 v true ⟨3, 0, A, 0, 0, 0, 0, 0, 0, 0, 1⟩ (by exact hL) (by rfl) (by have h := h1.out; unfold W.fset; simp [W.fnew, h])).mono ?_
  clear hL; rintro e w3 ⟨rfl, hL, hg⟩
  go_wp2_with fail
  refine (get_g 768 A true (by exact hL) (by rfl) (by rfl)).mono ?_
  rintro e w4 ⟨rfl, rfl⟩
  go_wp2_with fail
  refine (set_g 768 A true ⟨3, 0, A, 0, 0, 0, 0, 0, 0, 0, 1⟩ (by exact hL) (by rfl) (by have h := h2.out; unfold W.fset; simp [h])).mono ?_
  clear hL; rintro e w5 ⟨rfl, hL, hg⟩
  go_wp2_with fail
  refine (get_g 768 A true (by exact hL) (by rfl) (by rfl)).mono ?_
  rintro e w6 ⟨rfl, rfl⟩
  go_wp2_with fail
  refine (set_g 768 0 true ⟨3, 0, 0, 0, 0, 0, 0, 0, 0, 0, 1⟩ (by exact hL) (by rfl) (by kernel_rfl)).mono ?_
  clear hL; rintro e w7 ⟨rfl, hL, hg⟩
  go_wp2_with fail
  refine (return_g 0 ⟨0, 0, 128, 0, 0, 0, 0, 0, 0, 0, 1⟩ (by exact hL) (by rfl) (by kernel_rfl)).mono ?_
  clear hL; rintro e w8 ⟨rfl, hL, hg⟩
  go_wp2_with fail
  refine (get_g 768 0 false (by exact hL) (by rfl) (by rfl)).mono ?_
  rintro e w9 ⟨rfl, rfl⟩
  go_wp2_with fail
  refine (mode_g 0 (by exact hL) (by rfl)).mono ?_
  rintro e w10 ⟨rfl, rfl⟩
  go_wp2_with fail
  refine (set_l 768 v (by exact hL)).mono ?_
  clear hL; rintro e w11 ⟨rfl, hL, hg⟩
  rw [show W.setB _ 768 = false from rfl]
  go_wp2
  go_ret
  exact ⟨rfl, hL.bel⟩


set_option maxHeartbeats 1600000 in
theorem user_772 (v A : Int) (h1 : Hid (bits .and .u32 v 8 = A)) (h2 : Hid (bits .and .u32 A 8 = A)) (hA : Hid (bits .andNot .u32 A v = 0)) (w : World) : Calls Try.prog 5 #[.int .i64 772, .int .u32 v] w fun e w' => e = .returned (.bool true) ∧ Below w.heap.size w w' := by
  have hb : Below w.heap.size w w := Below.refl _ _
  have hz : (bits .andNot .u32 A v != 0) = false := by rw [hA.out]; rfl
  go_enter Try.func5, Try.ntmps5
  go_wp2_with (first
    | (go_at_call 9; refine (from_ (first6_any _) hb).mono ?_; clear hb; rintro e w1 ⟨rfl, hb⟩)
    | (go_at_call 10; refine (from_ (new_any _ _) hb).mono ?_; clear hb; rintro e w2 ⟨rfl, hb⟩; unfold fileCells W.fnew))
  have hL := Ls.start (W.fnew 1) hb
  clear hb
  refine (set_g 772 v true ⟨3, 0, 0, A, 0, 0, 0, 0, 0, 0, 1⟩ (by exact hL) (by rfl) (by have h := h1.out; unfold W.fset; simp [W.fnew, h])).mono ?_
  clear hL; rintro e w3 ⟨rfl, hL, hg⟩
  go_wp2_with fail
  refine (get_g 772 A true (by exact hL) (by rfl) (by rfl)).mono ?_
  rintro e w4 ⟨rfl, rfl⟩
  go_wp2_with fail
  refine (set_g 772 A true ⟨3, 0, 0, A, 0, 0, 0, 0, 0, 0, 1⟩ (by exact hL) (by rfl) (by have h := h2.out; unfold W.fset; simp [h])).mono ?_
  clear hL; rintro e w5 ⟨rfl, hL, hg⟩
  go_wp2_with fail
  refine (get_g 772 A true (by exact hL) (by rfl) (by rfl)).mono ?_
  rintro e w6 ⟨rfl, rfl⟩
  go_wp2_with fail
  refine (set_g 768 0 true ⟨3, 0, 0, A, 0, 0, 0, 0, 0, 0, 1⟩ (by exact hL) (by rfl) (by kernel_rfl)).mono ?_
  clear hL; rintro e w7 ⟨rfl, hL, hg⟩
  go_wp2_with fail
  refine (return_g 0 ⟨0, 0, 128, A, 0, 0, 0, 0, 0, 0, 1⟩ (by exact hL) (by rfl) (by kernel_rfl)).mono ?_
  clear hL; rintro e w8 ⟨rfl, hL, hg⟩
  go_wp2_with fail
  refine (get_g 772 0 false (by exact hL) (by rfl) (by rfl)).mono ?_
  rintro e w9 ⟨rfl, rfl⟩
  go_wp2_with fail
  refine (mode_g 0 (by exact hL) (by rfl)).mono ?_
  rintro e w10 ⟨rfl, rfl⟩
  go_wp2_with fail
  refine (set_l 772 v (by exact hL)).mono ?_
  clear hL; rintro e w11 ⟨rfl, hL, hg⟩
  rw [show W.setB _ 772 = false from rfl]
  go_wp2
  go_ret
  exact ⟨rfl, hL.bel⟩


set_option maxHeartbeats 1600000 in
theorem user_773 (v A : Int) (h1 : Hid (W.algn v = A)) (h2 : Hid (W.algn A = A)) (hA : Hid (bits .andNot .u32 A v = 0)) (w : World) : Calls Try.prog 5 #[.int .i64 773, .int .u32 v] w fun e w' => e = .returned (.bool true) ∧ Below w.heap.size w w' := by
  have hb : Below w.heap.size w w := Below.refl _ _
  have hz : (bits .andNot .u32 A v != 0) = false := by rw [hA.out]; rfl
  go_enter Try.func5, Try.ntmps5
  go_wp2_with (first
    | (go_at_call 9; refine (from_ (first6_any _) hb).mono ?_; clear hb; rintro e w1 ⟨rfl, hb⟩)
    | (go_at_call 10; refine (from_ (new_any _ _) hb).mono ?_; clear hb; rintro e w2 ⟨rfl, hb⟩; unfold fileCells W.fnew))
  have hL := Ls.start (W.fnew 1) hb
  clear hb
  refine (set_g 773 v true ⟨3, 0, 0, 0, A, 0, 0, 0, 0, 0, 1⟩ (by exact hL) (by rfl) (by have h := h1.out; unfold W.fset; simp [W.fnew, h])).mono ?_
  clear hL; rintro e w3 ⟨rfl, hL, hg⟩
  go_wp2_with fail
  refine (get_g 773 A true (by exact hL) (by rfl) (by rfl)).mono ?_
  rintro e w4 ⟨rfl, rfl⟩
  go_wp2_with fail
  refine (set_g 773 A true ⟨3, 0, 0, 0, A, 0, 0, 0, 0, 0, 1⟩ (by exact hL) (by rfl) (by have h := h2.out; unfold W.fset; simp [h])).mono ?_
  clear hL; rintro e w5 ⟨rfl, hL, hg⟩
  go_wp2_with fail
  refine (get_g 773 A true (by exact hL) (by rfl) (by rfl)).mono ?_
  rintro e w6 ⟨rfl, rfl⟩
  go_wp2_with fail
  refine (set_g 768 0 true ⟨3, 0, 0, 0, A, 0, 0, 0, 0, 0, 1⟩ (by exact hL) (by rfl) (by kernel_rfl)).mono ?_
  clear hL; rintro e w7 ⟨rfl, hL, hg⟩
  go_wp2_with fail
  refine (return_g 0 ⟨0, 0, 128, 0, A, 0, 0, 0, 0, 0, 1⟩ (by exact hL) (by rfl) (by kernel_rfl)).mono ?_
  clear hL; rintro e w8 ⟨rfl, hL, hg⟩
  go_wp2_with fail
  refine (get_g 773 0 false (by exact hL) (by rfl) (by rfl)).mono ?_
  rintro e w9 ⟨rfl, rfl⟩
  go_wp2_with fail
  refine (mode_g 0 (by exact hL) (by rfl)).mono ?_
  rintro e w10 ⟨rfl, rfl⟩
  go_wp2_with fail
  refine (set_l 773 v (by exact hL)).mono ?_
  clear hL; rintro e w11 ⟨rfl, hL, hg⟩
  rw [show W.setB _ 773 = false from rfl]
  go_wp2
  go_ret
  exact ⟨rfl, hL.bel⟩


set_option maxHeartbeats 1600000 in
theorem user_832 (v : Int) (hA : Hid (bits .andNot .u32 v v = 0)) (w : World) : Calls Try.prog 5 #[.int .i64 832, .int .u32 v] w fun e w' => e = .returned (.bool true) ∧ Below w.heap.size w w' := by
  have hb : Below w.heap.size w w := Below.refl _ _
  have hz : (bits .andNot .u32 v v != 0) = false := by rw [hA.out]; rfl
  go_enter Try.func5, Try.ntmps5
  go_wp2_with (first
    | (go_at_call 9; refine (from_ (first6_any _) hb).mono ?_; clear hb; rintro e w1 ⟨rfl, hb⟩)
    | (go_at_call 10; refine (from_ (new_any _ _) hb).mono ?_; clear hb; rintro e w2 ⟨rfl, hb⟩; unfold fileCells W.fnew))
  have hL := Ls.start (W.fnew 1) hb
  clear hb
  refine (set_g 832 v true ⟨3, 0, 0, 0, 0, v, 0, 0, 0, 0, 1⟩ (by exact hL) (by rfl) (by rfl)).mono ?_
  clear hL; rintro e w3 ⟨rfl, hL, hg⟩
  go_wp2_with fail
  refine (get_g 832 v true (by exact hL) (by rfl) (by rfl)).mono ?_
  rintro e w4 ⟨rfl, rfl⟩
  go_wp2_with fail
  refine (set_g 832 v true ⟨3, 0, 0, 0, 0, v, 0, 0, 0, 0, 1⟩ (by exact hL) (by rfl) (by rfl)).mono ?_
  clear hL; rintro e w5 ⟨rfl, hL, hg⟩
  go_wp2_with fail
  refine (get_g 832 v true (by exact hL) (by rfl) (by rfl)).mono ?_
  rintro e w6 ⟨rfl, rfl⟩
  go_wp2_with fail
  refine (set_g 768 0 true ⟨3, 0, 0, 0, 0, v, 0, 0, 0, 0, 1⟩ (by exact hL) (by rfl) (by kernel_rfl)).mono ?_
  clear hL; rintro e w7 ⟨rfl, hL, hg⟩
  go_wp2_with fail
  refine (return_g 0 ⟨0, 0, 128, 0, 0, v, 0, 0, 0, 0, 1⟩ (by exact hL) (by rfl) (by kernel_rfl)).mono ?_
  clear hL; rintro e w8 ⟨rfl, hL, hg⟩
  go_wp2_with fail
  refine (get_g 832 0 false (by exact hL) (by rfl) (by rfl)).mono ?_
  rintro e w9 ⟨rfl, rfl⟩
  go_wp2_with fail
  refine (mode_g 0 (by exact hL) (by rfl)).mono ?_
  rintro e w10 ⟨rfl, rfl⟩
  go_wp2_with fail
  refine (set_l 832 v (by exact hL)).mono ?_
  clear hL; rintro e w11 ⟨rfl, hL, hg⟩
  rw [show W.setB _ 832 = false from rfl]
  go_wp2
  go_ret
  exact ⟨rfl, hL.bel⟩


set_option maxHeartbeats 1600000 in
theorem user_833 (v A : Int) (h1 : Hid (W.algn v = A)) (h2 : Hid (W.algn A = A)) (hA : Hid (bits .andNot .u32 A v = 0)) (w : World) : Calls Try.prog 5 #[.int .i64 833, .int .u32 v] w fun e w' => e = .returned (.bool true) ∧ Below w.heap.size w w' := by
  have hb : Below w.heap.size w w := Below.refl _ _
  have hz : (bits .andNot .u32 A v != 0) = false := by rw [hA.out]; rfl
  go_enter Try.func5, Try.ntmps5
  go_wp2_with (first
    | (go_at_call 9; refine (from_ (first6_any _) hb).mono ?_; clear hb; rintro e w1 ⟨rfl, hb⟩)
    | (go_at_call 10; refine (from_ (new_any _ _) hb).mono ?_; clear hb; rintro e w2 ⟨rfl, hb⟩; unfold fileCells W.fnew))
  have hL := Ls.start (W.fnew 1) hb
  clear hb
  refine (set_g 833 v true ⟨3, 0, 0, 0, 0, 0, A, 0, 0, 0, 1⟩ (by exact hL) (by rfl) (by have h := h1.out; unfold W.fset; simp [W.fnew, h])).mono ?_
  clear hL; rintro e w3 ⟨rfl, hL, hg⟩
  go_wp2_with fail
  refine (get_g 833 A true (by exact hL) (by rfl) (by rfl)).mono ?_
  rintro e w4 ⟨rfl, rfl⟩
  go_wp2_with fail
  refine (set_g 833 A true ⟨3, 0, 0, 0, 0, 0, A, 0, 0, 0, 1⟩ (by exact hL) (by rfl) (by have h := h2.out; unfold W.fset; simp [h])).mono ?_
  clear hL; rintro e w5 ⟨rfl, hL, hg⟩
  go_wp2_with fail
  refine (get_g 833 A true (by exact hL) (by rfl) (by rfl)).mono ?_
  rintro e w6 ⟨rfl, rfl⟩
  go_wp2_with fail
  refine (set_g 768 0 true ⟨3, 0, 0, 0, 0, 0, A, 0, 0, 0, 1⟩ (by exact hL) (by rfl) (by kernel_rfl)).mono ?_
  clear hL; rintro e w7 ⟨rfl, hL, hg⟩
  go_wp2_with fail
  refine (return_g A ⟨0, 0, 128, 0, 0, 0, A, 0, 0, 0, 1⟩ (by exact hL) (by rfl) (by kernel_rfl)).mono ?_
  clear hL; rintro e w8 ⟨rfl, hL, hg⟩
  go_wp2_with fail
  refine (get_g 833 0 false (by exact hL) (by rfl) (by rfl)).mono ?_
  rintro e w9 ⟨rfl, rfl⟩
  go_wp2_with fail
  refine (mode_g 0 (by exact hL) (by rfl)).mono ?_
  rintro e w10 ⟨rfl, rfl⟩
  go_wp2_with fail
  refine (set_l 833 v (by exact hL)).mono ?_
  clear hL; rintro e w11 ⟨rfl, hL, hg⟩
  rw [show W.setB _ 833 = false from rfl]
  go_wp2
  go_ret
  exact ⟨rfl, hL.bel⟩


set_option maxHeartbeats 1600000 in
theorem user_834 (v : Int) (hA : Hid (bits .andNot .u32 v v = 0)) (w : World) : Calls Try.prog 5 #[.int .i64 834, .int .u32 v] w fun e w' => e = .returned (.bool true) ∧ Below w.heap.size w w' := by
  have hb : Below w.heap.size w w := Below.refl _ _
  have hz : (bits .andNot .u32 v v != 0) = false := by rw [hA.out]; rfl
  go_enter Try.func5, Try.ntmps5
  go_wp2_with (first
    | (go_at_call 9; refine (from_ (first6_any _) hb).mono ?_; clear hb; rintro e w1 ⟨rfl, hb⟩)
    | (go_at_call 10; refine (from_ (new_any _ _) hb).mono ?_; clear hb; rintro e w2 ⟨rfl, hb⟩; unfold fileCells W.fnew))
  have hL := Ls.start (W.fnew 1) hb
  clear hb
  refine (set_g 834 v true ⟨3, 0, 0, 0, 0, 0, 0, v, 0, 0, 1⟩ (by exact hL) (by rfl) (by rfl)).mono ?_
  clear hL; rintro e w3 ⟨rfl, hL, hg⟩
  go_wp2_with fail
  refine (get_g 834 v true (by exact hL) (by rfl) (by rfl)).mono ?_
  rintro e w4 ⟨rfl, rfl⟩
  go_wp2_with fail
  refine (set_g 834 v true ⟨3, 0, 0, 0, 0, 0, 0, v, 0, 0, 1⟩ (by exact hL) (by rfl) (by rfl)).mono ?_
  clear hL; rintro e w5 ⟨rfl, hL, hg⟩
  go_wp2_with fail
  refine (get_g 834 v true (by exact hL) (by rfl) (by rfl)).mono ?_
  rintro e w6 ⟨rfl, rfl⟩
  go_wp2_with fail
  refine (set_g 768 0 true ⟨3, 0, 0, 0, 0, 0, 0, v, 0, 0, 1⟩ (by exact hL) (by rfl) (by kernel_rfl)).mono ?_
  clear hL; rintro e w7 ⟨rfl, hL, hg⟩
  go_wp2_with fail
  refine (return_g 0 ⟨0, 0, 128, 0, 0, 0, 0, v, 0, 0, 1⟩ (by exact hL) (by rfl) (by kernel_rfl)).mono ?_
  clear hL; rintro e w8 ⟨rfl, hL, hg⟩
  go_wp2_with fail
  refine (get_g 834 0 false (by exact hL) (by rfl) (by rfl)).mono ?_
  rintro e w9 ⟨rfl, rfl⟩
  go_wp2_with fail
  refine (mode_g 0 (by exact hL) (by rfl)).mono ?_
  rintro e w10 ⟨rfl, rfl⟩
  go_wp2_with fail
  refine (set_l 834 v (by exact hL)).mono ?_
  clear hL; rintro e w11 ⟨rfl, hL, hg⟩
  rw [show W.setB _ 834 = false from rfl]
  go_wp2
  go_ret
  exact ⟨rfl, hL.bel⟩


set_option maxHeartbeats 1600000 in
theorem user_835 (v : Int) (hA : Hid (bits .andNot .u32 v v = 0)) (w : World) : Calls Try.prog 5 #[.int .i64 835, .int .u32 v] w fun e w' => e = .returned (.bool true) ∧ Below w.heap.size w w' := by
  have hb : Below w.heap.size w w := Below.refl _ _
  have hz : (bits .andNot .u32 v v != 0) = false := by rw [hA.out]; rfl
  go_enter Try.func5, Try.ntmps5
  go_wp2_with (first
    | (go_at_call 9; refine (from_ (first6_any _) hb).mono ?_; clear hb; rintro e w1 ⟨rfl, hb⟩)
    | (go_at_call 10; refine (from_ (new_any _ _) hb).mono ?_; clear hb; rintro e w2 ⟨rfl, hb⟩; unfold fileCells W.fnew))
  have hL := Ls.start (W.fnew 1) hb
  clear hb
  refine (set_g 835 v true ⟨3, 0, 0, 0, 0, 0, 0, 0, v, 0, 1⟩ (by exact hL) (by rfl) (by rfl)).mono ?_
  clear hL; rintro e w3 ⟨rfl, hL, hg⟩
  go_wp2_with fail
  refine (get_g 835 v true (by exact hL) (by rfl) (by rfl)).mono ?_
  rintro e w4 ⟨rfl, rfl⟩
  go_wp2_with fail
  refine (set_g 835 v true ⟨3, 0, 0, 0, 0, 0, 0, 0, v, 0, 1⟩ (by exact hL) (by rfl) (by rfl)).mono ?_
  clear hL; rintro e w5 ⟨rfl, hL, hg⟩
  go_wp2_with fail
  refine (get_g 835 v true (by exact hL) (by rfl) (by rfl)).mono ?_
  rintro e w6 ⟨rfl, rfl⟩
  go_wp2_with fail
  refine (set_g 768 0 true ⟨3, 0, 0, 0, 0, 0, 0, 0, v, 0, 1⟩ (by exact hL) (by rfl) (by kernel_rfl)).mono ?_
  clear hL; rintro e w7 ⟨rfl, hL, hg⟩
  go_wp2_with fail
  refine (return_g 0 ⟨0, 0, 128, 0, 0, 0, 0, 0, v, 0, 1⟩ (by exact hL) (by rfl) (by kernel_rfl)).mono ?_
  clear hL; rintro e w8 ⟨rfl, hL, hg⟩
  go_wp2_with fail
  refine (get_g 835 0 false (by exact hL) (by rfl) (by rfl)).mono ?_
  rintro e w9 ⟨rfl, rfl⟩
  go_wp2_with fail
  refine (mode_g 0 (by exact hL) (by rfl)).mono ?_
  rintro e w10 ⟨rfl, rfl⟩
  go_wp2_with fail
  refine (set_l 835 v (by exact hL)).mono ?_
  clear hL; rintro e w11 ⟨rfl, hL, hg⟩
  rw [show W.setB _ 835 = false from rfl]
  go_wp2
  go_ret
  exact ⟨rfl, hL.bel⟩


set_option maxHeartbeats 1600000 in
theorem user_836 (v : Int) (hA : Hid (bits .andNot .u32 0 v = 0)) (w : World) : Calls Try.prog 5 #[.int .i64 836, .int .u32 v] w fun e w' => e = .returned (.bool true) ∧ Below w.heap.size w w' := by
  have hb : Below w.heap.size w w := Below.refl _ _
  have hz : (bits .andNot .u32 0 v != 0) = false := by rw [hA.out]; rfl
  go_enter Try.func5, Try.ntmps5
  go_wp2_with (first
    | (go_at_call 9; refine (from_ (first6_any _) hb).mono ?_; clear hb; rintro e w1 ⟨rfl, hb⟩)
    | (go_at_call 10; refine (from_ (new_any _ _) hb).mono ?_; clear hb; rintro e w2 ⟨rfl, hb⟩; unfold fileCells W.fnew))
  have hL := Ls.start (W.fnew 1) hb
  clear hb
  refine (set_g 836 v true ⟨3, 0, 0, 0, 0, 0, 0, 0, 0, 0, 1⟩ (by exact hL) (by rfl) (by rfl)).mono ?_
  clear hL; rintro e w3 ⟨rfl, hL, hg⟩
  go_wp2_with fail
  refine (get_g 836 0 true (by exact hL) (by rfl) (by rfl)).mono ?_
  rintro e w4 ⟨rfl, rfl⟩
  go_wp2_with fail
  refine (set_g 836 0 true ⟨3, 0, 0, 0, 0, 0, 0, 0, 0, 0, 1⟩ (by exact hL) (by rfl) (by rfl)).mono ?_
  clear hL; rintro e w5 ⟨rfl, hL, hg⟩
  go_wp2_with fail
  refine (get_g 836 0 true (by exact hL) (by rfl) (by rfl)).mono ?_
  rintro e w6 ⟨rfl, rfl⟩
  go_wp2_with fail
  refine (set_g 768 0 true ⟨3, 0, 0, 0, 0, 0, 0, 0, 0, 0, 1⟩ (by exact hL) (by rfl) (by kernel_rfl)).mono ?_
  clear hL; rintro e w7 ⟨rfl, hL, hg⟩
  go_wp2_with fail
  refine (return_g 0 ⟨0, 0, 128, 0, 0, 0, 0, 0, 0, 0, 1⟩ (by exact hL) (by rfl) (by kernel_rfl)).mono ?_
  clear hL; rintro e w8 ⟨rfl, hL, hg⟩
  go_wp2_with fail
  refine (get_g 836 0 false (by exact hL) (by rfl) (by rfl)).mono ?_
  rintro e w9 ⟨rfl, rfl⟩
  go_wp2_with fail
  refine (mode_g 0 (by exact hL) (by rfl)).mono ?_
  rintro e w10 ⟨rfl, rfl⟩
  go_wp2_with fail
  refine (set_l 836 v (by exact hL)).mono ?_
  clear hL; rintro e w11 ⟨rfl, hL, hg⟩
  rw [show W.setB _ 836 = false from rfl]
  go_wp2
  go_ret
  exact ⟨rfl, hL.bel⟩


set_option maxHeartbeats 1600000 in
theorem user_3860t (v : Int) (hz : (bits .andNot .u32 1 v != 0) = true) (w : World) : Calls Try.prog 5 #[.int .i64 3860, .int .u32 v] w fun e w' => e = .returned (.bool true) ∧ Below w.heap.size w w' := by
  have hb : Below w.heap.size w w := Below.refl _ _
  go_enter Try.func5, Try.ntmps5
  go_wp2_with (first
    | (go_at_call 9; refine (from_ (first6_any _) hb).mono ?_; clear hb; rintro e w1 ⟨rfl, hb⟩)
    | (go_at_call 10; refine (from_ (new_any _ _) hb).mono ?_; clear hb; rintro e w2 ⟨rfl, hb⟩; unfold fileCells W.fnew))
  have hL := Ls.start (W.fnew 1) hb
  clear hb
  refine (set_g 3860 v false ⟨3, 0, 0, 0, 0, 0, 0, 0, 0, 0, 1⟩ (by exact hL) (by rfl) (by rfl)).mono ?_
  clear hL; rintro e w3 ⟨rfl, hL, hg⟩
  go_wp2_with fail
  refine (get_g 3860 1 true (by exact hL) (by rfl) (by rfl)).mono ?_
  rintro e w4 ⟨rfl, rfl⟩
  go_wp2_with fail
  refine (set_g 3860 1 false ⟨3, 0, 0, 0, 0, 0, 0, 0, 0, 0, 1⟩ (by exact hL) (by rfl) (by rfl)).mono ?_
  clear hL; rintro e w5 ⟨rfl, hL, hg⟩
  go_wp2_with fail
  refine (get_g 3860 1 true (by exact hL) (by rfl) (by rfl)).mono ?_
  rintro e w6 ⟨rfl, rfl⟩
  go_wp2_with fail
  refine (set_g 768 0 true ⟨3, 0, 0, 0, 0, 0, 0, 0, 0, 0, 1⟩ (by exact hL) (by rfl) (by kernel_rfl)).mono ?_
  clear hL; rintro e w7 ⟨rfl, hL, hg⟩
  go_wp2_with fail
  refine (return_g 0 ⟨0, 0, 128, 0, 0, 0, 0, 0, 0, 0, 1⟩ (by exact hL) (by rfl) (by kernel_rfl)).mono ?_
  clear hL; rintro e w8 ⟨rfl, hL, hg⟩
  go_wp2_with fail
  refine (get_g 3860 0 false (by exact hL) (by rfl) (by rfl)).mono ?_
  rintro e w9 ⟨rfl, rfl⟩
  go_wp2_with fail
  refine (mode_g 0 (by exact hL) (by rfl)).mono ?_
  rintro e w10 ⟨rfl, rfl⟩
  go_wp2_with fail
  refine (set_l 3860 v (by exact hL)).mono ?_
  clear hL; rintro e w11 ⟨rfl, hL, hg⟩
  rw [show W.setB _ 3860 = false from rfl]
  go_wp2
  go_ret
  exact ⟨rfl, hL.bel⟩


set_option maxHeartbeats 1600000 in
theorem user_3860f (v : Int) (hz : (bits .andNot .u32 1 v != 0) = false) (w : World) : Calls Try.prog 5 #[.int .i64 3860, .int .u32 v] w fun e w' => e = .returned (.bool true) ∧ Below w.heap.size w w' := by
  have hb : Below w.heap.size w w := Below.refl _ _
  go_enter Try.func5, Try.ntmps5
  go_wp2_with (first
    | (go_at_call 9; refine (from_ (first6_any _) hb).mono ?_; clear hb; rintro e w1 ⟨rfl, hb⟩)
    | (go_at_call 10; refine (from_ (new_any _ _) hb).mono ?_; clear hb; rintro e w2 ⟨rfl, hb⟩; unfold fileCells W.fnew))
  have hL := Ls.start (W.fnew 1) hb
  clear hb
  refine (set_g 3860 v false ⟨3, 0, 0, 0, 0, 0, 0, 0, 0, 0, 1⟩ (by exact hL) (by rfl) (by rfl)).mono ?_
  clear hL; rintro e w3 ⟨rfl, hL, hg⟩
  go_wp2_with fail
  refine (get_g 3860 1 true (by exact hL) (by rfl) (by rfl)).mono ?_
  rintro e w4 ⟨rfl, rfl⟩
  go_wp2_with fail
  refine (set_g 3860 1 false ⟨3, 0, 0, 0, 0, 0, 0, 0, 0, 0, 1⟩ (by exact hL) (by rfl) (by rfl)).mono ?_
  clear hL; rintro e w5 ⟨rfl, hL, hg⟩
  go_wp2_with fail
  refine (get_g 3860 1 true (by exact hL) (by rfl) (by rfl)).mono ?_
  rintro e w6 ⟨rfl, rfl⟩
  go_wp2_with fail
  refine (set_g 768 0 true ⟨3, 0, 0, 0, 0, 0, 0, 0, 0, 0, 1⟩ (by exact hL) (by rfl) (by kernel_rfl)).mono ?_
  clear hL; rintro e w7 ⟨rfl, hL, hg⟩
  go_wp2_with fail
  refine (return_g 0 ⟨0, 0, 128, 0, 0, 0, 0, 0, 0, 0, 1⟩ (by exact hL) (by rfl) (by kernel_rfl)).mono ?_
  clear hL; rintro e w8 ⟨rfl, hL, hg⟩
  go_wp2_with fail
  refine (get_g 3860 0 false (by exact hL) (by rfl) (by rfl)).mono ?_
  rintro e w9 ⟨rfl, rfl⟩
  go_wp2_with fail
  refine (mode_g 0 (by exact hL) (by rfl)).mono ?_
  rintro e w10 ⟨rfl, rfl⟩
  go_wp2_with fail
  refine (set_l 3860 v (by exact hL)).mono ?_
  clear hL; rintro e w11 ⟨rfl, hL, hg⟩
  rw [show W.setB _ 3860 = false from rfl]
  go_wp2
  go_ret
  exact ⟨rfl, hL.bel⟩


theorem no_all (n : Int) (hn : W.isReg n = false) : (n == 384) = false ∧ (n == 768) = false ∧ (n == 772) = false ∧ (n == 773) = false ∧ (n == 832) = false ∧ (n == 833) = false ∧ (n == 834) = false ∧ (n == 835) = false ∧ (n == 836) = false ∧ (n == 3860) = false := by
  simp only [W.isReg, Bool.or_eq_false_iff] at hn
  exact hn
theorem no_set (n : Int) (hn : W.isReg n = false) {G : W.F} : W.setB G n = false := by
  obtain ⟨g0, g1, g2, g3, g4, g5, g6, g7, g8, g9⟩ := no_all n hn
  simp [W.setB, W.isSet, g0, g1, g2, g3, g4, g5, g6, g7, g8]
theorem no_fset (n v : Int) (hn : W.isReg n = false) {G : W.F} : W.fset G n v = G := by
  obtain ⟨g0, g1, g2, g3, g4, g5, g6, g7, g8, g9⟩ := no_all n hn
  simp [W.fset, g0, g1, g2, g3, g4, g5, g6, g7, g8]
theorem no_get (n : Int) (hn : W.isReg n = false) {G : W.F} : W.getV G n = 0 := by
  obtain ⟨g0, g1, g2, g3, g4, g5, g6, g7, g8, g9⟩ := no_all n hn
  simp [W.getV, W.reg, g0, g1, g2, g3, g4, g5, g6, g7, g8, g9]
theorem no_getB (n : Int) (hn : W.isReg n = false) {G : W.F} : W.getB G n = false := by
  simp [W.getB, hn]


set_option maxHeartbeats 1600000 in
theorem user_none (n v : Int) (hn : W.isReg n = false) (hA : Hid (bits .andNot .u32 0 v = 0)) (w : World) : Calls Try.prog 5 #[.int .i64 n, .int .u32 v] w fun e w' => e = .returned (.bool true) ∧ Below w.heap.size w w' := by
  have hb : Below w.heap.size w w := Below.refl _ _
  have hz : (bits .andNot .u32 0 v != 0) = false := by rw [hA.out]; rfl
  have g9 : (n == 3860) = false := (no_all n hn).2.2.2.2.2.2.2.2.2
  go_enter Try.func5, Try.ntmps5
  go_wp2_with (first
    | (go_at_call 9; refine (from_ (first6_any _) hb).mono ?_; clear hb; rintro e w1 ⟨rfl, hb⟩)
    | (go_at_call 10; refine (from_ (new_any _ _) hb).mono ?_; clear hb; rintro e w2 ⟨rfl, hb⟩; unfold fileCells W.fnew))
  have hL := Ls.start (W.fnew 1) hb
  clear hb
  refine (set_g n v false (W.fnew 1) (by exact hL) (by exact no_set n hn) (by exact no_fset n v hn)).mono ?_
  clear hL; rintro e w3 ⟨rfl, hL, hg⟩
  go_wp2_with fail
  refine (get_g n 0 false (by exact hL) (by exact no_get n hn) (by exact no_getB n hn)).mono ?_
  rintro e w4 ⟨rfl, rfl⟩
  go_wp2_with fail
  refine (set_g n 0 false (W.fnew 1) (by exact hL) (by exact no_set n hn) (by exact no_fset n _ hn)).mono ?_
  clear hL; rintro e w5 ⟨rfl, hL, hg⟩
  go_wp2_with fail
  refine (get_g n 0 false (by exact hL) (by exact no_get n hn) (by exact no_getB n hn)).mono ?_
  rintro e w6 ⟨rfl, rfl⟩
  go_wp2_with fail
  refine (set_g 768 0 true ⟨3, 0, 0, 0, 0, 0, 0, 0, 0, 0, 1⟩ (by exact hL) (by rfl) (by kernel_rfl)).mono ?_
  clear hL; rintro e w7 ⟨rfl, hL, hg⟩
  go_wp2_with fail
  refine (return_g 0 ⟨0, 0, 128, 0, 0, 0, 0, 0, 0, 0, 1⟩ (by exact hL) (by rfl) (by kernel_rfl)).mono ?_
  clear hL; rintro e w8 ⟨rfl, hL, hg⟩
  go_wp2_with fail
  refine (get_g n 0 false (by exact hL) (by rfl) (by rfl)).mono ?_
  rintro e w9 ⟨rfl, rfl⟩
  go_wp2_with fail
  refine (mode_g 0 (by exact hL) (by rfl)).mono ?_
  rintro e w10 ⟨rfl, rfl⟩
  go_wp2_with fail
  refine (set_l n v (by exact hL)).mono ?_
  clear hL; rintro e w11 ⟨rfl, hL, hg⟩
  rw [show W.setB _ n = false from rfl]
  go_wp2
  go_ret
  exact ⟨rfl, hL.bel⟩


theorem csruser_go (n v : Int) (n0 : -9223372036854775808 ≤ n) (n1 : n ≤ 9223372036854775807) (v0 : 0 ≤ v) (v1 : v < 4294967296) (w : World) : Calls Try.prog 5 #[.int .i64 n, .int .u32 v] w fun e w' => e = .returned (.bool true) ∧ Below w.heap.size w w' := by
  have z : bits .andNot .u32 0 v = 0 := by
    rw [u32_andNot 0 v (by decide) (by decide) v0 v1]; simp
  have sf := W.off_self v v0 v1
  have al : ∀ A, W.algn v = A → W.algn A = A ∧ bits .andNot .u32 A v = 0 := by
    rintro A rfl
    have e := W.algn_eq v v0 v1
    refine ⟨by rw [W.algn_eq (W.algn v) (by omega) (by omega)]; omega, ?_⟩
    rw [e, ← W.and_fc v v0 v1]
    exact W.off_and v _ v0 v1 (by decide) (by decide)
  cases hn : W.isReg n
  case false => exact user_none n v hn z w
  simp only [W.isReg, Bool.or_eq_true, beq_iff_eq] at hn
  rcases hn with rfl | rfl | rfl | rfl | rfl | rfl | rfl | rfl | rfl | rfl
  · have e := W.and_satp v v0 v1
    exact user_384 v _ rfl (by rw [W.and_satp (bits .and .u32 v 2151677951) (by omega) (by omega)]; show _ = bits .and .u32 v 2151677951; omega) (W.off_and v _ v0 v1 (by decide) (by decide)) w
  · have h := W.st_kept v v0 v1 _ rfl
    exact user_768 v _ rfl h.1 h.2 w
  · have e := W.and_8 v v0 v1
    exact user_772 v _ rfl (by rw [W.and_8 (bits .and .u32 v 8) (by omega) (by omega)]; show _ = bits .and .u32 v 8; omega) (W.off_and v _ v0 v1 (by decide) (by decide)) w
  · exact user_773 v _ rfl (al _ rfl).1 (al _ rfl).2 w
  · exact user_832 v sf w
  · exact user_833 v _ rfl (al _ rfl).1 (al _ rfl).2 w
  · exact user_834 v sf w
  · exact user_835 v sf w
  · exact user_836 v z w
  · cases hz : (bits .andNot .u32 1 v != 0)
    · exact user_3860f v hz w
    · exact user_3860t v hz w
end Go.Proofs.Ytbagmlcakmhhaaa
