/- What the document's own calls of chapter 4 return. -/
import Derived.Test.YtheajilopplchabAluR
import Derived.Test.YtheajilopplchabRef
namespace Go.Proofs.Ytheajilopplchab
open Go.ChangeShapes Go.WideShapes Go.ChangeAt Go.RowKit
set_option linter.unusedVariables false
set_option linter.unusedSimpArgs false


theorem ramo_61 (a b : Int) (a0 : 0 ≤ a) (a1 : a < 4294967296) (b0 : 0 ≤ b) (b1 : b < 4294967296) (w : World) :
    Calls Try.prog 15 #[.int .i64 61, .int .u32 a, .int .u32 b] w fun e w' => e = .returned (.tuple #[.int .u32 (b), .bool true]) ∧ w = w' := by
  have hwb := and31u b0 b1
  go_enter Try.func15, Try.ntmps15
  go_wp2_with (first | (go_at_call 34; refine (rone_any _ _).mono ?_; rintro e w' ⟨rfl, rfl⟩) | (go_at_call 35; refine (rless_any _ _ _ _ a0 a1 b0 b1).mono ?_; rintro e w' ⟨rfl, rfl⟩) | (go_at_call 35; refine (rless_any _ _ _ _ b0 b1 a0 a1).mono ?_; rintro e w' ⟨rfl, rfl⟩) | (go_at_call 36; refine (rright_any _ _ _ _ a0 a1).mono ?_; rintro e w' ⟨rfl, rfl⟩) | (go_at_call 37; refine (rhigh_any _ _ _ _ _ a0 a1 b0 b1).mono ?_; rintro e w' ⟨rfl, rfl⟩) | (go_at_call 38; refine (rdiv_any _ _ _ _ a0 a1 b0 b1).mono ?_; rintro e w' ⟨rfl, rfl⟩) | (go_at_call 39; refine (rrem_any _ _ _ _ a0 a1 b0 b1).mono ?_; rintro e w' ⟨rfl, rfl⟩))
  exact bodyPost_ret (v := .tuple #[.int .u32 (b), .bool true]) (by simp [results, Try.results15, go_sem]) rfl ⟨rfl, rfl⟩

theorem ramo_62 (a b : Int) (a0 : 0 ≤ a) (a1 : a < 4294967296) (b0 : 0 ≤ b) (b1 : b < 4294967296) (w : World) :
    Calls Try.prog 15 #[.int .i64 62, .int .u32 a, .int .u32 b] w fun e w' => e = .returned (.tuple #[.int .u32 ((a + b) % 4294967296), .bool true]) ∧ w = w' := by
  have hwb := and31u b0 b1
  go_enter Try.func15, Try.ntmps15
  go_wp2_with (first | (go_at_call 34; refine (rone_any _ _).mono ?_; rintro e w' ⟨rfl, rfl⟩) | (go_at_call 35; refine (rless_any _ _ _ _ a0 a1 b0 b1).mono ?_; rintro e w' ⟨rfl, rfl⟩) | (go_at_call 35; refine (rless_any _ _ _ _ b0 b1 a0 a1).mono ?_; rintro e w' ⟨rfl, rfl⟩) | (go_at_call 36; refine (rright_any _ _ _ _ a0 a1).mono ?_; rintro e w' ⟨rfl, rfl⟩) | (go_at_call 37; refine (rhigh_any _ _ _ _ _ a0 a1 b0 b1).mono ?_; rintro e w' ⟨rfl, rfl⟩) | (go_at_call 38; refine (rdiv_any _ _ _ _ a0 a1 b0 b1).mono ?_; rintro e w' ⟨rfl, rfl⟩) | (go_at_call 39; refine (rrem_any _ _ _ _ a0 a1 b0 b1).mono ?_; rintro e w' ⟨rfl, rfl⟩))
  exact bodyPost_ret (v := .tuple #[.int .u32 ((a + b) % 4294967296), .bool true]) (by simp [results, Try.results15, go_sem]) rfl ⟨rfl, rfl⟩

theorem ramo_63 (a b : Int) (a0 : 0 ≤ a) (a1 : a < 4294967296) (b0 : 0 ≤ b) (b1 : b < 4294967296) (w : World) :
    Calls Try.prog 15 #[.int .i64 63, .int .u32 a, .int .u32 b] w fun e w' => e = .returned (.tuple #[.int .u32 (bits .xor .u32 a b), .bool true]) ∧ w = w' := by
  have hwb := and31u b0 b1
  go_enter Try.func15, Try.ntmps15
  go_wp2_with (first | (go_at_call 34; refine (rone_any _ _).mono ?_; rintro e w' ⟨rfl, rfl⟩) | (go_at_call 35; refine (rless_any _ _ _ _ a0 a1 b0 b1).mono ?_; rintro e w' ⟨rfl, rfl⟩) | (go_at_call 35; refine (rless_any _ _ _ _ b0 b1 a0 a1).mono ?_; rintro e w' ⟨rfl, rfl⟩) | (go_at_call 36; refine (rright_any _ _ _ _ a0 a1).mono ?_; rintro e w' ⟨rfl, rfl⟩) | (go_at_call 37; refine (rhigh_any _ _ _ _ _ a0 a1 b0 b1).mono ?_; rintro e w' ⟨rfl, rfl⟩) | (go_at_call 38; refine (rdiv_any _ _ _ _ a0 a1 b0 b1).mono ?_; rintro e w' ⟨rfl, rfl⟩) | (go_at_call 39; refine (rrem_any _ _ _ _ a0 a1 b0 b1).mono ?_; rintro e w' ⟨rfl, rfl⟩))
  exact bodyPost_ret (v := .tuple #[.int .u32 (bits .xor .u32 a b), .bool true]) (by simp [results, Try.results15, go_sem]) rfl ⟨rfl, rfl⟩

theorem ramo_64 (a b : Int) (a0 : 0 ≤ a) (a1 : a < 4294967296) (b0 : 0 ≤ b) (b1 : b < 4294967296) (w : World) :
    Calls Try.prog 15 #[.int .i64 64, .int .u32 a, .int .u32 b] w fun e w' => e = .returned (.tuple #[.int .u32 (bits .and .u32 a b), .bool true]) ∧ w = w' := by
  have hwb := and31u b0 b1
  go_enter Try.func15, Try.ntmps15
  go_wp2_with (first | (go_at_call 34; refine (rone_any _ _).mono ?_; rintro e w' ⟨rfl, rfl⟩) | (go_at_call 35; refine (rless_any _ _ _ _ a0 a1 b0 b1).mono ?_; rintro e w' ⟨rfl, rfl⟩) | (go_at_call 35; refine (rless_any _ _ _ _ b0 b1 a0 a1).mono ?_; rintro e w' ⟨rfl, rfl⟩) | (go_at_call 36; refine (rright_any _ _ _ _ a0 a1).mono ?_; rintro e w' ⟨rfl, rfl⟩) | (go_at_call 37; refine (rhigh_any _ _ _ _ _ a0 a1 b0 b1).mono ?_; rintro e w' ⟨rfl, rfl⟩) | (go_at_call 38; refine (rdiv_any _ _ _ _ a0 a1 b0 b1).mono ?_; rintro e w' ⟨rfl, rfl⟩) | (go_at_call 39; refine (rrem_any _ _ _ _ a0 a1 b0 b1).mono ?_; rintro e w' ⟨rfl, rfl⟩))
  exact bodyPost_ret (v := .tuple #[.int .u32 (bits .and .u32 a b), .bool true]) (by simp [results, Try.results15, go_sem]) rfl ⟨rfl, rfl⟩

theorem ramo_65 (a b : Int) (a0 : 0 ≤ a) (a1 : a < 4294967296) (b0 : 0 ≤ b) (b1 : b < 4294967296) (w : World) :
    Calls Try.prog 15 #[.int .i64 65, .int .u32 a, .int .u32 b] w fun e w' => e = .returned (.tuple #[.int .u32 (bits .or .u32 a b), .bool true]) ∧ w = w' := by
  have hwb := and31u b0 b1
  go_enter Try.func15, Try.ntmps15
  go_wp2_with (first | (go_at_call 34; refine (rone_any _ _).mono ?_; rintro e w' ⟨rfl, rfl⟩) | (go_at_call 35; refine (rless_any _ _ _ _ a0 a1 b0 b1).mono ?_; rintro e w' ⟨rfl, rfl⟩) | (go_at_call 35; refine (rless_any _ _ _ _ b0 b1 a0 a1).mono ?_; rintro e w' ⟨rfl, rfl⟩) | (go_at_call 36; refine (rright_any _ _ _ _ a0 a1).mono ?_; rintro e w' ⟨rfl, rfl⟩) | (go_at_call 37; refine (rhigh_any _ _ _ _ _ a0 a1 b0 b1).mono ?_; rintro e w' ⟨rfl, rfl⟩) | (go_at_call 38; refine (rdiv_any _ _ _ _ a0 a1 b0 b1).mono ?_; rintro e w' ⟨rfl, rfl⟩) | (go_at_call 39; refine (rrem_any _ _ _ _ a0 a1 b0 b1).mono ?_; rintro e w' ⟨rfl, rfl⟩))
  exact bodyPost_ret (v := .tuple #[.int .u32 (bits .or .u32 a b), .bool true]) (by simp [results, Try.results15, go_sem]) rfl ⟨rfl, rfl⟩

theorem ramo_none (op a b : Int) (a0 : 0 ≤ a) (a1 : a < 4294967296) (b0 : 0 ≤ b) (b1 : b < 4294967296) (h : W.amoB op = false) (w : World) :
    Calls Try.prog 15 #[.int .i64 op, .int .u32 a, .int .u32 b] w fun e w' => e = .returned (.tuple #[.int .u32 0, .bool false]) ∧ w = w' := by
  obtain ⟨h61, h62, h63, h64, h65, h66, h67, h68, h69⟩ := W.amoB_none h
  have H : Hid (W.amoB op = false) := h
  clear h
  go_enter Try.func15, Try.ntmps15
  go_wp2
  exact bodyPost_ret (v := .tuple #[.int .u32 0, .bool false]) (by simp [results, Try.results15, go_sem]) rfl ⟨rfl, rfl⟩

theorem ramo_66 (a b : Int) (a0 : 0 ≤ a) (a1 : a < 4294967296) (b0 : 0 ≤ b) (b1 : b < 4294967296) (w : World) :
    Calls Try.prog 15 #[.int .i64 66, .int .u32 a, .int .u32 b] w fun e w' => e = .returned (.tuple #[.int .u32 (W.least a b true), .bool true]) ∧ w = w' := by
  cases h : W.less b a true
  all_goals
    have hv : Hid (W.least a b true = bif W.less b a true then b else a) := (rfl : W.least a b true = _)
    go_enter Try.func15, Try.ntmps15
    go_wp2_with (go_at_call 35; refine (rless_any _ _ _ _ b0 b1 a0 a1).mono ?_; rintro e w' ⟨rfl, rfl⟩)
    first
      | exact bodyPost_ret (v := .tuple #[.int .u32 b, .bool true]) (by simp [results, Try.results15, go_sem]) rfl ⟨by rw [hv.out, h]; rfl, rfl⟩
      | exact bodyPost_ret (v := .tuple #[.int .u32 a, .bool true]) (by simp [results, Try.results15, go_sem]) rfl ⟨by rw [hv.out, h]; rfl, rfl⟩

theorem ramo_67 (a b : Int) (a0 : 0 ≤ a) (a1 : a < 4294967296) (b0 : 0 ≤ b) (b1 : b < 4294967296) (w : World) :
    Calls Try.prog 15 #[.int .i64 67, .int .u32 a, .int .u32 b] w fun e w' => e = .returned (.tuple #[.int .u32 (W.most a b true), .bool true]) ∧ w = w' := by
  cases h : W.less a b true
  all_goals
    have hv : Hid (W.most a b true = bif W.less a b true then b else a) := (rfl : W.most a b true = _)
    go_enter Try.func15, Try.ntmps15
    go_wp2_with (go_at_call 35; refine (rless_any _ _ _ _ a0 a1 b0 b1).mono ?_; rintro e w' ⟨rfl, rfl⟩)
    first
      | exact bodyPost_ret (v := .tuple #[.int .u32 b, .bool true]) (by simp [results, Try.results15, go_sem]) rfl ⟨by rw [hv.out, h]; rfl, rfl⟩
      | exact bodyPost_ret (v := .tuple #[.int .u32 a, .bool true]) (by simp [results, Try.results15, go_sem]) rfl ⟨by rw [hv.out, h]; rfl, rfl⟩

theorem ramo_68 (a b : Int) (a0 : 0 ≤ a) (a1 : a < 4294967296) (b0 : 0 ≤ b) (b1 : b < 4294967296) (w : World) :
    Calls Try.prog 15 #[.int .i64 68, .int .u32 a, .int .u32 b] w fun e w' => e = .returned (.tuple #[.int .u32 (W.least a b false), .bool true]) ∧ w = w' := by
  by_cases h : b < a
  · have hv : Hid (W.least a b false = b) := (by rw [W.least, ← less_plain b0 b1 a0 a1, decide_eq_true h]; rfl : W.least a b false = b)
    go_enter Try.func15, Try.ntmps15
    go_wp2
    exact bodyPost_ret (v := .tuple #[.int .u32 b, .bool true]) (by simp [results, Try.results15, go_sem]) rfl ⟨by rw [hv.out], rfl⟩
  · have hv : Hid (W.least a b false = a) := (by rw [W.least, ← less_plain b0 b1 a0 a1, decide_eq_false h]; rfl : W.least a b false = a)
    go_enter Try.func15, Try.ntmps15
    go_wp2
    exact bodyPost_ret (v := .tuple #[.int .u32 a, .bool true]) (by simp [results, Try.results15, go_sem]) rfl ⟨by rw [hv.out], rfl⟩

theorem ramo_69 (a b : Int) (a0 : 0 ≤ a) (a1 : a < 4294967296) (b0 : 0 ≤ b) (b1 : b < 4294967296) (w : World) :
    Calls Try.prog 15 #[.int .i64 69, .int .u32 a, .int .u32 b] w fun e w' => e = .returned (.tuple #[.int .u32 (W.most a b false), .bool true]) ∧ w = w' := by
  by_cases h : a < b
  · have hv : Hid (W.most a b false = b) := (by rw [W.most, ← less_plain a0 a1 b0 b1, decide_eq_true h]; rfl : W.most a b false = b)
    go_enter Try.func15, Try.ntmps15
    go_wp2
    exact bodyPost_ret (v := .tuple #[.int .u32 b, .bool true]) (by simp [results, Try.results15, go_sem]) rfl ⟨by rw [hv.out], rfl⟩
  · have hv : Hid (W.most a b false = a) := (by rw [W.most, ← less_plain a0 a1 b0 b1, decide_eq_false h]; rfl : W.most a b false = a)
    go_enter Try.func15, Try.ntmps15
    go_wp2
    exact bodyPost_ret (v := .tuple #[.int .u32 a, .bool true]) (by simp [results, Try.results15, go_sem]) rfl ⟨by rw [hv.out], rfl⟩

theorem ramo_any (op a b : Int) (a0 : 0 ≤ a) (a1 : a < 4294967296) (b0 : 0 ≤ b) (b1 : b < 4294967296) (w : World) :
    Calls Try.prog 15 #[.int .i64 op, .int .u32 a, .int .u32 b] w fun e w' => e = .returned (.tuple #[.int .u32 (W.amoV op a b), .bool (W.amoB op)]) ∧ w = w' := by
  cases h : W.amoB op
  · rw [W.amoV_none a b h]
    exact ramo_none op a b a0 a1 b0 b1 h w
  · rcases W.amoB_cases h with rfl | rfl | rfl | rfl | rfl | rfl | rfl | rfl | rfl
    · exact ramo_61 a b a0 a1 b0 b1 w
    · exact ramo_62 a b a0 a1 b0 b1 w
    · exact ramo_63 a b a0 a1 b0 b1 w
    · exact ramo_64 a b a0 a1 b0 b1 w
    · exact ramo_65 a b a0 a1 b0 b1 w
    · exact ramo_66 a b a0 a1 b0 b1 w
    · exact ramo_67 a b a0 a1 b0 b1 w
    · exact ramo_68 a b a0 a1 b0 b1 w
    · exact ramo_69 a b a0 a1 b0 b1 w

theorem rkind_11 (w : World) : Calls Try.prog 46 #[.int .i64 11] w fun e w' => e = .returned (.int .i64 4) ∧ w = w' := by
  go_enter Try.func46, Try.ntmps46
  go_wp2
  go_ret
  exact ⟨rfl, rfl⟩

theorem rsize_11 (w : World) : Calls Try.prog 17 #[.int .i64 11] w fun e w' => e = .returned (.int .i64 1) ∧ w = w' := by
  go_enter Try.func17, Try.ntmps17
  go_wp2
  go_ret
  exact ⟨rfl, rfl⟩

theorem rkind_12 (w : World) : Calls Try.prog 46 #[.int .i64 12] w fun e w' => e = .returned (.int .i64 4) ∧ w = w' := by
  go_enter Try.func46, Try.ntmps46
  go_wp2
  go_ret
  exact ⟨rfl, rfl⟩

theorem rsize_12 (w : World) : Calls Try.prog 17 #[.int .i64 12] w fun e w' => e = .returned (.int .i64 2) ∧ w = w' := by
  go_enter Try.func17, Try.ntmps17
  go_wp2
  go_ret
  exact ⟨rfl, rfl⟩

theorem rkind_13 (w : World) : Calls Try.prog 46 #[.int .i64 13] w fun e w' => e = .returned (.int .i64 4) ∧ w = w' := by
  go_enter Try.func46, Try.ntmps46
  go_wp2
  go_ret
  exact ⟨rfl, rfl⟩

theorem rsize_13 (w : World) : Calls Try.prog 17 #[.int .i64 13] w fun e w' => e = .returned (.int .i64 4) ∧ w = w' := by
  go_enter Try.func17, Try.ntmps17
  go_wp2
  go_ret
  exact ⟨rfl, rfl⟩

theorem rkind_14 (w : World) : Calls Try.prog 46 #[.int .i64 14] w fun e w' => e = .returned (.int .i64 4) ∧ w = w' := by
  go_enter Try.func46, Try.ntmps46
  go_wp2
  go_ret
  exact ⟨rfl, rfl⟩

theorem rsize_14 (w : World) : Calls Try.prog 17 #[.int .i64 14] w fun e w' => e = .returned (.int .i64 1) ∧ w = w' := by
  go_enter Try.func17, Try.ntmps17
  go_wp2
  go_ret
  exact ⟨rfl, rfl⟩

theorem rkind_15 (w : World) : Calls Try.prog 46 #[.int .i64 15] w fun e w' => e = .returned (.int .i64 4) ∧ w = w' := by
  go_enter Try.func46, Try.ntmps46
  go_wp2
  go_ret
  exact ⟨rfl, rfl⟩

theorem rsize_15 (w : World) : Calls Try.prog 17 #[.int .i64 15] w fun e w' => e = .returned (.int .i64 2) ∧ w = w' := by
  go_enter Try.func17, Try.ntmps17
  go_wp2
  go_ret
  exact ⟨rfl, rfl⟩

theorem rkind_16 (w : World) : Calls Try.prog 46 #[.int .i64 16] w fun e w' => e = .returned (.int .i64 5) ∧ w = w' := by
  go_enter Try.func46, Try.ntmps46
  go_wp2
  go_ret
  exact ⟨rfl, rfl⟩

theorem rsize_16 (w : World) : Calls Try.prog 17 #[.int .i64 16] w fun e w' => e = .returned (.int .i64 1) ∧ w = w' := by
  go_enter Try.func17, Try.ntmps17
  go_wp2
  go_ret
  exact ⟨rfl, rfl⟩

theorem rkind_17 (w : World) : Calls Try.prog 46 #[.int .i64 17] w fun e w' => e = .returned (.int .i64 5) ∧ w = w' := by
  go_enter Try.func46, Try.ntmps46
  go_wp2
  go_ret
  exact ⟨rfl, rfl⟩

theorem rsize_17 (w : World) : Calls Try.prog 17 #[.int .i64 17] w fun e w' => e = .returned (.int .i64 2) ∧ w = w' := by
  go_enter Try.func17, Try.ntmps17
  go_wp2
  go_ret
  exact ⟨rfl, rfl⟩

theorem rkind_18 (w : World) : Calls Try.prog 46 #[.int .i64 18] w fun e w' => e = .returned (.int .i64 5) ∧ w = w' := by
  go_enter Try.func46, Try.ntmps46
  go_wp2
  go_ret
  exact ⟨rfl, rfl⟩

theorem rsize_18 (w : World) : Calls Try.prog 17 #[.int .i64 18] w fun e w' => e = .returned (.int .i64 4) ∧ w = w' := by
  go_enter Try.func17, Try.ntmps17
  go_wp2
  go_ret
  exact ⟨rfl, rfl⟩

theorem rkind_59 (w : World) : Calls Try.prog 46 #[.int .i64 59] w fun e w' => e = .returned (.int .i64 4) ∧ w = w' := by
  go_enter Try.func46, Try.ntmps46
  go_wp2
  go_ret
  exact ⟨rfl, rfl⟩

theorem rsize_59 (w : World) : Calls Try.prog 17 #[.int .i64 59] w fun e w' => e = .returned (.int .i64 4) ∧ w = w' := by
  go_enter Try.func17, Try.ntmps17
  go_wp2
  go_ret
  exact ⟨rfl, rfl⟩

theorem rkind_60 (w : World) : Calls Try.prog 46 #[.int .i64 60] w fun e w' => e = .returned (.int .i64 6) ∧ w = w' := by
  go_enter Try.func46, Try.ntmps46
  go_wp2
  go_ret
  exact ⟨rfl, rfl⟩

theorem rsize_60 (w : World) : Calls Try.prog 17 #[.int .i64 60] w fun e w' => e = .returned (.int .i64 4) ∧ w = w' := by
  go_enter Try.func17, Try.ntmps17
  go_wp2
  go_ret
  exact ⟨rfl, rfl⟩

theorem rkind_61 (w : World) : Calls Try.prog 46 #[.int .i64 61] w fun e w' => e = .returned (.int .i64 6) ∧ w = w' := by
  go_enter Try.func46, Try.ntmps46
  go_wp2
  go_ret
  exact ⟨rfl, rfl⟩

theorem rsize_61 (w : World) : Calls Try.prog 17 #[.int .i64 61] w fun e w' => e = .returned (.int .i64 4) ∧ w = w' := by
  go_enter Try.func17, Try.ntmps17
  go_wp2
  go_ret
  exact ⟨rfl, rfl⟩

theorem rkind_62 (w : World) : Calls Try.prog 46 #[.int .i64 62] w fun e w' => e = .returned (.int .i64 6) ∧ w = w' := by
  go_enter Try.func46, Try.ntmps46
  go_wp2
  go_ret
  exact ⟨rfl, rfl⟩

theorem rsize_62 (w : World) : Calls Try.prog 17 #[.int .i64 62] w fun e w' => e = .returned (.int .i64 4) ∧ w = w' := by
  go_enter Try.func17, Try.ntmps17
  go_wp2
  go_ret
  exact ⟨rfl, rfl⟩

theorem rkind_63 (w : World) : Calls Try.prog 46 #[.int .i64 63] w fun e w' => e = .returned (.int .i64 6) ∧ w = w' := by
  go_enter Try.func46, Try.ntmps46
  go_wp2
  go_ret
  exact ⟨rfl, rfl⟩

theorem rsize_63 (w : World) : Calls Try.prog 17 #[.int .i64 63] w fun e w' => e = .returned (.int .i64 4) ∧ w = w' := by
  go_enter Try.func17, Try.ntmps17
  go_wp2
  go_ret
  exact ⟨rfl, rfl⟩

theorem rkind_64 (w : World) : Calls Try.prog 46 #[.int .i64 64] w fun e w' => e = .returned (.int .i64 6) ∧ w = w' := by
  go_enter Try.func46, Try.ntmps46
  go_wp2
  go_ret
  exact ⟨rfl, rfl⟩

theorem rsize_64 (w : World) : Calls Try.prog 17 #[.int .i64 64] w fun e w' => e = .returned (.int .i64 4) ∧ w = w' := by
  go_enter Try.func17, Try.ntmps17
  go_wp2
  go_ret
  exact ⟨rfl, rfl⟩

theorem rkind_65 (w : World) : Calls Try.prog 46 #[.int .i64 65] w fun e w' => e = .returned (.int .i64 6) ∧ w = w' := by
  go_enter Try.func46, Try.ntmps46
  go_wp2
  go_ret
  exact ⟨rfl, rfl⟩

theorem rsize_65 (w : World) : Calls Try.prog 17 #[.int .i64 65] w fun e w' => e = .returned (.int .i64 4) ∧ w = w' := by
  go_enter Try.func17, Try.ntmps17
  go_wp2
  go_ret
  exact ⟨rfl, rfl⟩

theorem rkind_66 (w : World) : Calls Try.prog 46 #[.int .i64 66] w fun e w' => e = .returned (.int .i64 6) ∧ w = w' := by
  go_enter Try.func46, Try.ntmps46
  go_wp2
  go_ret
  exact ⟨rfl, rfl⟩

theorem rsize_66 (w : World) : Calls Try.prog 17 #[.int .i64 66] w fun e w' => e = .returned (.int .i64 4) ∧ w = w' := by
  go_enter Try.func17, Try.ntmps17
  go_wp2
  go_ret
  exact ⟨rfl, rfl⟩

theorem rkind_67 (w : World) : Calls Try.prog 46 #[.int .i64 67] w fun e w' => e = .returned (.int .i64 6) ∧ w = w' := by
  go_enter Try.func46, Try.ntmps46
  go_wp2
  go_ret
  exact ⟨rfl, rfl⟩

theorem rsize_67 (w : World) : Calls Try.prog 17 #[.int .i64 67] w fun e w' => e = .returned (.int .i64 4) ∧ w = w' := by
  go_enter Try.func17, Try.ntmps17
  go_wp2
  go_ret
  exact ⟨rfl, rfl⟩

theorem rkind_68 (w : World) : Calls Try.prog 46 #[.int .i64 68] w fun e w' => e = .returned (.int .i64 6) ∧ w = w' := by
  go_enter Try.func46, Try.ntmps46
  go_wp2
  go_ret
  exact ⟨rfl, rfl⟩

theorem rsize_68 (w : World) : Calls Try.prog 17 #[.int .i64 68] w fun e w' => e = .returned (.int .i64 4) ∧ w = w' := by
  go_enter Try.func17, Try.ntmps17
  go_wp2
  go_ret
  exact ⟨rfl, rfl⟩

theorem rkind_69 (w : World) : Calls Try.prog 46 #[.int .i64 69] w fun e w' => e = .returned (.int .i64 6) ∧ w = w' := by
  go_enter Try.func46, Try.ntmps46
  go_wp2
  go_ret
  exact ⟨rfl, rfl⟩

theorem rsize_69 (w : World) : Calls Try.prog 17 #[.int .i64 69] w fun e w' => e = .returned (.int .i64 4) ∧ w = w' := by
  go_enter Try.func17, Try.ntmps17
  go_wp2
  go_ret
  exact ⟨rfl, rfl⟩

theorem rlow_1 (v : Int) (v0 : 0 ≤ v) (v1 : v < 4294967296) (w : World) : Calls Try.prog 47 #[.int .u32 v, .int .i64 1] w fun e w' => e = .returned (.int .u32 (W.bitsOf v 0 8)) ∧ w = w' := by
  go_enter Try.func47, Try.ntmps47
  go_wp2_with (go_at_call 59; refine (rbits_any _ _ _ _ v0 v1).mono ?_; rintro e w' ⟨rfl, rfl⟩)
  go_ret
  exact ⟨rfl, rfl⟩

theorem rlow_2 (v : Int) (v0 : 0 ≤ v) (v1 : v < 4294967296) (w : World) : Calls Try.prog 47 #[.int .u32 v, .int .i64 2] w fun e w' => e = .returned (.int .u32 (W.bitsOf v 0 16)) ∧ w = w' := by
  go_enter Try.func47, Try.ntmps47
  go_wp2_with (go_at_call 59; refine (rbits_any _ _ _ _ v0 v1).mono ?_; rintro e w' ⟨rfl, rfl⟩)
  go_ret
  exact ⟨rfl, rfl⟩

theorem rlow_4 (v : Int) (v0 : 0 ≤ v) (v1 : v < 4294967296) (w : World) : Calls Try.prog 47 #[.int .u32 v, .int .i64 4] w fun e w' => e = .returned (.int .u32 (W.bitsOf v 0 32)) ∧ w = w' := by
  go_enter Try.func47, Try.ntmps47
  go_wp2_with (go_at_call 59; refine (rbits_any _ _ _ _ v0 v1).mono ?_; rintro e w' ⟨rfl, rfl⟩)
  go_ret
  exact ⟨rfl, rfl⟩

theorem rext_11 (v : Int) (v0 : 0 ≤ v) (v1 : v < 4294967296) (w : World) : Calls Try.prog 19 #[.int .i64 11, .int .u32 v] w fun e w' => e = .returned (.int .u32 (W.sgn v 8)) ∧ w = w' := by
  go_enter Try.func19, Try.ntmps19
  go_wp2_with (first | (go_at_call 46; refine (rkind_11 _).mono ?_; rintro e w' ⟨rfl, rfl⟩) | (go_at_call 17; refine (rsize_11 _).mono ?_; rintro e w' ⟨rfl, rfl⟩) | (go_at_call 47; refine (rlow_1 v v0 v1 _).mono ?_; rintro e w' ⟨rfl, rfl⟩) | (go_at_call 45; refine (rsign_any _ _ _ v0 v1).mono ?_; rintro e w' ⟨rfl, rfl⟩))
  go_ret
  exact ⟨rfl, rfl⟩

theorem rcut_11 (v : Int) (v0 : 0 ≤ v) (v1 : v < 4294967296) (w : World) : Calls Try.prog 21 #[.int .i64 11, .int .u32 v] w fun e w' => e = .returned (.int .u32 (0)) ∧ w = w' := by
  go_enter Try.func21, Try.ntmps21
  go_wp2_with (first | (go_at_call 46; refine (rkind_11 _).mono ?_; rintro e w' ⟨rfl, rfl⟩) | (go_at_call 17; refine (rsize_11 _).mono ?_; rintro e w' ⟨rfl, rfl⟩) | (go_at_call 47; refine (rlow_1 v v0 v1 _).mono ?_; rintro e w' ⟨rfl, rfl⟩) | (go_at_call 45; refine (rsign_any _ _ _ v0 v1).mono ?_; rintro e w' ⟨rfl, rfl⟩))
  go_ret
  exact ⟨rfl, rfl⟩

theorem rext_12 (v : Int) (v0 : 0 ≤ v) (v1 : v < 4294967296) (w : World) : Calls Try.prog 19 #[.int .i64 12, .int .u32 v] w fun e w' => e = .returned (.int .u32 (W.sgn v 16)) ∧ w = w' := by
  go_enter Try.func19, Try.ntmps19
  go_wp2_with (first | (go_at_call 46; refine (rkind_12 _).mono ?_; rintro e w' ⟨rfl, rfl⟩) | (go_at_call 17; refine (rsize_12 _).mono ?_; rintro e w' ⟨rfl, rfl⟩) | (go_at_call 47; refine (rlow_2 v v0 v1 _).mono ?_; rintro e w' ⟨rfl, rfl⟩) | (go_at_call 45; refine (rsign_any _ _ _ v0 v1).mono ?_; rintro e w' ⟨rfl, rfl⟩))
  go_ret
  exact ⟨rfl, rfl⟩

theorem rcut_12 (v : Int) (v0 : 0 ≤ v) (v1 : v < 4294967296) (w : World) : Calls Try.prog 21 #[.int .i64 12, .int .u32 v] w fun e w' => e = .returned (.int .u32 (0)) ∧ w = w' := by
  go_enter Try.func21, Try.ntmps21
  go_wp2_with (first | (go_at_call 46; refine (rkind_12 _).mono ?_; rintro e w' ⟨rfl, rfl⟩) | (go_at_call 17; refine (rsize_12 _).mono ?_; rintro e w' ⟨rfl, rfl⟩) | (go_at_call 47; refine (rlow_2 v v0 v1 _).mono ?_; rintro e w' ⟨rfl, rfl⟩) | (go_at_call 45; refine (rsign_any _ _ _ v0 v1).mono ?_; rintro e w' ⟨rfl, rfl⟩))
  go_ret
  exact ⟨rfl, rfl⟩

theorem rext_13 (v : Int) (v0 : 0 ≤ v) (v1 : v < 4294967296) (w : World) : Calls Try.prog 19 #[.int .i64 13, .int .u32 v] w fun e w' => e = .returned (.int .u32 (W.bitsOf v 0 32)) ∧ w = w' := by
  go_enter Try.func19, Try.ntmps19
  go_wp2_with (first | (go_at_call 46; refine (rkind_13 _).mono ?_; rintro e w' ⟨rfl, rfl⟩) | (go_at_call 17; refine (rsize_13 _).mono ?_; rintro e w' ⟨rfl, rfl⟩) | (go_at_call 47; refine (rlow_4 v v0 v1 _).mono ?_; rintro e w' ⟨rfl, rfl⟩) | (go_at_call 45; refine (rsign_any _ _ _ v0 v1).mono ?_; rintro e w' ⟨rfl, rfl⟩))
  go_ret
  exact ⟨rfl, rfl⟩

theorem rcut_13 (v : Int) (v0 : 0 ≤ v) (v1 : v < 4294967296) (w : World) : Calls Try.prog 21 #[.int .i64 13, .int .u32 v] w fun e w' => e = .returned (.int .u32 (0)) ∧ w = w' := by
  go_enter Try.func21, Try.ntmps21
  go_wp2_with (first | (go_at_call 46; refine (rkind_13 _).mono ?_; rintro e w' ⟨rfl, rfl⟩) | (go_at_call 17; refine (rsize_13 _).mono ?_; rintro e w' ⟨rfl, rfl⟩) | (go_at_call 47; refine (rlow_4 v v0 v1 _).mono ?_; rintro e w' ⟨rfl, rfl⟩) | (go_at_call 45; refine (rsign_any _ _ _ v0 v1).mono ?_; rintro e w' ⟨rfl, rfl⟩))
  go_ret
  exact ⟨rfl, rfl⟩

theorem rext_14 (v : Int) (v0 : 0 ≤ v) (v1 : v < 4294967296) (w : World) : Calls Try.prog 19 #[.int .i64 14, .int .u32 v] w fun e w' => e = .returned (.int .u32 (W.bitsOf v 0 8)) ∧ w = w' := by
  go_enter Try.func19, Try.ntmps19
  go_wp2_with (first | (go_at_call 46; refine (rkind_14 _).mono ?_; rintro e w' ⟨rfl, rfl⟩) | (go_at_call 17; refine (rsize_14 _).mono ?_; rintro e w' ⟨rfl, rfl⟩) | (go_at_call 47; refine (rlow_1 v v0 v1 _).mono ?_; rintro e w' ⟨rfl, rfl⟩) | (go_at_call 45; refine (rsign_any _ _ _ v0 v1).mono ?_; rintro e w' ⟨rfl, rfl⟩))
  go_ret
  exact ⟨rfl, rfl⟩

theorem rcut_14 (v : Int) (v0 : 0 ≤ v) (v1 : v < 4294967296) (w : World) : Calls Try.prog 21 #[.int .i64 14, .int .u32 v] w fun e w' => e = .returned (.int .u32 (0)) ∧ w = w' := by
  go_enter Try.func21, Try.ntmps21
  go_wp2_with (first | (go_at_call 46; refine (rkind_14 _).mono ?_; rintro e w' ⟨rfl, rfl⟩) | (go_at_call 17; refine (rsize_14 _).mono ?_; rintro e w' ⟨rfl, rfl⟩) | (go_at_call 47; refine (rlow_1 v v0 v1 _).mono ?_; rintro e w' ⟨rfl, rfl⟩) | (go_at_call 45; refine (rsign_any _ _ _ v0 v1).mono ?_; rintro e w' ⟨rfl, rfl⟩))
  go_ret
  exact ⟨rfl, rfl⟩

theorem rext_15 (v : Int) (v0 : 0 ≤ v) (v1 : v < 4294967296) (w : World) : Calls Try.prog 19 #[.int .i64 15, .int .u32 v] w fun e w' => e = .returned (.int .u32 (W.bitsOf v 0 16)) ∧ w = w' := by
  go_enter Try.func19, Try.ntmps19
  go_wp2_with (first | (go_at_call 46; refine (rkind_15 _).mono ?_; rintro e w' ⟨rfl, rfl⟩) | (go_at_call 17; refine (rsize_15 _).mono ?_; rintro e w' ⟨rfl, rfl⟩) | (go_at_call 47; refine (rlow_2 v v0 v1 _).mono ?_; rintro e w' ⟨rfl, rfl⟩) | (go_at_call 45; refine (rsign_any _ _ _ v0 v1).mono ?_; rintro e w' ⟨rfl, rfl⟩))
  go_ret
  exact ⟨rfl, rfl⟩

theorem rcut_15 (v : Int) (v0 : 0 ≤ v) (v1 : v < 4294967296) (w : World) : Calls Try.prog 21 #[.int .i64 15, .int .u32 v] w fun e w' => e = .returned (.int .u32 (0)) ∧ w = w' := by
  go_enter Try.func21, Try.ntmps21
  go_wp2_with (first | (go_at_call 46; refine (rkind_15 _).mono ?_; rintro e w' ⟨rfl, rfl⟩) | (go_at_call 17; refine (rsize_15 _).mono ?_; rintro e w' ⟨rfl, rfl⟩) | (go_at_call 47; refine (rlow_2 v v0 v1 _).mono ?_; rintro e w' ⟨rfl, rfl⟩) | (go_at_call 45; refine (rsign_any _ _ _ v0 v1).mono ?_; rintro e w' ⟨rfl, rfl⟩))
  go_ret
  exact ⟨rfl, rfl⟩

theorem rext_16 (v : Int) (v0 : 0 ≤ v) (v1 : v < 4294967296) (w : World) : Calls Try.prog 19 #[.int .i64 16, .int .u32 v] w fun e w' => e = .returned (.int .u32 (0)) ∧ w = w' := by
  go_enter Try.func19, Try.ntmps19
  go_wp2_with (first | (go_at_call 46; refine (rkind_16 _).mono ?_; rintro e w' ⟨rfl, rfl⟩) | (go_at_call 17; refine (rsize_16 _).mono ?_; rintro e w' ⟨rfl, rfl⟩) | (go_at_call 47; refine (rlow_1 v v0 v1 _).mono ?_; rintro e w' ⟨rfl, rfl⟩) | (go_at_call 45; refine (rsign_any _ _ _ v0 v1).mono ?_; rintro e w' ⟨rfl, rfl⟩))
  go_ret
  exact ⟨rfl, rfl⟩

theorem rcut_16 (v : Int) (v0 : 0 ≤ v) (v1 : v < 4294967296) (w : World) : Calls Try.prog 21 #[.int .i64 16, .int .u32 v] w fun e w' => e = .returned (.int .u32 (W.bitsOf v 0 8)) ∧ w = w' := by
  go_enter Try.func21, Try.ntmps21
  go_wp2_with (first | (go_at_call 46; refine (rkind_16 _).mono ?_; rintro e w' ⟨rfl, rfl⟩) | (go_at_call 17; refine (rsize_16 _).mono ?_; rintro e w' ⟨rfl, rfl⟩) | (go_at_call 47; refine (rlow_1 v v0 v1 _).mono ?_; rintro e w' ⟨rfl, rfl⟩) | (go_at_call 45; refine (rsign_any _ _ _ v0 v1).mono ?_; rintro e w' ⟨rfl, rfl⟩))
  go_ret
  exact ⟨rfl, rfl⟩

theorem rext_17 (v : Int) (v0 : 0 ≤ v) (v1 : v < 4294967296) (w : World) : Calls Try.prog 19 #[.int .i64 17, .int .u32 v] w fun e w' => e = .returned (.int .u32 (0)) ∧ w = w' := by
  go_enter Try.func19, Try.ntmps19
  go_wp2_with (first | (go_at_call 46; refine (rkind_17 _).mono ?_; rintro e w' ⟨rfl, rfl⟩) | (go_at_call 17; refine (rsize_17 _).mono ?_; rintro e w' ⟨rfl, rfl⟩) | (go_at_call 47; refine (rlow_2 v v0 v1 _).mono ?_; rintro e w' ⟨rfl, rfl⟩) | (go_at_call 45; refine (rsign_any _ _ _ v0 v1).mono ?_; rintro e w' ⟨rfl, rfl⟩))
  go_ret
  exact ⟨rfl, rfl⟩

theorem rcut_17 (v : Int) (v0 : 0 ≤ v) (v1 : v < 4294967296) (w : World) : Calls Try.prog 21 #[.int .i64 17, .int .u32 v] w fun e w' => e = .returned (.int .u32 (W.bitsOf v 0 16)) ∧ w = w' := by
  go_enter Try.func21, Try.ntmps21
  go_wp2_with (first | (go_at_call 46; refine (rkind_17 _).mono ?_; rintro e w' ⟨rfl, rfl⟩) | (go_at_call 17; refine (rsize_17 _).mono ?_; rintro e w' ⟨rfl, rfl⟩) | (go_at_call 47; refine (rlow_2 v v0 v1 _).mono ?_; rintro e w' ⟨rfl, rfl⟩) | (go_at_call 45; refine (rsign_any _ _ _ v0 v1).mono ?_; rintro e w' ⟨rfl, rfl⟩))
  go_ret
  exact ⟨rfl, rfl⟩

theorem rext_18 (v : Int) (v0 : 0 ≤ v) (v1 : v < 4294967296) (w : World) : Calls Try.prog 19 #[.int .i64 18, .int .u32 v] w fun e w' => e = .returned (.int .u32 (0)) ∧ w = w' := by
  go_enter Try.func19, Try.ntmps19
  go_wp2_with (first | (go_at_call 46; refine (rkind_18 _).mono ?_; rintro e w' ⟨rfl, rfl⟩) | (go_at_call 17; refine (rsize_18 _).mono ?_; rintro e w' ⟨rfl, rfl⟩) | (go_at_call 47; refine (rlow_4 v v0 v1 _).mono ?_; rintro e w' ⟨rfl, rfl⟩) | (go_at_call 45; refine (rsign_any _ _ _ v0 v1).mono ?_; rintro e w' ⟨rfl, rfl⟩))
  go_ret
  exact ⟨rfl, rfl⟩

theorem rcut_18 (v : Int) (v0 : 0 ≤ v) (v1 : v < 4294967296) (w : World) : Calls Try.prog 21 #[.int .i64 18, .int .u32 v] w fun e w' => e = .returned (.int .u32 (W.bitsOf v 0 32)) ∧ w = w' := by
  go_enter Try.func21, Try.ntmps21
  go_wp2_with (first | (go_at_call 46; refine (rkind_18 _).mono ?_; rintro e w' ⟨rfl, rfl⟩) | (go_at_call 17; refine (rsize_18 _).mono ?_; rintro e w' ⟨rfl, rfl⟩) | (go_at_call 47; refine (rlow_4 v v0 v1 _).mono ?_; rintro e w' ⟨rfl, rfl⟩) | (go_at_call 45; refine (rsign_any _ _ _ v0 v1).mono ?_; rintro e w' ⟨rfl, rfl⟩))
  go_ret
  exact ⟨rfl, rfl⟩

theorem rext_59 (v : Int) (v0 : 0 ≤ v) (v1 : v < 4294967296) (w : World) : Calls Try.prog 19 #[.int .i64 59, .int .u32 v] w fun e w' => e = .returned (.int .u32 (W.bitsOf v 0 32)) ∧ w = w' := by
  go_enter Try.func19, Try.ntmps19
  go_wp2_with (first | (go_at_call 46; refine (rkind_59 _).mono ?_; rintro e w' ⟨rfl, rfl⟩) | (go_at_call 17; refine (rsize_59 _).mono ?_; rintro e w' ⟨rfl, rfl⟩) | (go_at_call 47; refine (rlow_4 v v0 v1 _).mono ?_; rintro e w' ⟨rfl, rfl⟩) | (go_at_call 45; refine (rsign_any _ _ _ v0 v1).mono ?_; rintro e w' ⟨rfl, rfl⟩))
  go_ret
  exact ⟨rfl, rfl⟩

theorem rcut_59 (v : Int) (v0 : 0 ≤ v) (v1 : v < 4294967296) (w : World) : Calls Try.prog 21 #[.int .i64 59, .int .u32 v] w fun e w' => e = .returned (.int .u32 (0)) ∧ w = w' := by
  go_enter Try.func21, Try.ntmps21
  go_wp2_with (first | (go_at_call 46; refine (rkind_59 _).mono ?_; rintro e w' ⟨rfl, rfl⟩) | (go_at_call 17; refine (rsize_59 _).mono ?_; rintro e w' ⟨rfl, rfl⟩) | (go_at_call 47; refine (rlow_4 v v0 v1 _).mono ?_; rintro e w' ⟨rfl, rfl⟩) | (go_at_call 45; refine (rsign_any _ _ _ v0 v1).mono ?_; rintro e w' ⟨rfl, rfl⟩))
  go_ret
  exact ⟨rfl, rfl⟩

theorem rext_60 (v : Int) (v0 : 0 ≤ v) (v1 : v < 4294967296) (w : World) : Calls Try.prog 19 #[.int .i64 60, .int .u32 v] w fun e w' => e = .returned (.int .u32 (0)) ∧ w = w' := by
  go_enter Try.func19, Try.ntmps19
  go_wp2_with (first | (go_at_call 46; refine (rkind_60 _).mono ?_; rintro e w' ⟨rfl, rfl⟩) | (go_at_call 17; refine (rsize_60 _).mono ?_; rintro e w' ⟨rfl, rfl⟩) | (go_at_call 47; refine (rlow_4 v v0 v1 _).mono ?_; rintro e w' ⟨rfl, rfl⟩) | (go_at_call 45; refine (rsign_any _ _ _ v0 v1).mono ?_; rintro e w' ⟨rfl, rfl⟩))
  go_ret
  exact ⟨rfl, rfl⟩

theorem rcut_60 (v : Int) (v0 : 0 ≤ v) (v1 : v < 4294967296) (w : World) : Calls Try.prog 21 #[.int .i64 60, .int .u32 v] w fun e w' => e = .returned (.int .u32 (W.bitsOf v 0 32)) ∧ w = w' := by
  go_enter Try.func21, Try.ntmps21
  go_wp2_with (first | (go_at_call 46; refine (rkind_60 _).mono ?_; rintro e w' ⟨rfl, rfl⟩) | (go_at_call 17; refine (rsize_60 _).mono ?_; rintro e w' ⟨rfl, rfl⟩) | (go_at_call 47; refine (rlow_4 v v0 v1 _).mono ?_; rintro e w' ⟨rfl, rfl⟩) | (go_at_call 45; refine (rsign_any _ _ _ v0 v1).mono ?_; rintro e w' ⟨rfl, rfl⟩))
  go_ret
  exact ⟨rfl, rfl⟩

theorem rext_61 (v : Int) (v0 : 0 ≤ v) (v1 : v < 4294967296) (w : World) : Calls Try.prog 19 #[.int .i64 61, .int .u32 v] w fun e w' => e = .returned (.int .u32 (W.bitsOf v 0 32)) ∧ w = w' := by
  go_enter Try.func19, Try.ntmps19
  go_wp2_with (first | (go_at_call 46; refine (rkind_61 _).mono ?_; rintro e w' ⟨rfl, rfl⟩) | (go_at_call 17; refine (rsize_61 _).mono ?_; rintro e w' ⟨rfl, rfl⟩) | (go_at_call 47; refine (rlow_4 v v0 v1 _).mono ?_; rintro e w' ⟨rfl, rfl⟩) | (go_at_call 45; refine (rsign_any _ _ _ v0 v1).mono ?_; rintro e w' ⟨rfl, rfl⟩))
  go_ret
  exact ⟨rfl, rfl⟩

theorem rcut_61 (v : Int) (v0 : 0 ≤ v) (v1 : v < 4294967296) (w : World) : Calls Try.prog 21 #[.int .i64 61, .int .u32 v] w fun e w' => e = .returned (.int .u32 (0)) ∧ w = w' := by
  go_enter Try.func21, Try.ntmps21
  go_wp2_with (first | (go_at_call 46; refine (rkind_61 _).mono ?_; rintro e w' ⟨rfl, rfl⟩) | (go_at_call 17; refine (rsize_61 _).mono ?_; rintro e w' ⟨rfl, rfl⟩) | (go_at_call 47; refine (rlow_4 v v0 v1 _).mono ?_; rintro e w' ⟨rfl, rfl⟩) | (go_at_call 45; refine (rsign_any _ _ _ v0 v1).mono ?_; rintro e w' ⟨rfl, rfl⟩))
  go_ret
  exact ⟨rfl, rfl⟩

theorem rext_62 (v : Int) (v0 : 0 ≤ v) (v1 : v < 4294967296) (w : World) : Calls Try.prog 19 #[.int .i64 62, .int .u32 v] w fun e w' => e = .returned (.int .u32 (W.bitsOf v 0 32)) ∧ w = w' := by
  go_enter Try.func19, Try.ntmps19
  go_wp2_with (first | (go_at_call 46; refine (rkind_62 _).mono ?_; rintro e w' ⟨rfl, rfl⟩) | (go_at_call 17; refine (rsize_62 _).mono ?_; rintro e w' ⟨rfl, rfl⟩) | (go_at_call 47; refine (rlow_4 v v0 v1 _).mono ?_; rintro e w' ⟨rfl, rfl⟩) | (go_at_call 45; refine (rsign_any _ _ _ v0 v1).mono ?_; rintro e w' ⟨rfl, rfl⟩))
  go_ret
  exact ⟨rfl, rfl⟩

theorem rcut_62 (v : Int) (v0 : 0 ≤ v) (v1 : v < 4294967296) (w : World) : Calls Try.prog 21 #[.int .i64 62, .int .u32 v] w fun e w' => e = .returned (.int .u32 (0)) ∧ w = w' := by
  go_enter Try.func21, Try.ntmps21
  go_wp2_with (first | (go_at_call 46; refine (rkind_62 _).mono ?_; rintro e w' ⟨rfl, rfl⟩) | (go_at_call 17; refine (rsize_62 _).mono ?_; rintro e w' ⟨rfl, rfl⟩) | (go_at_call 47; refine (rlow_4 v v0 v1 _).mono ?_; rintro e w' ⟨rfl, rfl⟩) | (go_at_call 45; refine (rsign_any _ _ _ v0 v1).mono ?_; rintro e w' ⟨rfl, rfl⟩))
  go_ret
  exact ⟨rfl, rfl⟩

theorem rext_63 (v : Int) (v0 : 0 ≤ v) (v1 : v < 4294967296) (w : World) : Calls Try.prog 19 #[.int .i64 63, .int .u32 v] w fun e w' => e = .returned (.int .u32 (W.bitsOf v 0 32)) ∧ w = w' := by
  go_enter Try.func19, Try.ntmps19
  go_wp2_with (first | (go_at_call 46; refine (rkind_63 _).mono ?_; rintro e w' ⟨rfl, rfl⟩) | (go_at_call 17; refine (rsize_63 _).mono ?_; rintro e w' ⟨rfl, rfl⟩) | (go_at_call 47; refine (rlow_4 v v0 v1 _).mono ?_; rintro e w' ⟨rfl, rfl⟩) | (go_at_call 45; refine (rsign_any _ _ _ v0 v1).mono ?_; rintro e w' ⟨rfl, rfl⟩))
  go_ret
  exact ⟨rfl, rfl⟩

theorem rcut_63 (v : Int) (v0 : 0 ≤ v) (v1 : v < 4294967296) (w : World) : Calls Try.prog 21 #[.int .i64 63, .int .u32 v] w fun e w' => e = .returned (.int .u32 (0)) ∧ w = w' := by
  go_enter Try.func21, Try.ntmps21
  go_wp2_with (first | (go_at_call 46; refine (rkind_63 _).mono ?_; rintro e w' ⟨rfl, rfl⟩) | (go_at_call 17; refine (rsize_63 _).mono ?_; rintro e w' ⟨rfl, rfl⟩) | (go_at_call 47; refine (rlow_4 v v0 v1 _).mono ?_; rintro e w' ⟨rfl, rfl⟩) | (go_at_call 45; refine (rsign_any _ _ _ v0 v1).mono ?_; rintro e w' ⟨rfl, rfl⟩))
  go_ret
  exact ⟨rfl, rfl⟩

theorem rext_64 (v : Int) (v0 : 0 ≤ v) (v1 : v < 4294967296) (w : World) : Calls Try.prog 19 #[.int .i64 64, .int .u32 v] w fun e w' => e = .returned (.int .u32 (W.bitsOf v 0 32)) ∧ w = w' := by
  go_enter Try.func19, Try.ntmps19
  go_wp2_with (first | (go_at_call 46; refine (rkind_64 _).mono ?_; rintro e w' ⟨rfl, rfl⟩) | (go_at_call 17; refine (rsize_64 _).mono ?_; rintro e w' ⟨rfl, rfl⟩) | (go_at_call 47; refine (rlow_4 v v0 v1 _).mono ?_; rintro e w' ⟨rfl, rfl⟩) | (go_at_call 45; refine (rsign_any _ _ _ v0 v1).mono ?_; rintro e w' ⟨rfl, rfl⟩))
  go_ret
  exact ⟨rfl, rfl⟩

theorem rcut_64 (v : Int) (v0 : 0 ≤ v) (v1 : v < 4294967296) (w : World) : Calls Try.prog 21 #[.int .i64 64, .int .u32 v] w fun e w' => e = .returned (.int .u32 (0)) ∧ w = w' := by
  go_enter Try.func21, Try.ntmps21
  go_wp2_with (first | (go_at_call 46; refine (rkind_64 _).mono ?_; rintro e w' ⟨rfl, rfl⟩) | (go_at_call 17; refine (rsize_64 _).mono ?_; rintro e w' ⟨rfl, rfl⟩) | (go_at_call 47; refine (rlow_4 v v0 v1 _).mono ?_; rintro e w' ⟨rfl, rfl⟩) | (go_at_call 45; refine (rsign_any _ _ _ v0 v1).mono ?_; rintro e w' ⟨rfl, rfl⟩))
  go_ret
  exact ⟨rfl, rfl⟩

theorem rext_65 (v : Int) (v0 : 0 ≤ v) (v1 : v < 4294967296) (w : World) : Calls Try.prog 19 #[.int .i64 65, .int .u32 v] w fun e w' => e = .returned (.int .u32 (W.bitsOf v 0 32)) ∧ w = w' := by
  go_enter Try.func19, Try.ntmps19
  go_wp2_with (first | (go_at_call 46; refine (rkind_65 _).mono ?_; rintro e w' ⟨rfl, rfl⟩) | (go_at_call 17; refine (rsize_65 _).mono ?_; rintro e w' ⟨rfl, rfl⟩) | (go_at_call 47; refine (rlow_4 v v0 v1 _).mono ?_; rintro e w' ⟨rfl, rfl⟩) | (go_at_call 45; refine (rsign_any _ _ _ v0 v1).mono ?_; rintro e w' ⟨rfl, rfl⟩))
  go_ret
  exact ⟨rfl, rfl⟩

theorem rcut_65 (v : Int) (v0 : 0 ≤ v) (v1 : v < 4294967296) (w : World) : Calls Try.prog 21 #[.int .i64 65, .int .u32 v] w fun e w' => e = .returned (.int .u32 (0)) ∧ w = w' := by
  go_enter Try.func21, Try.ntmps21
  go_wp2_with (first | (go_at_call 46; refine (rkind_65 _).mono ?_; rintro e w' ⟨rfl, rfl⟩) | (go_at_call 17; refine (rsize_65 _).mono ?_; rintro e w' ⟨rfl, rfl⟩) | (go_at_call 47; refine (rlow_4 v v0 v1 _).mono ?_; rintro e w' ⟨rfl, rfl⟩) | (go_at_call 45; refine (rsign_any _ _ _ v0 v1).mono ?_; rintro e w' ⟨rfl, rfl⟩))
  go_ret
  exact ⟨rfl, rfl⟩

theorem rext_66 (v : Int) (v0 : 0 ≤ v) (v1 : v < 4294967296) (w : World) : Calls Try.prog 19 #[.int .i64 66, .int .u32 v] w fun e w' => e = .returned (.int .u32 (W.bitsOf v 0 32)) ∧ w = w' := by
  go_enter Try.func19, Try.ntmps19
  go_wp2_with (first | (go_at_call 46; refine (rkind_66 _).mono ?_; rintro e w' ⟨rfl, rfl⟩) | (go_at_call 17; refine (rsize_66 _).mono ?_; rintro e w' ⟨rfl, rfl⟩) | (go_at_call 47; refine (rlow_4 v v0 v1 _).mono ?_; rintro e w' ⟨rfl, rfl⟩) | (go_at_call 45; refine (rsign_any _ _ _ v0 v1).mono ?_; rintro e w' ⟨rfl, rfl⟩))
  go_ret
  exact ⟨rfl, rfl⟩

theorem rcut_66 (v : Int) (v0 : 0 ≤ v) (v1 : v < 4294967296) (w : World) : Calls Try.prog 21 #[.int .i64 66, .int .u32 v] w fun e w' => e = .returned (.int .u32 (0)) ∧ w = w' := by
  go_enter Try.func21, Try.ntmps21
  go_wp2_with (first | (go_at_call 46; refine (rkind_66 _).mono ?_; rintro e w' ⟨rfl, rfl⟩) | (go_at_call 17; refine (rsize_66 _).mono ?_; rintro e w' ⟨rfl, rfl⟩) | (go_at_call 47; refine (rlow_4 v v0 v1 _).mono ?_; rintro e w' ⟨rfl, rfl⟩) | (go_at_call 45; refine (rsign_any _ _ _ v0 v1).mono ?_; rintro e w' ⟨rfl, rfl⟩))
  go_ret
  exact ⟨rfl, rfl⟩

theorem rext_67 (v : Int) (v0 : 0 ≤ v) (v1 : v < 4294967296) (w : World) : Calls Try.prog 19 #[.int .i64 67, .int .u32 v] w fun e w' => e = .returned (.int .u32 (W.bitsOf v 0 32)) ∧ w = w' := by
  go_enter Try.func19, Try.ntmps19
  go_wp2_with (first | (go_at_call 46; refine (rkind_67 _).mono ?_; rintro e w' ⟨rfl, rfl⟩) | (go_at_call 17; refine (rsize_67 _).mono ?_; rintro e w' ⟨rfl, rfl⟩) | (go_at_call 47; refine (rlow_4 v v0 v1 _).mono ?_; rintro e w' ⟨rfl, rfl⟩) | (go_at_call 45; refine (rsign_any _ _ _ v0 v1).mono ?_; rintro e w' ⟨rfl, rfl⟩))
  go_ret
  exact ⟨rfl, rfl⟩

theorem rcut_67 (v : Int) (v0 : 0 ≤ v) (v1 : v < 4294967296) (w : World) : Calls Try.prog 21 #[.int .i64 67, .int .u32 v] w fun e w' => e = .returned (.int .u32 (0)) ∧ w = w' := by
  go_enter Try.func21, Try.ntmps21
  go_wp2_with (first | (go_at_call 46; refine (rkind_67 _).mono ?_; rintro e w' ⟨rfl, rfl⟩) | (go_at_call 17; refine (rsize_67 _).mono ?_; rintro e w' ⟨rfl, rfl⟩) | (go_at_call 47; refine (rlow_4 v v0 v1 _).mono ?_; rintro e w' ⟨rfl, rfl⟩) | (go_at_call 45; refine (rsign_any _ _ _ v0 v1).mono ?_; rintro e w' ⟨rfl, rfl⟩))
  go_ret
  exact ⟨rfl, rfl⟩

theorem rext_68 (v : Int) (v0 : 0 ≤ v) (v1 : v < 4294967296) (w : World) : Calls Try.prog 19 #[.int .i64 68, .int .u32 v] w fun e w' => e = .returned (.int .u32 (W.bitsOf v 0 32)) ∧ w = w' := by
  go_enter Try.func19, Try.ntmps19
  go_wp2_with (first | (go_at_call 46; refine (rkind_68 _).mono ?_; rintro e w' ⟨rfl, rfl⟩) | (go_at_call 17; refine (rsize_68 _).mono ?_; rintro e w' ⟨rfl, rfl⟩) | (go_at_call 47; refine (rlow_4 v v0 v1 _).mono ?_; rintro e w' ⟨rfl, rfl⟩) | (go_at_call 45; refine (rsign_any _ _ _ v0 v1).mono ?_; rintro e w' ⟨rfl, rfl⟩))
  go_ret
  exact ⟨rfl, rfl⟩

theorem rcut_68 (v : Int) (v0 : 0 ≤ v) (v1 : v < 4294967296) (w : World) : Calls Try.prog 21 #[.int .i64 68, .int .u32 v] w fun e w' => e = .returned (.int .u32 (0)) ∧ w = w' := by
  go_enter Try.func21, Try.ntmps21
  go_wp2_with (first | (go_at_call 46; refine (rkind_68 _).mono ?_; rintro e w' ⟨rfl, rfl⟩) | (go_at_call 17; refine (rsize_68 _).mono ?_; rintro e w' ⟨rfl, rfl⟩) | (go_at_call 47; refine (rlow_4 v v0 v1 _).mono ?_; rintro e w' ⟨rfl, rfl⟩) | (go_at_call 45; refine (rsign_any _ _ _ v0 v1).mono ?_; rintro e w' ⟨rfl, rfl⟩))
  go_ret
  exact ⟨rfl, rfl⟩

theorem rext_69 (v : Int) (v0 : 0 ≤ v) (v1 : v < 4294967296) (w : World) : Calls Try.prog 19 #[.int .i64 69, .int .u32 v] w fun e w' => e = .returned (.int .u32 (W.bitsOf v 0 32)) ∧ w = w' := by
  go_enter Try.func19, Try.ntmps19
  go_wp2_with (first | (go_at_call 46; refine (rkind_69 _).mono ?_; rintro e w' ⟨rfl, rfl⟩) | (go_at_call 17; refine (rsize_69 _).mono ?_; rintro e w' ⟨rfl, rfl⟩) | (go_at_call 47; refine (rlow_4 v v0 v1 _).mono ?_; rintro e w' ⟨rfl, rfl⟩) | (go_at_call 45; refine (rsign_any _ _ _ v0 v1).mono ?_; rintro e w' ⟨rfl, rfl⟩))
  go_ret
  exact ⟨rfl, rfl⟩

theorem rcut_69 (v : Int) (v0 : 0 ≤ v) (v1 : v < 4294967296) (w : World) : Calls Try.prog 21 #[.int .i64 69, .int .u32 v] w fun e w' => e = .returned (.int .u32 (0)) ∧ w = w' := by
  go_enter Try.func21, Try.ntmps21
  go_wp2_with (first | (go_at_call 46; refine (rkind_69 _).mono ?_; rintro e w' ⟨rfl, rfl⟩) | (go_at_call 17; refine (rsize_69 _).mono ?_; rintro e w' ⟨rfl, rfl⟩) | (go_at_call 47; refine (rlow_4 v v0 v1 _).mono ?_; rintro e w' ⟨rfl, rfl⟩) | (go_at_call 45; refine (rsign_any _ _ _ v0 v1).mono ?_; rintro e w' ⟨rfl, rfl⟩))
  go_ret
  exact ⟨rfl, rfl⟩

theorem kind_far {op : Int} (h : W.memB op = false) : (decide (11 ≤ op) && decide (op ≤ 15)) = false ∧ (decide (16 ≤ op) && decide (op ≤ 18)) = false ∧ (decide (60 ≤ op) && decide (op ≤ 69)) = false := by
  simp [W.memB, W.fr] at h
  refine ⟨?_, ?_, ?_⟩ <;> simp <;> omega

end Go.Proofs.Ytheajilopplchab
