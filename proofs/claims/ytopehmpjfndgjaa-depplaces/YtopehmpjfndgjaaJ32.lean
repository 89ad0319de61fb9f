/- Texts in one: Ref2, RefI. -/
import Derived.Test.YtopehmpjfndgjaaJ04
import Derived.Test.YtopehmpjfndgjaaJ07
import Derived.Test.YtopehmpjfndgjaaJ31
/- What the document's own Place, Imm and Lay return: the same as the plain mirrors, for every word. -/
namespace Go.Proofs.Ytopehmpjfndgjaa
open Go.ChangeShapes Go.WideShapes Go.ChangeAt Go.RowKit
set_option linter.unusedVariables false

theorem place_any (v low n : Int) (w : World) (v0 : 0 ≤ v) (v1 : v < 4294967296) :
    Calls Try.prog 50 #[.int .u32 v, .int .i64 low, .int .i64 n] w fun e w' => e = .returned (.int .u32 (W.placed v low n)) ∧ w = w' := by
  cases hw : W.within low n
  · have hr : Hid (W.placed v low n = 0) := by
      have : W.placed v low n = 0 := by unfold W.placed; rw [hw]; rfl
      exact this
    have hn : low < 0 ∨ 31 < low ∨ n < 1 := by
      have h3 : ¬ (0 ≤ low ∧ low ≤ 31 ∧ 1 ≤ n) := by
        intro h; simp [W.within, h] at hw
      omega
    clear hw
    rcases hn with h | h | h
    · go_enter Try.func50, Try.ntmps50
      go_wp2
      go_ret
      exact ⟨ret_int hr.out.symm, rfl⟩
    · go_enter Try.func50, Try.ntmps50
      go_wp2
      all_goals
        go_ret
        exact ⟨ret_int hr.out.symm, rfl⟩
    · go_enter Try.func50, Try.ntmps50
      go_wp2
      all_goals
        go_ret
        exact ⟨ret_int hr.out.symm, rfl⟩
  · have hr : Hid (W.bitsOf v 0 n * 2 ^ low.toNat % 4294967296 = W.placed v low n) := W.placed_ref v low n v0 v1 hw
    have h3 : 0 ≤ low ∧ low ≤ 31 ∧ 1 ≤ n := by simpa [W.within] using hw
    obtain ⟨h1, h2, h3⟩ := h3
    clear hw
    go_enter Try.func50, Try.ntmps50
    go_wp2_with (go_at_call 56; refine (rbits_any _ _ _ _ v0 v1).mono ?_; rintro e w' ⟨rfl, rfl⟩)
    go_ret
    exact ⟨ret_int hr.out, rfl⟩

theorem other_letters (f : Int) (h : ¬ W.isF f) : (f == 73) = false ∧ (f == 83) = false ∧ (f == 66) = false ∧ (f == 85) = false ∧ (f == 74) = false := by
  unfold W.isF at h
  simp only [not_or] at h
  obtain ⟨h1, h2, h3, h4, h5⟩ := h
  exact ⟨by simpa using h1, by simpa using h2, by simpa using h3, by simpa using h4, by simpa using h5⟩

set_option maxHeartbeats 3200000 in
theorem rimm_any (f x : Int) (w : World) (x0 : 0 ≤ x) (x1 : x < 4294967296) :
    Calls Try.prog 51 #[.int .u8 f, .int .u32 x] w fun e w' => e = .returned (.int .u32 (W.imm f x)) ∧ w = w' := by
  by_cases h : W.isF f
  · rcases h with rfl | rfl | rfl | rfl | rfl
    · have hr : Hid (_ = W.imm 73 x) := W.imm_I x x0 x1
      go_enter Try.func51, Try.ntmps51
      go_wp2_with (first | (go_at_call 56; refine (rbits_any _ _ _ _ x0 x1).mono ?_; rintro e w' ⟨rfl, rfl⟩) | (go_at_call 57; refine (rsign_any _ _ _ (W.bitsOf_lt _ _ _).1 (W.bitsOf_lt _ _ _).2).mono ?_; rintro e w' ⟨rfl, rfl⟩))
      go_ret
      exact ⟨ret_int hr.out, rfl⟩
    · have hr : Hid (_ = W.imm 83 x) := W.imm_S x x0 x1
      go_enter Try.func51, Try.ntmps51
      go_wp2_with (first | (go_at_call 56; refine (rbits_any _ _ _ _ x0 x1).mono ?_; rintro e w' ⟨rfl, rfl⟩) | (go_at_call 57; refine (rsign_any _ _ _ (W.or_lt _ _).1 (W.or_lt _ _).2).mono ?_; rintro e w' ⟨rfl, rfl⟩))
      go_ret
      exact ⟨ret_int hr.out, rfl⟩
    · have hr : Hid (_ = W.imm 66 x) := W.imm_B x x0 x1
      go_enter Try.func51, Try.ntmps51
      go_wp2_with (first | (go_at_call 56; refine (rbits_any _ _ _ _ x0 x1).mono ?_; rintro e w' ⟨rfl, rfl⟩) | (go_at_call 57; refine (rsign_any _ _ _ (W.or_lt _ _).1 (W.or_lt _ _).2).mono ?_; rintro e w' ⟨rfl, rfl⟩))
      go_ret
      exact ⟨ret_int hr.out, rfl⟩
    · have hr : Hid (_ = W.imm 85 x) := W.imm_U x x0 x1
      go_enter Try.func51, Try.ntmps51
      go_wp2_with (first | (go_at_call 56; refine (rbits_any _ _ _ _ x0 x1).mono ?_; rintro e w' ⟨rfl, rfl⟩))
      go_ret
      exact ⟨ret_int hr.out, rfl⟩
    · have hr : Hid (_ = W.imm 74 x) := W.imm_J x x0 x1
      go_enter Try.func51, Try.ntmps51
      go_wp2_with (first | (go_at_call 56; refine (rbits_any _ _ _ _ x0 x1).mono ?_; rintro e w' ⟨rfl, rfl⟩) | (go_at_call 57; refine (rsign_any _ _ _ (W.or_lt _ _).1 (W.or_lt _ _).2).mono ?_; rintro e w' ⟨rfl, rfl⟩))
      go_ret
      exact ⟨ret_int hr.out, rfl⟩
  · have hz : Hid (0 = W.imm f x) := by
      have e := layout_other f h
      have : 0 = W.imm f x := by
        unfold W.imm W.sgn
        rw [e.1, if_pos (by decide)]
      exact this
    obtain ⟨e1, e2, e3, e4, e5⟩ := other_letters f h
    clear h
    go_enter Try.func51, Try.ntmps51
    go_wp2
    go_ret
    exact ⟨ret_int hz.out, rfl⟩

theorem lay_split (f x : Int) (hf : W.isF f) : (W.imm f (W.layw f x) != x) = !W.layB f x ∧ W.layV f x = bif W.layB f x then W.layw f x else 0 := by
  have hw := W.wid_in f hf
  have : (W.wid f == 0) = false := by
    have : ¬ W.wid f = 0 := by omega
    simpa using this
  refine ⟨?_, rfl⟩
  unfold W.layB
  rw [this]
  simp [bne]

set_option maxHeartbeats 3200000 in
theorem rlay_any (f x : Int) (w : World) (x0 : 0 ≤ x) (x1 : x < 4294967296) :
    Calls Try.prog 43 #[.int .u8 f, .int .u32 x] w fun e w' => e = .returned (.tuple #[.int .u32 (W.layV f x), .bool (W.layB f x)]) ∧ w = w' := by
  by_cases h : W.isF f
  · rcases h with rfl | rfl | rfl | rfl | rfl
    · have hL : Hid (_ = W.layw 73 x) := W.lay_I x x0 x1
      obtain ⟨hs, hv⟩ := lay_split 73 x (by simp [W.isF])
      have HV : Hid (W.layV 73 x = bif W.layB 73 x then W.layw 73 x else 0) := hv
      clear hv
      rw [← hL.out] at hs
      cases hB : W.layB 73 x
      all_goals
        rw [hB] at hs
        simp only [Bool.not_true, Bool.not_false] at hs
        have HB : Hid (W.layB 73 x = _) := hB
        clear hB
        go_enter Try.func43, Try.ntmps43
        go_wp2_with (first | (go_at_call 50; refine (place_any _ _ _ _ (by omega) (by omega)).mono ?_; rintro e w' ⟨rfl, rfl⟩) | (go_at_call 51; refine (rimm_any _ _ _ (W.placed_lt _ _ _).1 (W.placed_lt _ _ _).2).mono ?_; rintro e w' ⟨rfl, rfl⟩))
        first
        | exact bodyPost_ret (v := .tuple #[.int .u32 0, .bool false]) (by simp [results, Try.results43, go_sem]) rfl ⟨by rw [HV.out, HB.out]; rfl, rfl⟩
        | exact bodyPost_ret (v := .tuple #[.int .u32 _, .bool true]) (by simp [results, Try.results43, go_sem]; rfl) rfl ⟨by rw [HV.out, HB.out, cond_true, ← hL.out], rfl⟩
    · have hL : Hid (_ = W.layw 83 x) := W.lay_S x x0 x1
      obtain ⟨hs, hv⟩ := lay_split 83 x (by simp [W.isF])
      have HV : Hid (W.layV 83 x = bif W.layB 83 x then W.layw 83 x else 0) := hv
      clear hv
      rw [← hL.out] at hs
      cases hB : W.layB 83 x
      all_goals
        rw [hB] at hs
        simp only [Bool.not_true, Bool.not_false] at hs
        have HB : Hid (W.layB 83 x = _) := hB
        clear hB
        go_enter Try.func43, Try.ntmps43
        go_wp2_with (first | (go_at_call 50; refine (place_any _ _ _ _ (by omega) (by omega)).mono ?_; rintro e w' ⟨rfl, rfl⟩) | (go_at_call 51; refine (rimm_any _ _ _ (W.or_lt _ _).1 (W.or_lt _ _).2).mono ?_; rintro e w' ⟨rfl, rfl⟩))
        first
        | exact bodyPost_ret (v := .tuple #[.int .u32 0, .bool false]) (by simp [results, Try.results43, go_sem]) rfl ⟨by rw [HV.out, HB.out]; rfl, rfl⟩
        | exact bodyPost_ret (v := .tuple #[.int .u32 _, .bool true]) (by simp [results, Try.results43, go_sem]; rfl) rfl ⟨by rw [HV.out, HB.out, cond_true, ← hL.out], rfl⟩
    · have hL : Hid (_ = W.layw 66 x) := W.lay_B x x0 x1
      obtain ⟨hs, hv⟩ := lay_split 66 x (by simp [W.isF])
      have HV : Hid (W.layV 66 x = bif W.layB 66 x then W.layw 66 x else 0) := hv
      clear hv
      rw [← hL.out] at hs
      cases hB : W.layB 66 x
      all_goals
        rw [hB] at hs
        simp only [Bool.not_true, Bool.not_false] at hs
        have HB : Hid (W.layB 66 x = _) := hB
        clear hB
        go_enter Try.func43, Try.ntmps43
        go_wp2_with (first | (go_at_call 50; refine (place_any _ _ _ _ (by omega) (by omega)).mono ?_; rintro e w' ⟨rfl, rfl⟩) | (go_at_call 51; refine (rimm_any _ _ _ (W.or_lt _ _).1 (W.or_lt _ _).2).mono ?_; rintro e w' ⟨rfl, rfl⟩))
        first
        | exact bodyPost_ret (v := .tuple #[.int .u32 0, .bool false]) (by simp [results, Try.results43, go_sem]) rfl ⟨by rw [HV.out, HB.out]; rfl, rfl⟩
        | exact bodyPost_ret (v := .tuple #[.int .u32 _, .bool true]) (by simp [results, Try.results43, go_sem]; rfl) rfl ⟨by rw [HV.out, HB.out, cond_true, ← hL.out], rfl⟩
    · have hL : Hid (_ = W.layw 85 x) := W.lay_U x x0 x1
      obtain ⟨hs, hv⟩ := lay_split 85 x (by simp [W.isF])
      have HV : Hid (W.layV 85 x = bif W.layB 85 x then W.layw 85 x else 0) := hv
      clear hv
      rw [← hL.out] at hs
      cases hB : W.layB 85 x
      all_goals
        rw [hB] at hs
        simp only [Bool.not_true, Bool.not_false] at hs
        have HB : Hid (W.layB 85 x = _) := hB
        clear hB
        go_enter Try.func43, Try.ntmps43
        go_wp2_with (first | (go_at_call 50; refine (place_any _ _ _ _ (by omega) (by omega)).mono ?_; rintro e w' ⟨rfl, rfl⟩) | (go_at_call 51; refine (rimm_any _ _ _ (W.placed_lt _ _ _).1 (W.placed_lt _ _ _).2).mono ?_; rintro e w' ⟨rfl, rfl⟩))
        first
        | exact bodyPost_ret (v := .tuple #[.int .u32 0, .bool false]) (by simp [results, Try.results43, go_sem]) rfl ⟨by rw [HV.out, HB.out]; rfl, rfl⟩
        | exact bodyPost_ret (v := .tuple #[.int .u32 _, .bool true]) (by simp [results, Try.results43, go_sem]; rfl) rfl ⟨by rw [HV.out, HB.out, cond_true, ← hL.out], rfl⟩
    · have hL : Hid (_ = W.layw 74 x) := W.lay_J x x0 x1
      obtain ⟨hs, hv⟩ := lay_split 74 x (by simp [W.isF])
      have HV : Hid (W.layV 74 x = bif W.layB 74 x then W.layw 74 x else 0) := hv
      clear hv
      rw [← hL.out] at hs
      cases hB : W.layB 74 x
      all_goals
        rw [hB] at hs
        simp only [Bool.not_true, Bool.not_false] at hs
        have HB : Hid (W.layB 74 x = _) := hB
        clear hB
        go_enter Try.func43, Try.ntmps43
        go_wp2_with (first | (go_at_call 50; refine (place_any _ _ _ _ (by omega) (by omega)).mono ?_; rintro e w' ⟨rfl, rfl⟩) | (go_at_call 51; refine (rimm_any _ _ _ (W.or_lt _ _).1 (W.or_lt _ _).2).mono ?_; rintro e w' ⟨rfl, rfl⟩))
        first
        | exact bodyPost_ret (v := .tuple #[.int .u32 0, .bool false]) (by simp [results, Try.results43, go_sem]) rfl ⟨by rw [HV.out, HB.out]; rfl, rfl⟩
        | exact bodyPost_ret (v := .tuple #[.int .u32 _, .bool true]) (by simp [results, Try.results43, go_sem]; rfl) rfl ⟨by rw [HV.out, HB.out, cond_true, ← hL.out], rfl⟩
  · have hz : Hid (W.layB f x = false) := by
      have e := layout_other f h
      have : W.layB f x = false := by
        unfold W.layB
        rw [e.1]; rfl
      exact this
    have hv : Hid (W.layV f x = 0) := by
      have : W.layV f x = 0 := by
        unfold W.layV
        rw [hz.out]; rfl
      exact this
    obtain ⟨e1, e2, e3, e4, e5⟩ := other_letters f h
    clear h
    go_enter Try.func43, Try.ntmps43
    go_wp2
    exact bodyPost_ret (v := .tuple #[.int .u32 0, .bool false]) (by simp [results, Try.results43, go_sem]) rfl ⟨by rw [hz.out, hv.out], rfl⟩
end Go.Proofs.Ytopehmpjfndgjaa

/- What the document's reg and imm return. -/
namespace Go.Proofs.Ytopehmpjfndgjaa
open Go.ChangeShapes Go.WideShapes Go.ChangeAt Go.RowKit
set_option linter.unusedVariables false
set_option linter.unusedSimpArgs false

theorem reg_any (n : Int) (w : World) : Calls Try.prog 33 #[.int .i64 n] w fun e w' => e = .returned (.bool (W.fr 0 n 31)) ∧ w = w' := by
  by_cases h1 : 0 ≤ n
  · go_enter Try.func33, Try.ntmps33
    go_wp2
    go_ret
    exact ⟨by simp [W.fr, h1], rfl⟩
  · go_enter Try.func33, Try.ntmps33
    go_wp2
    go_ret
    exact ⟨by simp [W.fr]; omega, rfl⟩

namespace W
/-- The document's immediates, by a row's letter. -/
def rimm (f x : Int) : Int := bif f == 90 then bitsOf x 20 5 else bif f == 67 then bitsOf x 15 5 else bif f == 70 then bitsOf x 20 8 else imm f x
def rlayV (f v : Int) : Int := bif f == 0 then 0 else bif f == 90 then v * 1048576 % 4294967296 else bif f == 67 then v * 32768 % 4294967296 else bif f == 70 then v * 1048576 % 4294967296 else layV f v
def rlayB (f v : Int) : Bool := bif f == 0 then v == 0 else bif f == 90 then decide (v < 32) else bif f == 67 then decide (v < 32) else bif f == 70 then decide (v < 256) else layB f v
end W

theorem lay_0 (v : Int) (w : World) : Calls Try.prog 32 #[.int .u8 0, .int .u32 v] w fun e w' => e = .returned (.tuple #[.int .u32 (0), .bool (v == 0)]) ∧ w = w' := by
  go_enter Try.func32, Try.ntmps32
  go_wp2
  exact bodyPost_ret (v := .tuple #[.int .u32 (0), .bool (v == 0)]) (by simp [results, Try.results32, go_sem]) rfl ⟨rfl, rfl⟩

theorem lay_90 (v : Int) (w : World) : Calls Try.prog 32 #[.int .u8 90, .int .u32 v] w fun e w' => e = .returned (.tuple #[.int .u32 (v * 1048576 % 4294967296), .bool (decide (v < 32))]) ∧ w = w' := by
  go_enter Try.func32, Try.ntmps32
  go_wp2
  exact bodyPost_ret (v := .tuple #[.int .u32 (v * 1048576 % 4294967296), .bool (decide (v < 32))]) (by simp [results, Try.results32, go_sem]) rfl ⟨rfl, rfl⟩

theorem lay_67 (v : Int) (w : World) : Calls Try.prog 32 #[.int .u8 67, .int .u32 v] w fun e w' => e = .returned (.tuple #[.int .u32 (v * 32768 % 4294967296), .bool (decide (v < 32))]) ∧ w = w' := by
  go_enter Try.func32, Try.ntmps32
  go_wp2
  exact bodyPost_ret (v := .tuple #[.int .u32 (v * 32768 % 4294967296), .bool (decide (v < 32))]) (by simp [results, Try.results32, go_sem]) rfl ⟨rfl, rfl⟩

theorem lay_70 (v : Int) (w : World) : Calls Try.prog 32 #[.int .u8 70, .int .u32 v] w fun e w' => e = .returned (.tuple #[.int .u32 (v * 1048576 % 4294967296), .bool (decide (v < 256))]) ∧ w = w' := by
  go_enter Try.func32, Try.ntmps32
  go_wp2
  exact bodyPost_ret (v := .tuple #[.int .u32 (v * 1048576 % 4294967296), .bool (decide (v < 256))]) (by simp [results, Try.results32, go_sem]) rfl ⟨rfl, rfl⟩

theorem layl_any (f v : Int) (w : World) (x0 : 0 ≤ v) (x1 : v < 4294967296) : Calls Try.prog 32 #[.int .u8 f, .int .u32 v] w fun e w' => e = .returned (.tuple #[.int .u32 (W.rlayV f v), .bool (W.rlayB f v)]) ∧ w = w' := by
  cases h3 : (f == 0)
  case true => obtain rfl := beq_iff_eq.1 h3; exact lay_0 v w
  cases h0 : (f == 90)
  case true => obtain rfl := beq_iff_eq.1 h0; exact lay_90 v w
  cases h1 : (f == 67)
  case true => obtain rfl := beq_iff_eq.1 h1; exact lay_67 v w
  cases h2 : (f == 70)
  case true => obtain rfl := beq_iff_eq.1 h2; exact lay_70 v w
  have hv : Hid (W.rlayV f v = W.layV f v ∧ W.rlayB f v = W.layB f v) := (⟨by rw [W.rlayV, h0, h1, h2, h3]; rfl, by rw [W.rlayB, h0, h1, h2, h3]; rfl⟩ : W.rlayV f v = W.layV f v ∧ W.rlayB f v = W.layB f v)
  go_enter Try.func32, Try.ntmps32
  go_wp2_with (go_at_call 43; refine (rlay_any _ _ _ x0 x1).mono ?_; rintro e w' ⟨rfl, rfl⟩)
  exact bodyPost_ret (v := .tuple #[.int .u32 (W.layV f v), .bool (W.layB f v)]) (by simp [results, Try.results32, go_sem]) rfl ⟨by rw [hv.out.1, hv.out.2], rfl⟩

end Go.Proofs.Ytopehmpjfndgjaa
