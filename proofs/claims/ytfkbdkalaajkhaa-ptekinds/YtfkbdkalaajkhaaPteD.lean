/- The document's entries, and the chapter's examples. -/
import Derived.Test.YtfkbdkalaajkhaaPteC
namespace Go.Proofs.Ytfkbdkalaajkhaa
open Go.ChangeShapes Go.WideShapes Go.ChangeAt Go.RowKit
set_option linter.unusedVariables false

theorem rneeds_any (e a : Int) (e0 : 0 ≤ e) (e1 : e < 4294967296) (w : World) : Calls Try.prog 16 #[.int .u32 e, .int .i64 a] w fun x w' => x = .returned (.int .u32 (W.needs e a)) ∧ w' = w := by
  by_cases h1 : a = 3
  · subst h1
    have ho : Hid (W.needs e 3 = bits .or .u32 e 192) := by
      have := W.or_two e e0 e1
      show W.needs e 3 = _
      rw [W.needs, if_pos rfl, this]
    go_enter Try.func16, Try.ntmps16
    go_wp2
    go_ret
    exact ⟨ret_int ho.out.symm, rfl⟩
  · go_enter Try.func16, Try.ntmps16
    go_wp2
    go_ret
    exact ⟨ret_int (by rw [W.needs, if_neg h1]), rfl⟩

theorem rcause_any (a : Int) (p : Bool) (w : World) : Calls Try.prog 18 #[.int .i64 a, .bool p] w fun x w' => x = .returned (.int .u32 (W.cause a p)) ∧ w' = w := by
  by_cases h1 : a = 1
  · subst h1
    cases p
    all_goals
      go_enter Try.func18, Try.ntmps18
      go_wp2
      go_ret
      exact ⟨rfl, rfl⟩
  · by_cases h2 : a = 2
    · subst h2
      cases p
      all_goals
        go_enter Try.func18, Try.ntmps18
        go_wp2
        go_ret
        exact ⟨rfl, rfl⟩
    · by_cases h3 : a = 3
      · subst h3
        cases p
        all_goals
          go_enter Try.func18, Try.ntmps18
          go_wp2
          go_ret
          exact ⟨rfl, rfl⟩
      · go_enter Try.func18, Try.ntmps18
        go_wp2
        go_ret
        exact ⟨ret_int (by simp [W.cause, h1, h2, h3]), rfl⟩

theorem rbad_any (e : Int) (w : World) : Calls Try.prog 9 #[.int .u32 e] w fun x w' => x = .returned (.bool (W.rbad e)) ∧ w' = w := by
  cases h1 : (bits .and .u32 e 1 == 0)
  · cases h2 : (bits .and .u32 e 6 == 4)
    · cases h4 : W.leaf e
      · go_enter Try.func9, Try.ntmps9
        go_wp2_with (go_at_call 11; refine (rleaf_any _ _).mono ?_; rintro e w' ⟨rfl, rfl⟩)
        go_ret
        exact ⟨by simp [W.rbad, h1, h2, h4], rfl⟩
      · go_enter Try.func9, Try.ntmps9
        go_wp2_with (go_at_call 11; refine (rleaf_any _ _).mono ?_; rintro e w' ⟨rfl, rfl⟩)
        go_ret
        exact ⟨by simp [W.rbad, h1, h2, h4], rfl⟩
    · go_enter Try.func9, Try.ntmps9
      go_wp2
      go_ret
      exact ⟨by simp [W.rbad, h1, h2], rfl⟩
  · go_enter Try.func9, Try.ntmps9
    go_wp2
    go_ret
    exact ⟨by simp [W.rbad, h1], rfl⟩

theorem rmay_hit (e a m : Int) (h1 : W.rbad e = false) (h2 : W.leaf e = true) (w : World) : Calls Try.prog 14 #[.int .u32 e, .int .i64 a, .int .i64 m] w fun x w' => x = .returned (.bool (W.rmay e a m)) ∧ w' = w := by
  by_cases g0 : m = 0 ∨ m = 3
  · have hr : W.rmay e a m = ((bits .and .u32 e (W.asked a) != 0) && ((bits .and .u32 e 16 != 0) == (m == 0))) := by
      rcases g0 with rfl | rfl <;> simp [W.rmay, h1, h2]
    have hk : ∀ b : Int, W.asked a = b → W.rmay e a m = ((bits .and .u32 e b != 0) && ((bits .and .u32 e 16 != 0) == (m == 0))) := by rintro b rfl; exact hr
    clear hr
    by_cases a1 : a = 1
    · subst a1
      have hk1 := hk 8 rfl
      clear hk
      rcases g0 with rfl | rfl
      all_goals
        cases g : (bits .and .u32 e 8 != 0)
        all_goals
          rw [g] at hk1
          have hk2 : Hid (_ = _) := hk1
          clear hk1
          go_enter Try.func14, Try.ntmps14
          go_wp2_with (first | (go_at_call 11; refine (rleaf_any _ _).mono ?_; rintro e w' ⟨rfl, rfl⟩) | (go_at_call 9; refine (rbad_any _ _).mono ?_; rintro e w' ⟨rfl, rfl⟩))
          go_ret
          exact ⟨by rw [hk2.out]; simp [bne], rfl⟩
    · by_cases a2 : a = 2
      · subst a2
        have hk1 := hk 2 rfl
        clear hk
        rcases g0 with rfl | rfl
        all_goals
          cases g : (bits .and .u32 e 2 != 0)
          all_goals
            rw [g] at hk1
            have hk2 : Hid (_ = _) := hk1
            clear hk1
            go_enter Try.func14, Try.ntmps14
            go_wp2_with (first | (go_at_call 11; refine (rleaf_any _ _).mono ?_; rintro e w' ⟨rfl, rfl⟩) | (go_at_call 9; refine (rbad_any _ _).mono ?_; rintro e w' ⟨rfl, rfl⟩))
            go_ret
            exact ⟨by rw [hk2.out]; simp [bne], rfl⟩
      · by_cases a3 : a = 3
        · subst a3
          have hk1 := hk 4 rfl
          clear hk
          rcases g0 with rfl | rfl
          all_goals
            cases g : (bits .and .u32 e 4 != 0)
            all_goals
              rw [g] at hk1
              have hk2 : Hid (_ = _) := hk1
              clear hk1
              go_enter Try.func14, Try.ntmps14
              go_wp2_with (first | (go_at_call 11; refine (rleaf_any _ _).mono ?_; rintro e w' ⟨rfl, rfl⟩) | (go_at_call 9; refine (rbad_any _ _).mono ?_; rintro e w' ⟨rfl, rfl⟩))
              go_ret
              exact ⟨by rw [hk2.out]; simp [bne], rfl⟩
        · have hk1 := hk 0 (by simp [W.asked, a1, a2, a3])
          clear hk
          rcases g0 with rfl | rfl
          all_goals
            cases g : (bits .and .u32 e 0 != 0)
            all_goals
              rw [g] at hk1
              have hk2 : Hid (_ = _) := hk1
              clear hk1
              go_enter Try.func14, Try.ntmps14
              go_wp2_with (first | (go_at_call 11; refine (rleaf_any _ _).mono ?_; rintro e w' ⟨rfl, rfl⟩) | (go_at_call 9; refine (rbad_any _ _).mono ?_; rintro e w' ⟨rfl, rfl⟩))
              go_ret
              exact ⟨by rw [hk2.out]; simp [bne], rfl⟩
  · have m0 : ¬ m = 0 := by omega
    have m3 : ¬ m = 3 := by omega
    have hr : Hid (W.rmay e a m = false) := by
      show W.rmay e a m = false
      simp [W.rmay, m0, m3]
    have q0 : (m != 0) = true := by simp [m0]
    have q3 : (m != 3) = true := by simp [m3]
    clear g0 m0 m3
    by_cases a1 : a = 1
    · subst a1
      go_enter Try.func14, Try.ntmps14
      go_wp2_with (first | (go_at_call 11; refine (rleaf_any _ _).mono ?_; rintro e w' ⟨rfl, rfl⟩) | (go_at_call 9; refine (rbad_any _ _).mono ?_; rintro e w' ⟨rfl, rfl⟩))
      go_ret
      exact ⟨by rw [hr.out]; rfl, rfl⟩
    · by_cases a2 : a = 2
      · subst a2
        go_enter Try.func14, Try.ntmps14
        go_wp2_with (first | (go_at_call 11; refine (rleaf_any _ _).mono ?_; rintro e w' ⟨rfl, rfl⟩) | (go_at_call 9; refine (rbad_any _ _).mono ?_; rintro e w' ⟨rfl, rfl⟩))
        go_ret
        exact ⟨by rw [hr.out]; rfl, rfl⟩
      · by_cases a3 : a = 3
        · subst a3
          go_enter Try.func14, Try.ntmps14
          go_wp2_with (first | (go_at_call 11; refine (rleaf_any _ _).mono ?_; rintro e w' ⟨rfl, rfl⟩) | (go_at_call 9; refine (rbad_any _ _).mono ?_; rintro e w' ⟨rfl, rfl⟩))
          go_ret
          exact ⟨by rw [hr.out]; rfl, rfl⟩
        · go_enter Try.func14, Try.ntmps14
          go_wp2_with (first | (go_at_call 11; refine (rleaf_any _ _).mono ?_; rintro e w' ⟨rfl, rfl⟩) | (go_at_call 9; refine (rbad_any _ _).mono ?_; rintro e w' ⟨rfl, rfl⟩))
          go_ret
          exact ⟨by rw [hr.out]; rfl, rfl⟩

theorem rmay_any (e a m : Int) (w : World) : Calls Try.prog 14 #[.int .u32 e, .int .i64 a, .int .i64 m] w fun x w' => x = .returned (.bool (W.rmay e a m)) ∧ w' = w := by
  cases h1 : W.rbad e
  · cases h2 : W.leaf e
    · go_enter Try.func14, Try.ntmps14
      go_wp2_with (first | (go_at_call 11; refine (rleaf_any _ _).mono ?_; rintro e w' ⟨rfl, rfl⟩) | (go_at_call 9; refine (rbad_any _ _).mono ?_; rintro e w' ⟨rfl, rfl⟩))
      go_ret
      exact ⟨by simp [W.rmay, h1, h2], rfl⟩
    · exact rmay_hit e a m h1 h2 w
  · go_enter Try.func14, Try.ntmps14
    go_wp2_with (go_at_call 9; refine (rbad_any _ _).mono ?_; rintro e w' ⟨rfl, rfl⟩)
    go_ret
    exact ⟨by simp [W.rmay, h1], rfl⟩

def exa (j : Nat) : Int := if j = 0 then 1 else if j = 1 then 2 else 64
def exb (j : Nat) : Int := if j = 0 then 1 else if j = 1 then 2 else if j = 2 then 16 else 64
theorem make_a (w : World) (B : Nat) (hB : w.heap.size = B) : Calls Try.prog 19 #[.int .u32 5, .slice (some ⟨B, 0, none⟩) 3 3] (w.alloc (.cells #[.int .u32 1, .int .u32 2, .int .u32 64] 22)) fun e w' => e = .returned (.int .u32 5187) ∧ Below w.heap.size w w' := by
  subst hB
  refine (make_any 5 (by decide) (by decide) w.heap.size 0 3 3 exa _ (by decide) (by simp) ?_).mono ?_
  · intro j hj
    match j, hj with
    | 0, _ => simp [go_sem, exa]
    | 1, _ => simp [go_sem, exa]
    | 2, _ => simp [go_sem, exa]
  · rintro e w' ⟨rfl, hb⟩
    exact ⟨ret_int (by decide +kernel), ((Below.refl _ _).alloc (Nat.le_refl _) _).trans (hb.mono (by simp))⟩
theorem make_b (w : World) (B : Nat) (hB : w.heap.size = B) : Calls Try.prog 19 #[.int .u32 5, .slice (some ⟨B, 0, none⟩) 4 4] (w.alloc (.cells #[.int .u32 1, .int .u32 2, .int .u32 16, .int .u32 64] 22)) fun e w' => e = .returned (.int .u32 5203) ∧ Below w.heap.size w w' := by
  subst hB
  refine (make_any 5 (by decide) (by decide) w.heap.size 0 4 4 exb _ (by decide) (by simp) ?_).mono ?_
  · intro j hj
    match j, hj with
    | 0, _ => simp [go_sem, exb]
    | 1, _ => simp [go_sem, exb]
    | 2, _ => simp [go_sem, exb]
    | 3, _ => simp [go_sem, exb]
  · rintro e w' ⟨rfl, hb⟩
    exact ⟨ret_int (by decide +kernel), ((Below.refl _ _).alloc (Nat.le_refl _) _).trans (hb.mono (by simp))⟩

theorem first8_any (w : World) : Calls Try.prog 7 #[] w fun e w' => e = .returned (.bool true) ∧ Below w.heap.size w w' := by
  have e1 : W.bad 5 = true := by decide +kernel
  have e2 : W.may 5203 2 0 = true := by decide +kernel
  have hb0 : Below w.heap.size w w := Below.refl _ _
  go_enter Try.func7, Try.ntmps7
  go_wp2_with (fail)
  refine (make_a _ _ rfl).mono ?_
  rintro e w1 ⟨rfl, hb1⟩
  go_wp2_with (first | (go_at_call 8; refine (bad_any _ _).mono ?_; rintro e w' ⟨rfl, rfl⟩) | (go_at_call 13; refine (may_any _ _ _ _).mono ?_; rintro e w' ⟨rfl, rfl⟩) | (go_at_call 19; refine (make_b _ _ rfl).mono ?_; rintro e w2 ⟨rfl, hb2⟩))
  go_ret
  exact ⟨rfl, hb1.trans (hb2.mono hb1.size)⟩
end Go.Proofs.Ytfkbdkalaajkhaa
