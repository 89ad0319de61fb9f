/- Texts in one: IsaB. -/
import Derived.Test.YtopehmpjfndgjaaJ07
/- The shape of each instruction, as the program answers it. -/
namespace Go.Proofs.Ytopehmpjfndgjaa
open Go.ChangeShapes Go.WideShapes Go.ChangeAt Go.RowKit
set_option linter.unusedVariables false
set_option linter.unusedSimpArgs false


set_option maxHeartbeats 6400000 in
theorem shapeOf_any (op : Int) (w : World) :
    Calls Try.prog 36 #[.int .i64 op] w fun e w' => e = .returned (shV (W.shp op)) ∧ Below w.heap.size w w' := by
  cases h0 : (op == 1)
  case true =>
    have hv : Hid (W.shp op = ⟨127, true, false, false, false, false, 85, 0, 0⟩) := by
      have : W.shp op = ⟨127, true, false, false, false, false, 85, 0, 0⟩ := by simp only [W.shp, h0, cond_true, cond_false]
      exact this
    go_enter Try.func36, Try.ntmps36
    go_wp2_with (go_at_call 39; refine (fr_any _ _ _ _).mono ?_; rintro e w' ⟨rfl, rfl⟩)
    exact bodyPost_ret (v := shV ⟨127, true, false, false, false, false, 85, 0, 0⟩) (by simp [results, Try.results36, go_sem]; rfl) rfl ⟨by rw [hv.out], (Below.refl _ _).alloc (Nat.le_refl _) _⟩
  cases h1 : (op == 2)
  case true =>
    have hv : Hid (W.shp op = ⟨127, true, false, false, false, false, 85, 0, 0⟩) := by
      have : W.shp op = ⟨127, true, false, false, false, false, 85, 0, 0⟩ := by simp only [W.shp, h0, h1, cond_true, cond_false]
      exact this
    go_enter Try.func36, Try.ntmps36
    go_wp2_with (go_at_call 39; refine (fr_any _ _ _ _).mono ?_; rintro e w' ⟨rfl, rfl⟩)
    exact bodyPost_ret (v := shV ⟨127, true, false, false, false, false, 85, 0, 0⟩) (by simp [results, Try.results36, go_sem]; rfl) rfl ⟨by rw [hv.out], (Below.refl _ _).alloc (Nat.le_refl _) _⟩
  cases h2 : (op == 3)
  case true =>
    have hv : Hid (W.shp op = ⟨127, true, false, false, false, false, 74, 0, 0⟩) := by
      have : W.shp op = ⟨127, true, false, false, false, false, 74, 0, 0⟩ := by simp only [W.shp, h0, h1, h2, cond_true, cond_false]
      exact this
    go_enter Try.func36, Try.ntmps36
    go_wp2_with (go_at_call 39; refine (fr_any _ _ _ _).mono ?_; rintro e w' ⟨rfl, rfl⟩)
    exact bodyPost_ret (v := shV ⟨127, true, false, false, false, false, 74, 0, 0⟩) (by simp [results, Try.results36, go_sem]; rfl) rfl ⟨by rw [hv.out], (Below.refl _ _).alloc (Nat.le_refl _) _⟩
  cases h3 : (op == 4)
  case true =>
    have hv : Hid (W.shp op = ⟨28799, true, true, false, false, false, 73, 0, 0⟩) := by
      have : W.shp op = ⟨28799, true, true, false, false, false, 73, 0, 0⟩ := by simp only [W.shp, h0, h1, h2, h3, cond_true, cond_false]
      exact this
    go_enter Try.func36, Try.ntmps36
    go_wp2_with (go_at_call 39; refine (fr_any _ _ _ _).mono ?_; rintro e w' ⟨rfl, rfl⟩)
    exact bodyPost_ret (v := shV ⟨28799, true, true, false, false, false, 73, 0, 0⟩) (by simp [results, Try.results36, go_sem]; rfl) rfl ⟨by rw [hv.out], (Below.refl _ _).alloc (Nat.le_refl _) _⟩
  cases h4 : (W.fr 11 op 15)
  case true =>
    have hv : Hid (W.shp op = ⟨28799, true, true, false, false, false, 73, 0, 0⟩) := by
      have : W.shp op = ⟨28799, true, true, false, false, false, 73, 0, 0⟩ := by simp only [W.shp, h0, h1, h2, h3, h4, cond_true, cond_false]
      exact this
    go_enter Try.func36, Try.ntmps36
    go_wp2_with (go_at_call 39; refine (fr_any _ _ _ _).mono ?_; rintro e w' ⟨rfl, rfl⟩)
    exact bodyPost_ret (v := shV ⟨28799, true, true, false, false, false, 73, 0, 0⟩) (by simp [results, Try.results36, go_sem]; rfl) rfl ⟨by rw [hv.out], (Below.refl _ _).alloc (Nat.le_refl _) _⟩
  cases h5 : (W.fr 19 op 24)
  case true =>
    have hv : Hid (W.shp op = ⟨28799, true, true, false, false, false, 73, 0, 0⟩) := by
      have : W.shp op = ⟨28799, true, true, false, false, false, 73, 0, 0⟩ := by simp only [W.shp, h0, h1, h2, h3, h4, h5, cond_true, cond_false]
      exact this
    go_enter Try.func36, Try.ntmps36
    go_wp2_with (go_at_call 39; refine (fr_any _ _ _ _).mono ?_; rintro e w' ⟨rfl, rfl⟩)
    exact bodyPost_ret (v := shV ⟨28799, true, true, false, false, false, 73, 0, 0⟩) (by simp [results, Try.results36, go_sem]; rfl) rfl ⟨by rw [hv.out], (Below.refl _ _).alloc (Nat.le_refl _) _⟩
  cases h6 : (W.fr 5 op 10)
  case true =>
    have hv : Hid (W.shp op = ⟨28799, false, true, true, false, false, 66, 0, 0⟩) := by
      have : W.shp op = ⟨28799, false, true, true, false, false, 66, 0, 0⟩ := by simp only [W.shp, h0, h1, h2, h3, h4, h5, h6, cond_true, cond_false]
      exact this
    go_enter Try.func36, Try.ntmps36
    go_wp2_with (go_at_call 39; refine (fr_any _ _ _ _).mono ?_; rintro e w' ⟨rfl, rfl⟩)
    exact bodyPost_ret (v := shV ⟨28799, false, true, true, false, false, 66, 0, 0⟩) (by simp [results, Try.results36, go_sem]; rfl) rfl ⟨by rw [hv.out], (Below.refl _ _).alloc (Nat.le_refl _) _⟩
  cases h7 : (W.fr 16 op 18)
  case true =>
    have hv : Hid (W.shp op = ⟨28799, false, true, true, false, false, 83, 0, 0⟩) := by
      have : W.shp op = ⟨28799, false, true, true, false, false, 83, 0, 0⟩ := by simp only [W.shp, h0, h1, h2, h3, h4, h5, h6, h7, cond_true, cond_false]
      exact this
    go_enter Try.func36, Try.ntmps36
    go_wp2_with (go_at_call 39; refine (fr_any _ _ _ _).mono ?_; rintro e w' ⟨rfl, rfl⟩)
    exact bodyPost_ret (v := shV ⟨28799, false, true, true, false, false, 83, 0, 0⟩) (by simp [results, Try.results36, go_sem]; rfl) rfl ⟨by rw [hv.out], (Below.refl _ _).alloc (Nat.le_refl _) _⟩
  cases h8 : (W.fr 25 op 27)
  case true =>
    have hv : Hid (W.shp op = ⟨4261441663, true, true, false, false, false, 0, 20, 5⟩) := by
      have : W.shp op = ⟨4261441663, true, true, false, false, false, 0, 20, 5⟩ := by simp only [W.shp, h0, h1, h2, h3, h4, h5, h6, h7, h8, cond_true, cond_false]
      exact this
    go_enter Try.func36, Try.ntmps36
    go_wp2_with (go_at_call 39; refine (fr_any _ _ _ _).mono ?_; rintro e w' ⟨rfl, rfl⟩)
    exact bodyPost_ret (v := shV ⟨4261441663, true, true, false, false, false, 0, 20, 5⟩) (by simp [results, Try.results36, go_sem]; rfl) rfl ⟨by rw [hv.out], (Below.refl _ _).alloc (Nat.le_refl _) _⟩
  cases h9 : (W.fr 28 op 37)
  case true =>
    have hv : Hid (W.shp op = ⟨4261441663, true, true, true, false, false, 0, 0, 0⟩) := by
      have : W.shp op = ⟨4261441663, true, true, true, false, false, 0, 0, 0⟩ := by simp only [W.shp, h0, h1, h2, h3, h4, h5, h6, h7, h8, h9, cond_true, cond_false]
      exact this
    go_enter Try.func36, Try.ntmps36
    go_wp2_with (go_at_call 39; refine (fr_any _ _ _ _).mono ?_; rintro e w' ⟨rfl, rfl⟩)
    exact bodyPost_ret (v := shV ⟨4261441663, true, true, true, false, false, 0, 0, 0⟩) (by simp [results, Try.results36, go_sem]; rfl) rfl ⟨by rw [hv.out], (Below.refl _ _).alloc (Nat.le_refl _) _⟩
  cases h10 : (W.fr 51 op 58)
  case true =>
    have hv : Hid (W.shp op = ⟨4261441663, true, true, true, false, false, 0, 0, 0⟩) := by
      have : W.shp op = ⟨4261441663, true, true, true, false, false, 0, 0, 0⟩ := by simp only [W.shp, h0, h1, h2, h3, h4, h5, h6, h7, h8, h9, h10, cond_true, cond_false]
      exact this
    go_enter Try.func36, Try.ntmps36
    go_wp2_with (go_at_call 39; refine (fr_any _ _ _ _).mono ?_; rintro e w' ⟨rfl, rfl⟩)
    exact bodyPost_ret (v := shV ⟨4261441663, true, true, true, false, false, 0, 0, 0⟩) (by simp [results, Try.results36, go_sem]; rfl) rfl ⟨by rw [hv.out], (Below.refl _ _).alloc (Nat.le_refl _) _⟩
  cases h11 : (op == 38)
  case true =>
    have hv : Hid (W.shp op = ⟨4027580415, false, false, false, false, false, 0, 20, 8⟩) := by
      have : W.shp op = ⟨4027580415, false, false, false, false, false, 0, 20, 8⟩ := by simp only [W.shp, h0, h1, h2, h3, h4, h5, h6, h7, h8, h9, h10, h11, cond_true, cond_false]
      exact this
    go_enter Try.func36, Try.ntmps36
    go_wp2_with (go_at_call 39; refine (fr_any _ _ _ _).mono ?_; rintro e w' ⟨rfl, rfl⟩)
    exact bodyPost_ret (v := shV ⟨4027580415, false, false, false, false, false, 0, 20, 8⟩) (by simp [results, Try.results36, go_sem]; rfl) rfl ⟨by rw [hv.out], (Below.refl _ _).alloc (Nat.le_refl _) _⟩
  cases h12 : (W.fr 39 op 43)
  case true =>
    have hv : Hid (W.shp op = ⟨4294967295, false, false, false, false, false, 0, 0, 0⟩) := by
      have : W.shp op = ⟨4294967295, false, false, false, false, false, 0, 0, 0⟩ := by simp only [W.shp, h0, h1, h2, h3, h4, h5, h6, h7, h8, h9, h10, h11, h12, cond_true, cond_false]
      exact this
    go_enter Try.func36, Try.ntmps36
    go_wp2_with (go_at_call 39; refine (fr_any _ _ _ _).mono ?_; rintro e w' ⟨rfl, rfl⟩)
    exact bodyPost_ret (v := shV ⟨4294967295, false, false, false, false, false, 0, 0, 0⟩) (by simp [results, Try.results36, go_sem]; rfl) rfl ⟨by rw [hv.out], (Below.refl _ _).alloc (Nat.le_refl _) _⟩
  cases h13 : (op == 44)
  case true =>
    have hv : Hid (W.shp op = ⟨4261445631, false, true, true, false, false, 0, 0, 0⟩) := by
      have : W.shp op = ⟨4261445631, false, true, true, false, false, 0, 0, 0⟩ := by simp only [W.shp, h0, h1, h2, h3, h4, h5, h6, h7, h8, h9, h10, h11, h12, h13, cond_true, cond_false]
      exact this
    go_enter Try.func36, Try.ntmps36
    go_wp2_with (go_at_call 39; refine (fr_any _ _ _ _).mono ?_; rintro e w' ⟨rfl, rfl⟩)
    exact bodyPost_ret (v := shV ⟨4261445631, false, true, true, false, false, 0, 0, 0⟩) (by simp [results, Try.results36, go_sem]; rfl) rfl ⟨by rw [hv.out], (Below.refl _ _).alloc (Nat.le_refl _) _⟩
  cases h14 : (W.fr 45 op 47)
  case true =>
    have hv : Hid (W.shp op = ⟨28799, true, true, false, true, false, 0, 0, 0⟩) := by
      have : W.shp op = ⟨28799, true, true, false, true, false, 0, 0, 0⟩ := by simp only [W.shp, h0, h1, h2, h3, h4, h5, h6, h7, h8, h9, h10, h11, h12, h13, h14, cond_true, cond_false]
      exact this
    go_enter Try.func36, Try.ntmps36
    go_wp2_with (go_at_call 39; refine (fr_any _ _ _ _).mono ?_; rintro e w' ⟨rfl, rfl⟩)
    exact bodyPost_ret (v := shV ⟨28799, true, true, false, true, false, 0, 0, 0⟩) (by simp [results, Try.results36, go_sem]; rfl) rfl ⟨by rw [hv.out], (Below.refl _ _).alloc (Nat.le_refl _) _⟩
  cases h15 : (W.fr 48 op 50)
  case true =>
    have hv : Hid (W.shp op = ⟨28799, true, false, false, true, false, 0, 15, 5⟩) := by
      have : W.shp op = ⟨28799, true, false, false, true, false, 0, 15, 5⟩ := by simp only [W.shp, h0, h1, h2, h3, h4, h5, h6, h7, h8, h9, h10, h11, h12, h13, h14, h15, cond_true, cond_false]
      exact this
    go_enter Try.func36, Try.ntmps36
    go_wp2_with (go_at_call 39; refine (fr_any _ _ _ _).mono ?_; rintro e w' ⟨rfl, rfl⟩)
    exact bodyPost_ret (v := shV ⟨28799, true, false, false, true, false, 0, 15, 5⟩) (by simp [results, Try.results36, go_sem]; rfl) rfl ⟨by rw [hv.out], (Below.refl _ _).alloc (Nat.le_refl _) _⟩
  cases h16 : (op == 59)
  case true =>
    have hv : Hid (W.shp op = ⟨4193284223, true, true, false, false, true, 0, 0, 0⟩) := by
      have : W.shp op = ⟨4193284223, true, true, false, false, true, 0, 0, 0⟩ := by simp only [W.shp, h0, h1, h2, h3, h4, h5, h6, h7, h8, h9, h10, h11, h12, h13, h14, h15, h16, cond_true, cond_false]
      exact this
    go_enter Try.func36, Try.ntmps36
    go_wp2_with (go_at_call 39; refine (fr_any _ _ _ _).mono ?_; rintro e w' ⟨rfl, rfl⟩)
    exact bodyPost_ret (v := shV ⟨4193284223, true, true, false, false, true, 0, 0, 0⟩) (by simp [results, Try.results36, go_sem]; rfl) rfl ⟨by rw [hv.out], (Below.refl _ _).alloc (Nat.le_refl _) _⟩
  cases h17 : (W.fr 60 op 69)
  case true =>
    have hv : Hid (W.shp op = ⟨4160778367, true, true, true, false, true, 0, 0, 0⟩) := by
      have : W.shp op = ⟨4160778367, true, true, true, false, true, 0, 0, 0⟩ := by simp only [W.shp, h0, h1, h2, h3, h4, h5, h6, h7, h8, h9, h10, h11, h12, h13, h14, h15, h16, h17, cond_true, cond_false]
      exact this
    go_enter Try.func36, Try.ntmps36
    go_wp2_with (go_at_call 39; refine (fr_any _ _ _ _).mono ?_; rintro e w' ⟨rfl, rfl⟩)
    exact bodyPost_ret (v := shV ⟨4160778367, true, true, true, false, true, 0, 0, 0⟩) (by simp [results, Try.results36, go_sem]; rfl) rfl ⟨by rw [hv.out], (Below.refl _ _).alloc (Nat.le_refl _) _⟩
  have hv : Hid (W.shp op = ⟨0, false, false, false, false, false, 0, 0, 0⟩) := by
    have : W.shp op = ⟨0, false, false, false, false, false, 0, 0, 0⟩ := by simp only [W.shp, h0, h1, h2, h3, h4, h5, h6, h7, h8, h9, h10, h11, h12, h13, h14, h15, h16, h17, cond_true, cond_false]
    exact this
  go_enter Try.func36, Try.ntmps36
  go_wp2_with (go_at_call 39; refine (fr_any _ _ _ _).mono ?_; rintro e w' ⟨rfl, rfl⟩)
  exact bodyPost_ret (v := shV ⟨0, false, false, false, false, false, 0, 0, 0⟩) (by simp [results, Try.results36, go_sem]; rfl) rfl ⟨by rw [hv.out], (Below.refl _ _).alloc (Nat.le_refl _) _⟩

end Go.Proofs.Ytopehmpjfndgjaa
