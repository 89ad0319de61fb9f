/- The document's parts of a line. -/
import Derived.Test.YtjdiepklgcdamaaDoorMemL
namespace Go.Proofs.YtjdiepklgcdamaaDoor
open Go.ChangeShapes Go.WideShapes Go.ChangeAt Go.RowKit
set_option linter.unusedVariables false
set_option linter.unusedSimpArgs false

theorem rpart_k (L : Nat → Int) (hL : ∀ k, 0 ≤ L k ∧ L k < 4294967296) (A k : Nat) (s : Int) (w : World) (hA : A < 4294967296) (ha : W.al A s = true) (hk : (A : Int) % 16 / 4 = k) (hk4 : k = 0 ∨ k = 1 ∨ k = 2 ∨ k = 3) : Calls Tryd.prog 28 #[lineV L, .int .u32 (A : Int), .int .i64 s] w fun e w' => e = .returned (.int .u32 (W.part L A s)) ∧ Below w.heap.size w w' := by
  have hr : Hid (W.part L A s = W.bitsOf (L k) (8 * (A % 4) : Int) (8 * s)) := by
    have : W.part L A s = W.bitsOf (L k) (8 * (A % 4) : Int) (8 * s) := by
      simp only [W.part, ha, cond_true, W.pt]
      rw [show A % 16 / 4 = k by omega, Int.mul_comm (A % 4 : Int) 8, Int.mul_comm s 8]
    exact this
  obtain ⟨s1, s2⟩ := al_size ha
  have l0 := hL 0
  have l1 := hL 1
  have l2 := hL 2
  have l3 := hL 3
  unfold lineV
  rcases hk4 with rfl | rfl | rfl | rfl
  all_goals
    go_enter Tryd.func28, Tryd.ntmps28
    go_wp2_with (first
      | (go_at_call 41; refine (rfits_any _ _ _ hA).mono ?_; rw [ha]; rintro e w' ⟨rfl, rfl⟩)
      | (go_at_call 42; refine (rbits_any _ _ _ _ (by first | exact l0.1 | exact l1.1 | exact l2.1 | exact l3.1) (by first | exact l0.2 | exact l1.2 | exact l2.2 | exact l3.2)).mono ?_; rintro e w' ⟨rfl, rfl⟩))
    go_ret
    exact ⟨ret_int hr.out.symm, ((Below.refl _ _).alloc (Nat.le_refl _) _)⟩
theorem rpart_no (L : Nat → Int) (A : Nat) (s : Int) (w : World) (hA : A < 4294967296) (ha : W.al A s = false) : Calls Tryd.prog 28 #[lineV L, .int .u32 (A : Int), .int .i64 s] w fun e w' => e = .returned (.int .u32 (W.part L A s)) ∧ Below w.heap.size w w' := by
  have hr : Hid (W.part L A s = 0) := by
    have : W.part L A s = 0 := by simp [W.part, ha]
    exact this
  unfold lineV
  go_enter Tryd.func28, Tryd.ntmps28
  go_wp2_with (go_at_call 41; refine (rfits_any _ _ _ hA).mono ?_; rw [ha]; rintro e w' ⟨rfl, rfl⟩)
  go_ret
  exact ⟨ret_int hr.out.symm, ((Below.refl _ _).alloc (Nat.le_refl _) _)⟩
theorem rpart_any (L : Nat → Int) (hL : ∀ k, 0 ≤ L k ∧ L k < 4294967296) (A : Nat) (s : Int) (w : World) (hA : A < 4294967296) : Calls Tryd.prog 28 #[lineV L, .int .u32 (A : Int), .int .i64 s] w fun e w' => e = .returned (.int .u32 (W.part L A s)) ∧ Below w.heap.size w w' := by
  cases ha : W.al A s
  · exact rpart_no L A s w hA ha
  · exact rpart_k L hL A (A % 16 / 4) s w hA ha (by omega) (by omega)

theorem rwith_no (L : Nat → Int) (A : Nat) (s v : Int) (w : World) (hA : A < 4294967296) (ha : W.al A s = false) : Calls Tryd.prog 29 #[lineV L, .int .u32 (A : Int), .int .i64 s, .int .u32 v] w fun e w' => e = .returned (lineV (W.wl L A s v)) ∧ Below w.heap.size w w' := by
  have hr : Hid (W.wl L A s v = L) := by
    have : W.wl L A s v = L := by funext j; simp [W.wl, ha]
    exact this
  unfold lineV
  go_enter Tryd.func29, Tryd.ntmps29
  go_wp2_with (go_at_call 41; refine (rfits_any _ _ _ hA).mono ?_; rw [ha]; rintro e w' ⟨rfl, rfl⟩)
  exact bodyPost_ret (v := lineV L) (by simp [results, Tryd.results29, go_sem, lineV]) rfl ⟨by rw [hr.out]; rfl, ((Below.refl _ _).alloc (Nat.le_refl _) _).alloc (by simp) _⟩

end Go.Proofs.YtjdiepklgcdamaaDoor
