/- the document's cache: NewCache, Victim; New refused; plain, same. -/
import Derived.Test.YtlindkhmjkionaaDoorDacE
import Derived.Test.YtlindkhmjkionaaDoorSrtA
import Derived.Test.YtlindkhmjkionaaDoorCacK
namespace Go.Proofs.YtlindkhmjkionaaDoor
open Go.ChangeShapes Go.WideShapes Go.ChangeAt Go.RowKit
set_option linter.unusedVariables false
set_option linter.unusedSimpArgs false
def mkY (x y : Value) : Sem Value := Instr.makeSlice 53 x y
theorem mkY_eq (x y : Value) : Instr.makeSlice 53 x y = mkY x y := rfl
attribute [local go_sem ↓] ldE_eq stE_eq bdE_eq bsE_eq ldX_eq stX_eq bdX_eq bsX_eq mkX_eq mkY_eq
variable {n0 cb sb K : Nat} {ways : Int} {sv sv' sv'' : Nat → Value} {S S' : Nat → List W.En} {w w' w'' : World}

theorem dt_new (w : World) (K : Nat) (ways : Int) (T1 T2 : TypeId) : Dt w.heap.size (w.heap.size + 1) w.heap.size K ways nilV nilS ((w.alloc (.cells (nilC K) T1)).alloc (.cells #[.int .i64 K, .int .i64 ways, .slice (some ⟨w.heap.size, 0, none⟩) K K] T2)) := by
  have e2 : (w.alloc (.cells (nilC K) T1)).heap.size = w.heap.size + 1 := by simp
  refine ⟨?_, ?_, fun i hi => ⟨by simp [nilS, enX], Or.inl ⟨rfl, by simp [nilS]⟩⟩, by omega, (fun i hi e => by cases e), (fun i hi e => by cases e), (fun i j g _ _ e => by cases e), by omega, Nat.le_refl _⟩
  · have := bc_row (b := w.heap.size + 1) (n := 3) (f := dtF ways w.heap.size K) (w := (w.alloc (.cells (nilC K) T1)).alloc (.cells #[.int .i64 K, .int .i64 ways, .slice (some ⟨w.heap.size, 0, none⟩) K K] T2)) (cs := #[.int .i64 K, .int .i64 ways, .slice (some ⟨w.heap.size, 0, none⟩) K K]) (T := T2) (by rw [← e2]; exact heap_alloc_last _ _) (fun j hj => by
      match j, hj with
      | 0, _ | 1, _ | 2, _ => rfl)
    exact this
  · have h1 : Bc w.heap.size K nilV (w.alloc (.cells (nilC K) T1)) := bc_row (heap_alloc_last w _) (fun j hj => by simp [nilC, nilV, hj])
    exact h1.below (below_alloc _ _)
theorem made_setsY (K : Nat) (hK : K = 1 ∨ K = 2 ∨ K = 4 ∨ K = 8 ∨ K = 16 ∨ K = 32 ∨ K = 64) (w : World) : (Instr.makeSlice 53 (.int .i64 (K : Int)) (.int .i64 (K : Int))).run Tryd.prog w = .ok (.slice (some ⟨w.heap.size, 0, none⟩) K K) (w.alloc (.cells (nilC K) 52)) := by
  rcases hK with rfl | rfl | rfl | rfl | rfl | rfl | rfl <;> kernel_rfl
set_option maxRecDepth 10000 in
set_option maxHeartbeats 1600000 in
theorem rnew_ok (K : Nat) (hK : K = 1 ∨ K = 2 ∨ K = 4 ∨ K = 8 ∨ K = 16 ∨ K = 32 ∨ K = 64) (ways : Int) (h1 : 1 ≤ ways) (h8 : ways ≤ 8) (w : World) :
    Calls Tryd.prog 8 #[.int .i64 (K : Int), .int .i64 ways] w fun e w' => e = .returned (.pointer (some ⟨w.heap.size + 1, 0, none⟩)) ∧ Dt w.heap.size (w.heap.size + 1) w.heap.size K ways nilV nilS w' ∧ Below w.heap.size w w' := by
  have hm : ∀ w, (mkY (.int .i64 (K : Int)) (.int .i64 (K : Int))).run Tryd.prog w = .ok (.slice (some ⟨w.heap.size, 0, none⟩) K K) (w.alloc (.cells (nilC K) 52)) := made_setsY K hK
  have hand := pow_and K hK
  have k1 : (1 : Int) ≤ K := by omega
  have k2 : (K : Int) ≤ 64 := by omega
  clear hK
  have HN : Hid (Dt w.heap.size (w.heap.size + 1) w.heap.size K ways nilV nilS ((w.alloc (.cells (nilC K) 52)).alloc (.cells #[.int .i64 K, .int .i64 ways, .slice (some ⟨w.heap.size, 0, none⟩) K K] 55))) := dt_new w K ways _ _
  generalize nilC K = NC at *
  go_enter Tryd.func8, Tryd.ntmps8
  go_wp2
  go_ret
  exact ⟨rfl, HN.out, ((below_alloc _ _).alloc (by simp) _)⟩

/-- Numbers that New refuses. -/
def W.nok (s y : Int) : Prop := s < 1 ∨ 64 < s ∨ (1 ≤ s ∧ s ≤ 64 ∧ bits .and .i64 s (s - 1) ≠ 0) ∨ y < 1 ∨ 8 < y
theorem W.nok_or (s y : Int) : W.nok s y ∨ (∃ K : Nat, s = K ∧ (K = 1 ∨ K = 2 ∨ K = 4 ∨ K = 8 ∨ K = 16 ∨ K = 32 ∨ K = 64) ∧ 1 ≤ y ∧ y ≤ 8) := by
  by_cases h : W.nok s y
  · exact Or.inl h
  · right
    unfold W.nok at h
    have h1 : 1 ≤ s := by omega
    have h2 : s ≤ 64 := by omega
    have h3 : bits .and .i64 s (s - 1) = 0 := by
      by_cases q : bits .and .i64 s (s - 1) = 0
      · exact q
      · exact absurd (Or.inr (Or.inr (Or.inl ⟨h1, h2, q⟩))) h
    refine ⟨s.toNat, by omega, ?_, by omega, by omega⟩
    have key : ((List.range 65).all fun k => !(bits .and .i64 (k : Int) ((k : Int) - 1) == 0) || (k == 0) || (k == 1) || (k == 2) || (k == 4) || (k == 8) || (k == 16) || (k == 32) || (k == 64)) = true := by decide +kernel
    have hk := List.all_eq_true.1 key s.toNat (List.mem_range.2 (by omega))
    have hs : ((s.toNat : Nat) : Int) = s := by omega
    rw [hs, h3] at hk
    simp at hk
    omega
set_option maxRecDepth 10000 in
set_option maxHeartbeats 1600000 in
theorem rnew_bad (s y : Int) (hn : W.nok s y) (w : World) : Calls Tryd.prog 8 #[.int .i64 s, .int .i64 y] w fun e w' => e = .returned (.pointer none) ∧ w = w' := by
  unfold W.nok at hn
  have hn' : s < 1 ∨ (1 ≤ s ∧ 64 < s) ∨ (1 ≤ s ∧ s ≤ 64 ∧ bits .and .i64 s (s - 1) ≠ 0) ∨ (1 ≤ s ∧ s ≤ 64 ∧ bits .and .i64 s (s - 1) = 0 ∧ y < 1) ∨ (1 ≤ s ∧ s ≤ 64 ∧ bits .and .i64 s (s - 1) = 0 ∧ 1 ≤ y ∧ 8 < y) := by
    by_cases q : bits .and .i64 s (s - 1) = 0
    · omega
    · by_cases h1 : s < 1
      · exact Or.inl h1
      · by_cases h2 : 64 < s
        · exact Or.inr (Or.inl ⟨by omega, h2⟩)
        · exact Or.inr (Or.inr (Or.inl ⟨by omega, by omega, q⟩))
  clear hn
  rcases hn' with h1 | ⟨h1, h2⟩ | ⟨h1, h2, h3⟩ | ⟨h1, h2, h3, h4⟩ | ⟨h1, h2, h3, h4, h5⟩
  · go_enter Tryd.func8, Tryd.ntmps8
    go_wp2
    go_ret
    exact ⟨rfl, rfl⟩
  · go_enter Tryd.func8, Tryd.ntmps8
    go_wp2
    go_ret
    exact ⟨rfl, rfl⟩
  · have hq : (bits .and .i64 s (s - 1) == 0) = false := by simpa using h3
    go_enter Tryd.func8, Tryd.ntmps8
    go_wp2
    all_goals
      go_ret
      exact ⟨rfl, rfl⟩
  all_goals
    go_enter Tryd.func8, Tryd.ntmps8
    go_wp2
    go_ret
    exact ⟨rfl, rfl⟩
end Go.Proofs.YtlindkhmjkionaaDoor
