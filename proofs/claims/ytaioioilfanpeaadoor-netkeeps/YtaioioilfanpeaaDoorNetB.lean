/- net: Class, end. -/
import Derived.Test.YtaioioilfanpeaaDoorNetA
namespace Go.Proofs.YtaioioilfanpeaaDoor
open Go.ChangeShapes Go.WideShapes Go.ChangeAt Go.RowKit
set_option linter.unusedVariables false
set_option linter.unusedSimpArgs false

theorem class_any (k : Int) (w : World) : Calls Tryd.prog 25 #[.int .i64 k] w fun e w' => e = .returned (.int .i64 (W.cls k)) ∧ w = w' := by
  by_cases h : 1 ≤ k ∧ k ≤ 12
  · have h' : k = 1 ∨ k = 2 ∨ k = 3 ∨ k = 4 ∨ k = 5 ∨ k = 6 ∨ k = 7 ∨ k = 8 ∨ k = 9 ∨ k = 10 ∨ k = 11 ∨ k = 12 := by omega
    clear h
    rcases h' with h | h | h | h | h | h | h | h | h | h | h | h
    all_goals
      subst h
      go_enter Tryd.func25, Tryd.ntmps25
      go_wp2
      go_ret
      exact ⟨rfl, rfl⟩
  · have e : W.cls k = -1 := by unfold W.cls; rw [if_neg (by omega), if_neg (by omega), if_neg (by omega)]
    have n1 : ¬ k = 1 := by omega
    have n2 : ¬ k = 2 := by omega
    have n3 : ¬ k = 3 := by omega
    have n4 : ¬ k = 4 := by omega
    have n5 : ¬ k = 5 := by omega
    have n6 : ¬ k = 6 := by omega
    have n7 : ¬ k = 7 := by omega
    have n8 : ¬ k = 8 := by omega
    have n9 : ¬ k = 9 := by omega
    have n10 : ¬ k = 10 := by omega
    have n11 : ¬ k = 11 := by omega
    have n12 : ¬ k = 12 := by omega
    rw [e]
    clear e h
    go_enter Tryd.func25, Tryd.ntmps25
    go_wp2
    go_ret
    exact ⟨rfl, rfl⟩

set_option maxHeartbeats 1600000 in
theorem end_up (nb : Nat) (h f t c : Int) (hc : c = 0 ∨ c = 2) (w : World) (h0 : w.cell? ⟨nb, 0, none⟩ = some (.int .i64 h)) :
    Calls Tryd.prog 35 #[.pointer (some ⟨nb, 0, none⟩), .int .i64 f, .int .i64 t, .int .i64 c] w fun e w' => e = .returned (.tuple #[.int .i64 (W.endH h f t c), .bool (W.endB h f t c)]) ∧ w = w' := by
  have eb : W.endB h f t c = decide (t = -1 ∧ 0 ≤ f ∧ f < h) := by unfold W.endB; rw [if_pos hc]
  have eh : W.endH h f t c = if t = -1 ∧ 0 ≤ f ∧ f < h then f else 0 := by
    unfold W.endH
    rw [eb, if_neg (by omega : ¬ c = 1)]
    by_cases q : t = -1 ∧ 0 ≤ f ∧ f < h <;> simp [q]
  rw [eb, eh]
  clear eb eh
  by_cases e1 : t = -1
  · by_cases e2 : f < 0
    · rw [if_neg (by omega), decide_eq_false (by omega)]
      subst e1
      rcases hc with rfl | rfl
      all_goals
        go_enter Tryd.func35, Tryd.ntmps35
        go_wp2
        exact bodyPost_ret (v := .tuple #[.int .i64 0, .bool false]) (by simp [results, Tryd.results35, go_sem]) rfl ⟨rfl, rfl⟩
    · by_cases e3 : h ≤ f
      · rw [if_neg (by omega), decide_eq_false (by omega)]
        subst e1
        rcases hc with rfl | rfl
        all_goals
          go_enter Tryd.func35, Tryd.ntmps35
          go_wp2
          exact bodyPost_ret (v := .tuple #[.int .i64 0, .bool false]) (by simp [results, Tryd.results35, go_sem]) rfl ⟨rfl, rfl⟩
      · rw [if_pos (by omega), decide_eq_true (by omega)]
        subst e1
        rcases hc with rfl | rfl
        all_goals
          go_enter Tryd.func35, Tryd.ntmps35
          go_wp2
          exact bodyPost_ret (v := .tuple #[.int .i64 f, .bool true]) (by simp [results, Tryd.results35, go_sem]) rfl ⟨rfl, rfl⟩
  · rw [if_neg (by omega), decide_eq_false (by omega)]
    rcases hc with rfl | rfl
    all_goals
      go_enter Tryd.func35, Tryd.ntmps35
      go_wp2
      exact bodyPost_ret (v := .tuple #[.int .i64 0, .bool false]) (by simp [results, Tryd.results35, go_sem]) rfl ⟨rfl, rfl⟩

set_option maxHeartbeats 1600000 in
theorem end_down (nb : Nat) (h f t : Int) (w : World) (h0 : w.cell? ⟨nb, 0, none⟩ = some (.int .i64 h)) :
    Calls Tryd.prog 35 #[.pointer (some ⟨nb, 0, none⟩), .int .i64 f, .int .i64 t, .int .i64 1] w fun e w' => e = .returned (.tuple #[.int .i64 (W.endH h f t 1), .bool (W.endB h f t 1)]) ∧ w = w' := by
  have eb : W.endB h f t 1 = decide (f = -1 ∧ 0 ≤ t ∧ t < h) := by unfold W.endB; rw [if_neg (by decide), if_pos rfl]
  have eh : W.endH h f t 1 = if f = -1 ∧ 0 ≤ t ∧ t < h then t else 0 := by
    unfold W.endH
    rw [eb, if_pos rfl]
    by_cases q : f = -1 ∧ 0 ≤ t ∧ t < h <;> simp [q]
  rw [eb, eh]
  clear eb eh
  by_cases e1 : f = -1
  · by_cases e2 : t < 0
    · rw [if_neg (by omega), decide_eq_false (by omega)]
      subst e1
      go_enter Tryd.func35, Tryd.ntmps35
      go_wp2
      exact bodyPost_ret (v := .tuple #[.int .i64 0, .bool false]) (by simp [results, Tryd.results35, go_sem]) rfl ⟨rfl, rfl⟩
    · by_cases e3 : h ≤ t
      · rw [if_neg (by omega), decide_eq_false (by omega)]
        subst e1
        go_enter Tryd.func35, Tryd.ntmps35
        go_wp2
        exact bodyPost_ret (v := .tuple #[.int .i64 0, .bool false]) (by simp [results, Tryd.results35, go_sem]) rfl ⟨rfl, rfl⟩
      · rw [if_pos (by omega), decide_eq_true (by omega)]
        subst e1
        go_enter Tryd.func35, Tryd.ntmps35
        go_wp2
        exact bodyPost_ret (v := .tuple #[.int .i64 t, .bool true]) (by simp [results, Tryd.results35, go_sem]) rfl ⟨rfl, rfl⟩
  · rw [if_neg (by omega), decide_eq_false (by omega)]
    go_enter Tryd.func35, Tryd.ntmps35
    go_wp2
    exact bodyPost_ret (v := .tuple #[.int .i64 0, .bool false]) (by simp [results, Tryd.results35, go_sem]) rfl ⟨rfl, rfl⟩

set_option maxHeartbeats 1600000 in
theorem end_any (nb : Nat) (h f t c : Int) (w : World) (h0 : w.cell? ⟨nb, 0, none⟩ = some (.int .i64 h)) :
    Calls Tryd.prog 35 #[.pointer (some ⟨nb, 0, none⟩), .int .i64 f, .int .i64 t, .int .i64 c] w fun e w' => e = .returned (.tuple #[.int .i64 (W.endH h f t c), .bool (W.endB h f t c)]) ∧ w = w' := by
  by_cases h1 : c = 0 ∨ c = 2
  · exact end_up nb h f t c h1 w h0
  · by_cases h2 : c = 1
    · subst h2
      exact end_down nb h f t w h0
    · have eb : W.endB h f t c = false := by unfold W.endB; rw [if_neg h1, if_neg h2]
      have eh : W.endH h f t c = 0 := by unfold W.endH; rw [eb]; rfl
      have c0 : ¬ c = 0 := by omega
      have c1 : ¬ c = 2 := by omega
      rw [eb, eh]
      clear eb eh h1
      go_enter Tryd.func35, Tryd.ntmps35
      go_wp2
      exact bodyPost_ret (v := .tuple #[.int .i64 0, .bool false]) (by simp [results, Tryd.results35, go_sem]) rfl ⟨rfl, rfl⟩
end Go.Proofs.YtaioioilfanpeaaDoor
