/- home: without. -/
import Derived.Test.YtadkpelcbnljbaaHomC
namespace Go.Proofs.Ytadkpelcbnljbaa
open Go.ChangeShapes Go.WideShapes Go.ChangeAt Go.RowKit
set_option linter.unusedVariables false
set_option linter.unusedSimpArgs false

set_option maxRecDepth 10000 in
set_option maxHeartbeats 1600000 in
theorem without_any (n0 : Nat) (v : Value) (l : List Int) (x : Int) (hu : W.Up1 l) (hl : l.length ≤ 4096) (w : World) (h : On n0 v l w) :
    Calls Try.prog 30 #[v, .int .i64 x] w fun e w' => ∃ v', e = .returned v' ∧ On n0 v' (W.wo l x) w' ∧ w.grownBy w' v.ownBlock ∧ v'.ownBlock = v.ownBlock := by
  obtain ⟨L1, L2, h1, h2, he⟩ := W.up_split x l hu
  obtain ⟨s, hs, hL⟩ := h.li hl
  have hlo : ∀ j y, j < L1.length → l[j]? = some y → y < x := fun j y hj hy => by
    have : L1[j]? = some y := by
      rcases he with e | e
      all_goals
        rw [e, List.getElem?_append_left hj] at hy
        exact hy
    exact h1 y (List.mem_of_getElem? this)
  have hhi : ∀ j y, L1.length ≤ j → l[j]? = some y → x ≤ y := fun j y hj hy => by
    rcases he with e | e
    · rw [e, List.getElem?_append_right hj] at hy
      have := h2 y (List.mem_of_getElem? hy)
      omega
    · rw [e, List.getElem?_append_right hj] at hy
      rcases List.mem_cons.1 (List.mem_of_getElem? hy) with rfl | hy
      · exact Int.le_refl _
      · have := h2 y hy
        omega
  rcases he with e | e
  · have hS := search_any s l w hL x L1.length (by rw [e]; simp) hlo hhi false (fun y hy => by
      rw [e, List.getElem?_append_right (Nat.le_refl _)] at hy
      have := h2 y (List.mem_of_getElem? hy)
      constructor
      · intro q; omega
      · intro q; cases q) (fun _ => rfl)
    rw [← hs] at hS
    have hw : W.wo l x = l := W.wo_out (fun hx => by
      rw [e] at hx
      rcases List.mem_append.1 hx with hx | hx
      · have := h1 x hx; omega
      · have := h2 x hx; omega)
    have HS : Hid (Calls _ _ _ _ _) := hS
    have HO : Hid (On n0 v (W.wo l x) w) := by rw [hw]; exact h
    clear hS h hL hs hlo hhi hw e h1 h2
    go_enter Try.func30, Try.ntmps30
    go_wp2_with (fail)
    refine HS.out.mono ?_
    rintro e w' ⟨rfl, rfl⟩
    go_wp2
    go_ret
    exact ⟨v, rfl, HO.out, ⟨rfl, rfl, rfl, Nat.le_refl _, fun _ _ _ => rfl⟩, rfl⟩
  · have hS := search_any s l w hL x L1.length (by rw [e]; simp) hlo hhi true (fun y hy => by
      rw [e, List.getElem?_append_right (Nat.le_refl _), Nat.sub_self] at hy
      simp at hy
      simp [hy]) (fun q => by rw [e] at q; simp at q)
    rw [← hs] at hS
    have HW : Hid (W.wo l x = L1 ++ L2) := by rw [e]; exact W.wo_mid h1 h2
    have HS : Hid (Calls _ _ _ _ _) := hS
    rcases h.form with ⟨_, e0⟩ | ⟨g, cap, rfl, q1, q2, q3, q4, q5⟩
    · rw [e] at e0; simp at e0
    have hlen : L1.length + 1 + L2.length = l.length := by rw [e]; simp; omega
    have hD := delete_any n0 g cap L1.length l.length L1 L2 x rfl hlen (by omega) q3 q4 w (by rw [← e]; exact h)
    have HD : Hid (Calls _ _ _ _ _) := hD
    have HN : Hid (l.length - 1 = (L1 ++ L2).length) := by show l.length - 1 = _; rw [List.length_append]; omega
    clear hS h hL hs hlo hhi e h1 h2 hD q5
    generalize l.length = n at *
    go_enter Try.func30, Try.ntmps30
    go_wp2_with (fail)
    refine HS.out.mono ?_
    rintro e w' ⟨rfl, rfl⟩
    go_wp2_with (fail)
    refine HD.out.mono ?_
    rintro e w' ⟨rfl, ho, hg⟩
    rw [HN.out] at ho ⊢
    have HO : Hid (_ ∧ _) := ⟨ho, hg⟩
    clear ho hg
    go_wp2
    go_ret
    refine ⟨.slice (some ⟨g, 0, none⟩) (L1.length + L2.length) cap, rfl, ?_, HO.out.2, rfl⟩
    rw [HW.out]
    have := HO.out.1
    unfold On
    rw [List.length_append] at this ⊢
    exact this
end Go.Proofs.Ytadkpelcbnljbaa
