/- Why: laws without Go. -/
import Derived.Test.YtibohlbkkaghkaaDoorPpoP
namespace Go.Proofs.YtibohlbkkaghkaaDoor
open Go.RowKit
set_option linter.unusedVariables false
set_option linter.unusedSimpArgs false

namespace W
theorem o8_rg (t : Int) (h0 : 0 ≤ t) (h1 : t < 256) : 0 ≤ o8 t 128 ∧ o8 t 128 < 256 := by
  obtain ⟨n, rfl⟩ := Int.eq_ofNat_of_zero_le h0
  have : ((List.range 256).all fun n => decide (0 ≤ o8 (n : Int) 128) && decide (o8 (n : Int) 128 < 256)) = true := by decide +kernel
  have := List.all_eq_true.1 this n (List.mem_range.2 (by omega))
  simpa using this
theorem actO_rg (o : Opr) : 0 ≤ (actO o).t ∧ (actO o).t < 256 := by
  unfold actO
  cases (o.k == 4)
  · show 0 ≤ trt o ∧ trt o < 256
    unfold trt
    cases (o.k == 1) <;> cases (o.k == 2) <;> cases (o.k == 3) <;> cases o.pr <;> cases o.aq <;> cases o.rl <;> exact ⟨by decide, by decide⟩
  · exact ⟨(by decide : (0 : Int) ≤ 4), (by decide : (4 : Int) < 256)⟩
theorem ldA_rg (x : Act) (b : Bool) (h : 0 ≤ x.t ∧ x.t < 256) : 0 ≤ (ldA x b).t ∧ (ldA x b).t < 256 := by
  unfold ldA
  cases b
  · exact h
  · exact o8_rg _ h.1 h.2
theorem ldA_two (x : Act) (b c : Bool) (h : 0 ≤ x.t ∧ x.t < 256) : ldA (ldA x b) c = ldA x (b || c) := by
  unfold ldA
  cases b <;> cases c
  · rfl
  · rfl
  · rfl
  · show (⟨x.p, o8 (o8 x.t 128) 128⟩ : Act) = ⟨x.p, o8 x.t 128⟩
    rw [o8_idem _ h.1 h.2]
theorem led_succ (x : Nat → Oz) (m i : Nat) : led x (m + 1) i = (led x m i || (decide (i < m) && (x m).a.contains (i : Int))) := by
  unfold led
  rw [List.range_succ, List.any_append]
  simp
theorem acts_zero (x : Nat → Oz) (i : Nat) : acts x 0 i = actO (x i).o := by
  unfold acts led ldA
  simp
theorem acts_succ (x : Nat → Oz) (m i : Nat) : leadA (x m).a m (acts x m) i = acts x (m + 1) i := by
  unfold leadA acts
  rw [ldA_two _ _ _ (actO_rg _), led_succ]
theorem acts_rg (x : Nat → Oz) (m i : Nat) : 0 ≤ (acts x m i).t ∧ (acts x m i).t < 256 := ldA_rg _ _ (actO_rg _)
/-- Small numbers. -/
def Sm (v : Int) : Prop := 0 ≤ v ∧ v < 14
theorem sm0 : Sm 0 := ⟨by decide, by decide⟩
theorem sm1 : Sm 1 := ⟨by decide, by decide⟩
theorem sm2 : Sm 2 := ⟨by decide, by decide⟩
theorem sm3 : Sm 3 := ⟨by decide, by decide⟩
theorem sm4 : Sm 4 := ⟨by decide, by decide⟩
theorem sm5 : Sm 5 := ⟨by decide, by decide⟩
theorem sm6 : Sm 6 := ⟨by decide, by decide⟩
theorem sm7 : Sm 7 := ⟨by decide, by decide⟩
theorem sm13 : Sm 13 := ⟨by decide, by decide⟩
theorem note_sm (r : Int) (l : List Int) (h : Nat → Int) (j : Nat) (hr : Sm r) (hh : Sm (h j)) : Sm (note r l h j) := by
  unfold note
  cases ((h j == 0) && l.contains (j : Int))
  · exact hh
  · exact hr
theorem hang0_sm (t pb : Int) (o : Oz) (j : Nat) : Sm (hang0 t pb o j) := by
  unfold hang0
  have h := note_sm 10 o.d _ j ⟨by decide, by decide⟩ (note_sm 9 o.a _ j ⟨by decide, by decide⟩ (note_sm 8 [pb] (fun _ => 0) j ⟨by decide, by decide⟩ ⟨by decide, by decide⟩))
  cases (a8 t 2 != 0)
  · exact h
  · exact note_sm 11 o.c _ j ⟨by decide, by decide⟩ h
theorem bk_sm (A : Nat → Act) (x : Nat → Oz) (b : Nat) (pb : Int) : ∀ i j, Sm ((bk A x b pb i).g j)
  | 0, j => hang0_sm _ _ _ j
  | i + 1, j => by
    have ih := bk_sm A x b pb i
    unfold bk step
    cases (a8 (A (b - 1 - i)).t 4 != 0)
    · cases (goes (A b) (A (b - 1 - i)) (bk A x b pb i) ((bk A x b pb i).g (b - 1 - i)))
      · exact ih j
      · show Sm ((pass _ _ _ _).g j)
        unfold pass
        cases ((a8 (A (b - 1 - i)).t 2 == 0) || (a8 (A b).t 1 == 0) || !meets (A (b - 1 - i)).p (A b).p)
        · show Sm ((bif sees _ _ _ then _ else _ : Nat → Int) j)
          cases (sees (bk A x b pb i).h (A (b - 1 - i)).p (A b).p)
          · exact ih j
          · exact note_sm _ _ _ j ⟨by decide, by decide⟩ (note_sm _ _ _ j ⟨by decide, by decide⟩ (ih j))
        · exact ih j
    · show Sm ((fence _ _ _).g j)
      unfold fence
      cases (a8 (a8 (A b).t ((x (b - 1 - i)).o.sc % 256)) 3 != 0)
      · exact ih j
      · exact ih j
theorem whyK_sm (h g : Int) (hg : Sm g) : Sm (whyK h g) := by
  unfold whyK
  cases (a8 h 3 != 0) <;> cases (a8 h 32 != 0) <;> cases (a8 h 8 != 0) <;> cases (a8 h 64 != 0) <;> cases (g != 0) <;> cases (a8 h 128 != 0) <;> first | exact hg | exact sm0 | exact sm4 | exact sm5 | exact sm6 | exact sm7 | exact sm13
theorem whyM_sm (h : List Sp) (b x : Act) : Sm (whyM h b x) := by
  unfold whyM
  cases (!meets x.p b.p) <;> cases (a8 b.t 2 != 0) <;> cases (a8 b.t 1 == 0) <;> cases ((a8 x.t 1 != 0) && sees h x.p b.p) <;> cases (a8 x.t 16 != 0) <;> first | exact sm0 | exact sm1 | exact sm2 | exact sm3
theorem rulA_sm (A : Nat → Act) (x : Nat → Oz) (b : Nat) (pb : Int) (a : Nat) : Sm (rulA A x b pb a) := by
  unfold rulA rul
  cases (a8 (A a).t 4 != 0)
  · show Sm (bif goes _ _ _ _ then _ else _)
    cases (goes (A b) (A a) (bk A x b pb (b - 1 - a)) ((bk A x b pb (b - 1 - a)).g a))
    · exact sm0
    · show Sm (why _ _ _ _)
      unfold why
      cases (whyM (bk A x b pb (b - 1 - a)).h (A b) (A a) != 0)
      · exact whyK_sm _ _ (bk_sm A x b pb _ _)
      · exact whyM_sm _ _ _
  · exact sm0
theorem whyO_sm (x : Nat → Oz) (a b : Nat) : Sm (whyO x a b) := by
  unfold whyO
  cases (a8 (acts x b b).t 4 != 0)
  · exact rulA_sm _ _ _ _ _
  · exact sm0
/-- Why, of any places. -/
def whyI (x : Nat → Oz) (n : Nat) (i k : Int) : Int := if 0 ≤ i ∧ i < k ∧ k < (n : Int) then whyO x i.toNat k.toNat else 0
end W
end Go.Proofs.YtibohlbkkaghkaaDoor
