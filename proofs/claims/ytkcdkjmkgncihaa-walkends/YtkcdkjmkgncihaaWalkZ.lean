/- What the rounds of WalkEnds come to, on numbers. -/
import Derived.Test.YtkcdkjmkgncihaaWalkP
namespace Go.Proofs.Ytkcdkjmkgncihaa.W
open Go.RowKit
set_option linter.unusedVariables false
set_option linter.unusedSimpArgs false

theorem entA_mod (t va : Int) (g : Bool) : entA t va g % 4 = 0 := by
  unfold entA
  omega
theorem entA_ge (t va : Int) (g : Bool) (h0 : 0 ≤ t) (v0 : 0 ≤ va) : 0 ≤ entA t va g := by
  unfold entA idx
  cases g <;> simp only [cond_true, cond_false] <;> omega
theorem entB_in {t va b : Int} {g : Bool} (h : entB t va b g = true) : entA t va g < 4294967296 ∧ entA t va g + 4 ≤ b := by
  unfold entB at h
  cases hd : decide (4294967295 < entA t va g)
  · rw [hd, cond_false] at h
    have h1 : ¬ 4294967295 < entA t va g := of_decide_eq_false hd
    have h2 := of_decide_eq_true h
    omega
  · rw [hd] at h; cases h
theorem offv_mod (va : Int) (g : Bool) : offv va g % 4096 = va % 4096 := by
  cases g <;> simp only [offv, cond_true, cond_false] <;> omega

/-- What comes of a leaf: a fault, a mark, or its place. -/
theorem leaf_ways (ea ev va acc mode : Int) (g : Bool) (e0 : 0 ≤ ev) (v0 : 0 ≤ va) :
    (∃ p, leafS ea ev va acc mode g = fltS acc p) ∨ (leafS ea ev va acc mode g = markS ea (needs ev acc) ∧ (needs ev acc == ev) = false ∧ may ev acc mode = true ∧ fitsB ev g = true) ∨ (∃ pa, leafS ea ev va acc mode g = hereS pa ∧ 0 ≤ pa ∧ pa % 4096 = va % 4096 ∧ may ev acc mode = true) := by
  unfold leafS
  cases h1 : may ev acc mode
  · exact Or.inl ⟨true, rfl⟩
  · cases h2 : fitsB ev g
    · exact Or.inl ⟨true, rfl⟩
    · cases h3 : (needs ev acc != ev)
      · cases h4 : decide (4294967295 < ev / 1024 * 4096 + offv va g)
        · refine Or.inr (Or.inr ⟨_, rfl, ?_, ?_, rfl⟩)
          · have := offv_lt va g
            omega
          · have := offv_mod va g
            omega
        · exact Or.inl ⟨false, rfl⟩
      · refine Or.inr (Or.inl ⟨rfl, ?_, rfl, rfl⟩)
        simpa using h3
/-- A leaf that was marked: no mark any more. -/
theorem leaf_marked (ea ev va acc mode : Int) (g : Bool) (e0 : 0 ≤ ev) (e1 : ev < 4294967296) (v0 : 0 ≤ va) :
    (∃ p, leafS ea (needs ev acc) va acc mode g = fltS acc p) ∨ (∃ pa, leafS ea (needs ev acc) va acc mode g = hereS pa ∧ 0 ≤ pa ∧ pa % 4096 = va % 4096 ∧ may (needs ev acc) acc mode = true) := by
  have hl := needs_lt ev acc
  rcases leaf_ways ea (needs ev acc) va acc mode g hl.1 v0 with h | ⟨_, h, _, _⟩ | h
  · exact Or.inl h
  · rw [needs_again ev acc e0 e1] at h; simp at h
  · exact Or.inr h
theorem or_and (e m M : Int) (e0 : 0 ≤ e) (e1 : e < 4294967296) (m0 : 0 ≤ m) (m1 : m < 4294967296) (M0 : 0 ≤ M) (M1 : M < 4294967296) (h : m.toNat &&& M.toNat = 0) : bits .and .u32 (bits .or .u32 e m) M = bits .and .u32 e M := by
  have hb := or_lt e m
  rw [u32_and _ M hb.1 hb.2 M0 M1, u32_and e M e0 e1 M0 M1, u32_or e m e0 e1 m0 m1, Int.toNat_natCast, Nat.and_or_distrib_right, h, Nat.or_zero]
theorem needs_and (e a M : Int) (e0 : 0 ≤ e) (e1 : e < 4294967296) (M0 : 0 ≤ M) (M1 : M < 4294967296) (h1 : 192 &&& M.toNat = 0) (h2 : 64 &&& M.toNat = 0) : bits .and .u32 (needs e a) M = bits .and .u32 e M := by
  rw [needs_or e a e0 e1]
  rcases nd_cases a with h | h <;> rw [h]
  · exact or_and e 192 M e0 e1 (by decide) (by decide) M0 M1 h1
  · exact or_and e 64 M e0 e1 (by decide) (by decide) M0 M1 h2
theorem needs_leaf (e a : Int) (e0 : 0 ≤ e) (e1 : e < 4294967296) : leaf (needs e a) = leaf e := by
  unfold leaf
  rw [needs_and e a 10 e0 e1 (by decide) (by decide) (by decide) (by decide)]
theorem needs_bad (e a : Int) (e0 : 0 ≤ e) (e1 : e < 4294967296) (hl : leaf e = true) : bad (needs e a) = bad e := by
  unfold bad
  rw [needs_leaf e a e0 e1, hl, needs_and e a 1 e0 e1 (by decide) (by decide) (by decide) (by decide), needs_and e a 2 e0 e1 (by decide) (by decide) (by decide) (by decide), needs_and e a 4 e0 e1 (by decide) (by decide) (by decide) (by decide)]
  simp

section
variable (satp mode va acc b : Int)
theorem next0_off (h : onB satp mode = false) : nextS satp mode va acc b 0 (fun _ => 0) (fun _ => 0) = hereS va := by
  unfold nextS stepS
  rw [h]
  rfl
theorem next0_no (h : onB satp mode = true) (h1 : entB (satp % 4194304) va b true = false) : nextS satp mode va acc b 0 (fun _ => 0) (fun _ => 0) = fltS acc false := by
  unfold nextS stepS downS
  rw [h, h1]
  rfl
theorem next0_more (h : onB satp mode = true) (h1 : entB (satp % 4194304) va b true = true) : nextS satp mode va acc b 0 (fun _ => 0) (fun _ => 0) = moreS (entA (satp % 4194304) va true) := by
  unfold nextS stepS downS
  rw [h, h1]
  rfl
variable (U1 U2 : Int)
theorem step1 (h : onB satp mode = true) (h1 : entB (satp % 4194304) va b true = true) (n : Nat) (hn : n ≠ 0) (A V : Nat → Int) (hA : A 0 = entA (satp % 4194304) va true) (hV : V 0 = U1) :
    stepS satp mode va acc b n A V = bif bad U1 then (fltS acc true, 1) else bif leaf U1 then (leafS (entA (satp % 4194304) va true) U1 va acc mode true, 1) else downL (U1 / 1024) va acc mode b n A V := by
  unfold stepS downS
  rw [h, h1, hA, hV]
  simp [hn]
theorem next1_bad (h : onB satp mode = true) (h1 : entB (satp % 4194304) va b true = true) (h2 : bad U1 = true) : nextS satp mode va acc b 1 (fun _ => entA (satp % 4194304) va true) (fun _ => U1) = fltS acc true := by
  unfold nextS
  rw [step1 satp mode va acc b U1 h h1 1 (by decide) _ _ rfl rfl, h2]
  rfl
theorem next1_leaf (h : onB satp mode = true) (h1 : entB (satp % 4194304) va b true = true) (h2 : bad U1 = false) (h3 : leaf U1 = true) : nextS satp mode va acc b 1 (fun _ => entA (satp % 4194304) va true) (fun _ => U1) = leafS (entA (satp % 4194304) va true) U1 va acc mode true := by
  unfold nextS
  rw [step1 satp mode va acc b U1 h h1 1 (by decide) _ _ rfl rfl, h2, h3]
  rfl
theorem next1_no (h : onB satp mode = true) (h1 : entB (satp % 4194304) va b true = true) (h2 : bad U1 = false) (h3 : leaf U1 = false) (h4 : entB (U1 / 1024) va b false = false) : nextS satp mode va acc b 1 (fun _ => entA (satp % 4194304) va true) (fun _ => U1) = fltS acc false := by
  unfold nextS
  rw [step1 satp mode va acc b U1 h h1 1 (by decide) _ _ rfl rfl, h2, h3]
  unfold downL
  rw [h4]
  rfl
theorem next1_more (h : onB satp mode = true) (h1 : entB (satp % 4194304) va b true = true) (h2 : bad U1 = false) (h3 : leaf U1 = false) (h4 : entB (U1 / 1024) va b false = true) : nextS satp mode va acc b 1 (fun _ => entA (satp % 4194304) va true) (fun _ => U1) = moreS (entA (U1 / 1024) va false) := by
  unfold nextS
  rw [step1 satp mode va acc b U1 h h1 1 (by decide) _ _ rfl rfl, h2, h3]
  unfold downL
  rw [h4]
  rfl
theorem step2 (h : onB satp mode = true) (h1 : entB (satp % 4194304) va b true = true) (h2 : bad U1 = false) (h3 : leaf U1 = false) (h4 : entB (U1 / 1024) va b false = true) :
    stepS satp mode va acc b 2 (two (entA (satp % 4194304) va true) (entA (U1 / 1024) va false)) (two U1 U2) = bif bad U2 then (fltS acc true, 2) else bif leaf U2 then (leafS (entA (U1 / 1024) va false) U2 va acc mode false, 2) else (fltS acc true, 2) := by
  rw [step1 satp mode va acc b U1 h h1 2 (by decide) _ _ rfl rfl, h2, h3]
  unfold downL
  rw [h4]
  simp [two]
theorem next2_bad (h : onB satp mode = true) (h1 : entB (satp % 4194304) va b true = true) (h2 : bad U1 = false) (h3 : leaf U1 = false) (h4 : entB (U1 / 1024) va b false = true) (h5 : bad U2 = true) :
    nextS satp mode va acc b 2 (two (entA (satp % 4194304) va true) (entA (U1 / 1024) va false)) (two U1 U2) = fltS acc true := by
  unfold nextS
  rw [step2 satp mode va acc b U1 U2 h h1 h2 h3 h4, h5]
  rfl
theorem next2_leaf (h : onB satp mode = true) (h1 : entB (satp % 4194304) va b true = true) (h2 : bad U1 = false) (h3 : leaf U1 = false) (h4 : entB (U1 / 1024) va b false = true) (h5 : bad U2 = false) (h6 : leaf U2 = true) :
    nextS satp mode va acc b 2 (two (entA (satp % 4194304) va true) (entA (U1 / 1024) va false)) (two U1 U2) = leafS (entA (U1 / 1024) va false) U2 va acc mode false := by
  unfold nextS
  rw [step2 satp mode va acc b U1 U2 h h1 h2 h3 h4, h5, h6]
  rfl
theorem next2_none (h : onB satp mode = true) (h1 : entB (satp % 4194304) va b true = true) (h2 : bad U1 = false) (h3 : leaf U1 = false) (h4 : entB (U1 / 1024) va b false = true) (h5 : bad U2 = false) (h6 : leaf U2 = false) :
    nextS satp mode va acc b 2 (two (entA (satp % 4194304) va true) (entA (U1 / 1024) va false)) (two U1 U2) = fltS acc true := by
  unfold nextS
  rw [step2 satp mode va acc b U1 U2 h h1 h2 h3 h4, h5, h6]
  rfl
end
end Go.Proofs.Ytkcdkjmkgncihaa.W
