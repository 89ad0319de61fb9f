/- What Why says of plain lists; without any Go. -/
import Derived.Test.YtbppeehhohdfiaaPpoU
import Derived.Test.YtbppeehhohdfiaaPpoT0
namespace Go.Proofs.Ytbppeehhohdfiaa
open Go.RowKit
set_option linter.unusedVariables false
set_option linter.unusedSimpArgs false

namespace W
theorem pass_apart (b x : Act) (o : Oz) (s : St) (h : meets x.p b.p = false) : pass b x o s = s := by
  unfold pass
  rw [h]
  simp
theorem whyM_apart (h : List Sp) (b x : Act) (e : meets x.p b.p = false) : whyM h b x = 0 := by
  unfold whyM
  rw [e]
  rfl
theorem step_apart (b x : Act) (o : Oz) (hg : Int) (s : St) (h4 : (a8 x.t 4 != 0) = false) (h : meets x.p b.p = false) : step b x o hg s = s := by
  unfold step
  rw [h4, pass_apart b x o s h]
  cases goes b x s hg <;> rfl
theorem rul_apart (b x : Act) (hg : Int) (s : St) (h4 : (a8 x.t 4 != 0) = false) (h : meets x.p b.p = false) : rul b x hg s = bif (a8 x.t s.k != 0) || (hg != 0) then whyK (a8 x.t s.k) hg else 0 := by
  unfold rul
  rw [h4, cond_false]
  unfold goes why
  rw [whyM_apart _ _ _ h, h]
  cases (a8 x.t s.k != 0) <;> cases (hg != 0) <;> rfl
theorem bk_plain (A : Nat → Act) (x : Nat → Oz) (b : Nat) (pb : Int) (h : ∀ j, j < b → (a8 (A j).t 4 != 0) = false ∧ meets (A j).p (A b).p = false) : ∀ i, i ≤ b → bk A x b pb i = beg (A b) pb (x b)
  | 0, _ => rfl
  | i + 1, hi => by
    have ih := bk_plain A x b pb h i (by omega)
    have hj := h (b - 1 - i) (by omega)
    unfold bk
    rw [step_apart _ _ _ _ _ hj.1 hj.2, ih]
/-- Where none meets, and none is kept: what hangs alone. -/
theorem why_plain (x : Nat → Oz) (i k : Nat) (hi : i < k) (hb : (a8 (acts x k k).t 4 != 0) = false) (h : ∀ j, j < k → (a8 (acts x k j).t 4 != 0) = false ∧ meets (acts x k j).p (acts x k k).p = false) (hk : a8 (acts x k i).t (keep0 (acts x k k).t) = 0) : whyO x i k = hang0 (acts x k k).t (pairO x k) (x k) i := by
  unfold whyO
  rw [hb, cond_false]
  unfold rulA
  rw [bk_plain _ _ _ _ h _ (by omega), rul_apart _ _ _ _ (h i hi).1 (h i hi).2]
  show (bif (a8 (acts x k i).t (keep0 (acts x k k).t) != 0) || (hang0 (acts x k k).t (pairO x k) (x k) i != 0) then whyK (a8 (acts x k i).t (keep0 (acts x k k).t)) (hang0 (acts x k k).t (pairO x k) (x k) i) else 0) = _
  rw [hk]
  generalize hang0 (acts x k k).t (pairO x k) (x k) i = g
  by_cases e : g = 0
  · subst e; decide
  · have e1 : (g != 0) = true := by simpa using e
    rw [e1]
    show whyK 0 g = g
    unfold whyK
    rw [e1]
    rfl
/-- Words of unlike places do not meet. -/
theorem apart (i k : Nat) (hi : i < 1000) (hk : k < 1000) (h : i ≠ k) : meets ⟨4 * (i : Int), 4⟩ ⟨4 * (k : Int), 4⟩ = false := by
  unfold meets has
  have h1 : ¬ ((4 * (k : Int) - 4 * (i : Int)) % 4294967296 < 4) := by omega
  have h2 : ¬ ((4 * (i : Int) - 4 * (k : Int)) % 4294967296 < 4) := by omega
  simp [h1, h2]
theorem pair_none (x : Nat → Oz) (k : Nat) (h : (x k).o.pr = false) : pairO x k = -1 := by
  unfold pairO
  rw [h]
  rfl
theorem note_neg (r : Int) (h : Nat → Int) : note r [-1] h = h := by
  funext j
  unfold note
  have : ([-1] : List Int).contains (j : Int) = false := by (first | (simp; done) | (simp; omega))
  rw [this, Bool.and_false]
  rfl
theorem note_nil' (r : Int) (h : Nat → Int) : note r [] h = h := by
  funext j
  exact note_nil r h j
/-- PpoDeps' list. -/
def dpO (write : Bool) (how : Nat) (a b : Nat) : Oz := ⟨op3 (bif write then 2 else 1) 4 (4 * (b : Int)), if how = 0 then [(a : Int)] else [], if how = 1 then [(a : Int)] else [], if how = 2 then [(a : Int)] else []⟩
def dpX (write : Bool) (how : Nat) (a b : Nat) (j : Nat) : Oz := if j = b then dpO write how a b else oz0 (op3 1 4 (4 * (j : Int)))
def dpW (write : Bool) (how : Nat) : Int := if how = 0 then 9 else if how = 1 then 10 else if how = 2 then (bif write then 11 else 0) else 0
theorem dp_act (write : Bool) (how a b j : Nat) : actO (dpX write how a b j).o = ⟨⟨4 * (j : Int), 4⟩, bif write && decide (j = b) then 10 else 9⟩ := by
  unfold dpX
  by_cases e : j = b
  · subst e
    rw [if_pos rfl]
    have : decide (j = j) = true := by simp
    rw [this]
    cases write <;> rfl
  · rw [if_neg e]
    have : decide (j = b) = false := by simpa using e
    rw [this, Bool.and_false]
    rfl
theorem dp_pr (write : Bool) (how a b j : Nat) : (dpX write how a b j).o.pr = false := by
  unfold dpX
  split
  · rfl
  · rfl
theorem dp_led (write : Bool) (how a b k j : Nat) (h : led (dpX write how a b) k j = true) : b < k ∧ j < b ∧ how = 0 := by
  unfold led at h
  rw [List.any_eq_true] at h
  obtain ⟨m, hm, h⟩ := h
  rw [Bool.and_eq_true] at h
  have hm' := List.mem_range.1 hm
  have h1 : j < m := by simpa using h.1
  have h2 := h.2
  unfold dpX at h2
  by_cases e : m = b
  · subst e
    rw [if_pos rfl] at h2
    unfold dpO at h2
    by_cases e0 : how = 0
    · exact ⟨hm', h1, e0⟩
    · rw [if_neg e0] at h2
      simp at h2
  · rw [if_neg e] at h2
    simp [oz0] at h2
theorem dep_why (write : Bool) (how a b : Nat) (hab : a < b) (i k : Nat) (hik : i < k) (hk : k < 100) : whyO (dpX write how a b) i k = if i = a ∧ k = b then dpW write how else 0 := by
  have hp : ∀ j, (acts (dpX write how a b) k j).p = ⟨4 * (j : Int), 4⟩ := fun j => by
    unfold acts ldA
    rw [dp_act]
  have hkk : led (dpX write how a b) k k = false := by
    cases h : led (dpX write how a b) k k
    · rfl
    · have := dp_led _ _ _ _ _ _ h; omega
  have htk : (acts (dpX write how a b) k k).t = bif write && decide (k = b) then 10 else 9 := by
    unfold acts ldA
    rw [hkk, dp_act]
    rfl
  have ht : ∀ j, (acts (dpX write how a b) k j).t = bif led (dpX write how a b) k j then o8 (bif write && decide (j = b) then 10 else 9) 128 else (bif write && decide (j = b) then 10 else 9) := fun j => by
    unfold acts ldA
    rw [dp_act]
  have h4 : ∀ j, (a8 (acts (dpX write how a b) k j).t 4 != 0) = false := fun j => by
    rw [ht]
    cases led (dpX write how a b) k j <;> cases write <;> cases decide (j = b) <;> decide +kernel
  have hkeep : a8 (acts (dpX write how a b) k i).t (keep0 (acts (dpX write how a b) k k).t) = 0 := by
    rw [htk, ht]
    by_cases e : k = b
    · have hl : led (dpX write how a b) k i = false := by
        cases h : led (dpX write how a b) k i
        · rfl
        · have := dp_led _ _ _ _ _ _ h; omega
      rw [hl]
      cases write <;> cases decide (k = b) <;> cases decide (i = b) <;> decide +kernel
    · have : decide (k = b) = false := by simpa using e
      rw [this]
      cases led (dpX write how a b) k i <;> cases write <;> cases decide (i = b) <;> decide +kernel
  rw [why_plain _ i k hik (h4 k) (fun j hj => ⟨h4 j, by rw [hp, hp]; exact apart j k (by omega) (by omega) (by omega)⟩) hkeep, pair_none _ _ (dp_pr _ _ _ _ _), htk]
  unfold hang0
  rw [note_neg]
  try dsimp only
  unfold dpX
  by_cases e : k = b
  · subst e
    rw [if_pos rfl]
    have hd : decide (k = k) = true := by simp
    rw [hd, Bool.and_true]
    unfold dpO dpW
    by_cases e0 : how = 0
    · subst e0
      simp only [if_true, if_pos rfl, if_neg (show ¬ (0 : Nat) = 1 by decide), if_neg (show ¬ (0 : Nat) = 2 by decide), note_nil']
      have : ∀ c : Bool, (bif c then note 9 [(a : Int)] (fun _ => 0) else note 9 [(a : Int)] (fun _ => 0)) = note 9 [(a : Int)] (fun _ => 0) := fun c => by cases c <;> rfl
      rw [this]
      unfold note
      by_cases e2 : i = a
      · subst e2; simp
      · have : ¬ (i : Int) = (a : Int) := by omega
        simp [e2, this]
    · by_cases e1 : how = 1
      · subst e1
        simp only [if_true, if_pos rfl, if_neg (show ¬ (1 : Nat) = 0 by decide), if_neg (show ¬ (1 : Nat) = 2 by decide), note_nil']
        have : ∀ c : Bool, (bif c then note 10 [(a : Int)] (fun _ => 0) else note 10 [(a : Int)] (fun _ => 0)) = note 10 [(a : Int)] (fun _ => 0) := fun c => by cases c <;> rfl
        rw [this]
        unfold note
        by_cases e2 : i = a
        · subst e2; simp
        · have : ¬ (i : Int) = (a : Int) := by omega
          simp [e2, this]
      · by_cases e2 : how = 2
        · subst e2
          simp only [if_true, if_pos rfl, if_neg (show ¬ (2 : Nat) = 0 by decide), if_neg (show ¬ (2 : Nat) = 1 by decide), note_nil']
          cases write
          · have : (a8 (bif false then 10 else 9) 2 != 0) = false := by decide +kernel
            rw [this]
            simp
          · have : (a8 (bif true then 10 else 9) 2 != 0) = true := by decide +kernel
            rw [this]
            show note 11 [(a : Int)] (fun _ => 0) i = _
            unfold note
            by_cases e2 : i = a
            · subst e2; simp
            · have : ¬ (i : Int) = (a : Int) := by omega
              simp [e2, this]
        · simp only [if_neg e0, if_neg e1, if_neg e2, note_nil']
          cases (a8 (bif write then 10 else 9) 2 != 0) <;> simp
  · rw [if_neg e, if_neg (fun h => e h.2)]
    unfold oz0
    dsimp only
    simp only [note_nil']
    cases (a8 (bif write && decide (k = b) then 10 else 9) 2 != 0) <;> rfl
end W
end Go.Proofs.Ytbppeehhohdfiaa
