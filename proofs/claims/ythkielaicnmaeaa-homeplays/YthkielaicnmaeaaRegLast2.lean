/- A region whose last operation waits for all others, if for some by way of others. -/
import Derived.Test.YthkielaicnmaeaaRegLast
namespace Go.Proofs.Ythkielaicnmaeaa
set_option linter.unusedVariables false
/-- Each operation is waited for by a later one; each waits for earlier ones alone. -/
def lastOk2 (ops : Array Oper) (z : Nat) : Bool :=
  ((List.range z).all fun j => (List.range (z + 1)).any fun k => decide (j < k) && (((ops[k]?).map fun o => o.after.any fun e => Region.binds .any e && e.on == j).getD false)) &&
  ((List.range (z + 1)).all fun j => ((ops[j]?).map fun o => o.after.all fun e => decide (e.on < j)).getD true)
section
variable {P : Program} {ops : Array Oper} {Q : Exit → Act → World → Prop} {S : World → Prop} {z : Nat} {oz : Oper}
/-- What an operation that has come up waits for has come up, too. -/
def ClosedL (ops : Array Oper) (z : Nat) (listed : Array Bool) : Prop :=
  ∀ j, j < z → listed.getD j false = true → ∀ o, ops[j]? = some o → ∀ e ∈ o.after, Region.binds .any e = true → listed.getD e.on false = true
theorem lastOk2_waits (hb : lastOk2 ops z = true) (j : Nat) (hj : j < z) : ∃ k o, j < k ∧ k ≤ z ∧ ops[k]? = some o ∧ ∃ e ∈ o.after, Region.binds .any e = true ∧ e.on = j := by
  unfold lastOk2 at hb
  rw [Bool.and_eq_true] at hb
  have h := List.all_eq_true.1 hb.1 j (List.mem_range.2 hj)
  obtain ⟨k, hk, h2⟩ := List.any_eq_true.1 h
  rw [Bool.and_eq_true] at h2
  have hjk := of_decide_eq_true h2.1
  cases ho : ops[k]? with
  | none => rw [ho] at h2; simp at h2
  | some o =>
    rw [ho] at h2
    have h3 : (o.after.any fun e => Region.binds .any e && e.on == j) = true := h2.2
    obtain ⟨e, he, h4⟩ := Array.any_eq_true'.1 h3
    rw [Bool.and_eq_true] at h4
    exact ⟨k, o, hjk, by have := List.mem_range.1 hk; omega, ho, e, he, h4.1, by simpa using h4.2⟩
theorem lastOk2_dag (hb : lastOk2 ops z = true) (j : Nat) (hj : j ≤ z) (o : Oper) (ho : ops[j]? = some o) : ∀ e ∈ o.after, e.on < j := by
  unfold lastOk2 at hb
  rw [Bool.and_eq_true] at hb
  have h := List.all_eq_true.1 hb.2 j (List.mem_range.2 (by omega))
  rw [ho] at h
  intro e he
  have := Array.all_eq_true_iff_forall_mem.1 h e he
  simpa using this
theorem last2_all (hsz : ops.size = z + 1) (hb : lastOk2 ops z = true) (listed : Array Bool) (hl : listed.size = z + 1)
    (hr : Region.ready .any ops (listed.setIfInBounds z true) = []) : ∀ j, j < z → listed.getD j false = true := by
  intro j
  induction j using Nat.strongRecOn with
  | ind j ih =>
    intro hj
    cases hc : listed.getD j false with
    | true => rfl
    | false =>
      exfalso
      have ho : ops[j]? = some ops[j] := Array.getElem?_eq_getElem (by omega)
      have hm : j ∈ Region.ready .any ops (listed.setIfInBounds z true) := by
        rw [mem_ready]
        refine ⟨?_, _, ho, fun e he _ => ?_⟩
        · rw [getD_set_ne true (by omega)]
          simp only [Array.getD_eq_getD_getElem?] at hc ⊢
          rw [Array.getElem?_eq_getElem (by omega)] at hc ⊢
          exact hc
        · have hlt := lastOk2_dag hb j (by omega) _ ho e he
          rw [getD_set_ne false (by omega)]
          exact ih e.on hlt (by omega)
      rw [hr] at hm
      cases hm
theorem last2_ready (hz : ops[z]? = some oz) (hsz : ops.size = z + 1) (hb : lastOk2 ops z = true) (listed : Array Bool) (hl : listed.size = z + 1) (hu : listed.getD z true = false)
    (hr : Region.ready .any ops (listed.setIfInBounds z true) = []) : z ∈ Region.ready .any ops listed := by
  rw [mem_ready]
  exact ⟨hu, oz, hz, fun e he _ => last2_all hsz hb listed hl hr e.on (lastOk2_dag hb z (Nat.le_refl _) oz hz e he)⟩
theorem last2_other (hsz : ops.size = z + 1) (hb : lastOk2 ops z = true) (listed : Array Bool) (i : Nat) (hi : i ≠ z) (h : i ∈ Region.ready .any ops listed) : i ∈ Region.ready .any ops (listed.setIfInBounds z true) := by
  rw [mem_ready] at h ⊢
  obtain ⟨h0, o, ho, h1⟩ := h
  refine ⟨by rw [getD_set_ne true (Ne.symm hi)]; exact h0, o, ho, fun e he hbn => ?_⟩
  have hilt : i < ops.size := (Array.getElem?_eq_some_iff.1 ho).1
  have := lastOk2_dag hb i (by omega) o ho e he
  rw [getD_set_ne false (by omega)]
  exact h1 e he hbn
/-- Once the last one may come up, all others have. -/
theorem last2_done (hz : ops[z]? = some oz) (hb : lastOk2 ops z = true) (listed : Array Bool) (hcl : ClosedL ops z listed) (h : z ∈ Region.ready .any ops listed) : ∀ n j, j < z → z - j ≤ n → listed.getD j false = true := by
  rw [mem_ready] at h
  obtain ⟨h0, o, ho, h1⟩ := h
  rw [hz] at ho
  obtain rfl := Option.some.inj ho
  intro n
  induction n with
  | zero => intro j hj hn; omega
  | succ n ih =>
    intro j hj hn
    obtain ⟨k, ok, hjk, hkz, hok, e, he, hbn, hon⟩ := lastOk2_waits hb j hj
    by_cases hk : k = z
    · subst hk
      rw [hz] at hok
      obtain rfl := Option.some.inj hok
      have := h1 e he hbn
      rwa [hon] at this
    · have := hcl k (by omega) (ih k (by omega) (by omega)) ok hok e he hbn
      rwa [hon] at this
theorem last2_only (hz : ops[z]? = some oz) (hsz : ops.size = z + 1) (hb : lastOk2 ops z = true) (listed : Array Bool) (hcl : ClosedL ops z listed) (h : z ∈ Region.ready .any ops listed) : Region.ready .any ops (listed.setIfInBounds z true) = [] := by
  have hd := last2_done hz hb listed hcl h
  rw [mem_ready] at h
  obtain ⟨h0, o, ho, h1⟩ := h
  refine List.eq_nil_iff_forall_not_mem.2 (fun i hi => ?_)
  rw [mem_ready] at hi
  obtain ⟨g0, o, ho, g1⟩ := hi
  have hilt : i < ops.size := (Array.getElem?_eq_some_iff.1 ho).1
  by_cases e : i = z
  · subst e
    have hlt : i < listed.size := by
      rcases Nat.lt_or_ge i listed.size with q | q
      · exact q
      · simp [Array.getD_eq_getD_getElem?, Array.getElem?_eq_none q] at h0
    simp [Array.getD_eq_getD_getElem?, hlt] at g0
  · have this := hd (z - i) i (by omega) (Nat.le_refl _)
    rw [getD_set_ne true (fun q => e q.symm)] at g0
    simp only [Array.getD_eq_getD_getElem?] at this g0
    cases hq : listed[i]? with
    | none => rw [hq] at this; cases this
    | some b => rw [hq] at this g0; simp at this g0; rw [this] at g0; cases g0
theorem closed_set (listed : Array Bool) (hsz : ops.size = z + 1) (hb : lastOk2 ops z = true) (hcl : ClosedL ops z listed) (hls : listed.size = z + 1) (i : Nat) (hi : i ≠ z) (h : i ∈ Region.ready .any ops listed) : ClosedL ops z (listed.setIfInBounds i true) := by
  rw [mem_ready] at h
  obtain ⟨h0, o, ho, h1⟩ := h
  intro j hj hl oj hoj e he hbn
  by_cases hji : j = i
  · subst hji
    rw [hoj] at ho
    obtain rfl := Option.some.inj ho
    have hlt := lastOk2_dag hb j (by omega) oj hoj e he
    rw [getD_set_ne false (by omega)]
    exact h1 e he hbn
  · rw [getD_set_ne false (Ne.symm hji)] at hl
    have := hcl j hj hl oj hoj e he hbn
    by_cases hei : e.on = i
    · rw [hei]
      have hlt := lastOk2_dag hb j (by omega) oj hoj e he
      simp [Array.getD_eq_getD_getElem?, show i < listed.size by omega]
    · rw [getD_set_ne false (fun q => hei q.symm)]
      exact this
theorem any_last2 (hz : ops[z]? = some oz) (hsz : ops.size = z + 1) (hb : lastOk2 ops z = true) :
    ∀ (fuel : Nat) (listed : Array Bool) (a : Act) (w : World), listed.size = z + 1 → listed.getD z true = false → ClosedL ops z listed →
      wpAnyH P .any ops (lastQ P ops Q z) S fuel (listed.setIfInBounds z true) a w → wpAny P .any ops Q (fuel + 1) listed a w := by
  intro fuel
  induction fuel with
  | zero =>
    intro listed a w hl hu hcl h
    refine ⟨fun h0 => ?_, fun i hi => ?_⟩
    · have := last2_ready hz hsz hb listed hl hu h.1
      rw [h0] at this
      cases this
    · by_cases e : i = z
      · subst e
        exact wpOp_mono (fun a' w' hq => ⟨h.1, hq⟩) h.2
      · have := last2_other hsz hb listed i e hi
        rw [h.1] at this
        cases this
  | succ fuel ih =>
    intro listed a w hl hu hcl h
    refine ⟨fun h0 => ?_, fun i hi => ?_⟩
    · cases hr : Region.ready .any ops (listed.setIfInBounds z true) with
      | nil =>
        have := last2_ready hz hsz hb listed hl hu hr
        rw [h0] at this
        cases this
      | cons j t =>
        have hj : j ∈ Region.ready .any ops (listed.setIfInBounds z true) := by rw [hr]; simp
        have hjz : j ≠ z := fun e => by
          subst e
          have := (mem_ready.1 hj).1
          simp [Array.getD_eq_getD_getElem?, hl] at this
        have : j ∈ Region.ready .any ops listed := by
          rw [mem_ready] at hj ⊢
          obtain ⟨g0, o, ho, g1⟩ := hj
          have hjlt : j < ops.size := (Array.getElem?_eq_some_iff.1 ho).1
          refine ⟨by rwa [getD_set_ne true (Ne.symm hjz)] at g0, o, ho, fun e he hbn => ?_⟩
          have h2 := g1 e he hbn
          have := lastOk2_dag hb j (by omega) o ho e he
          rwa [getD_set_ne false (by omega)] at h2
        rw [h0] at this
        cases this
    · by_cases e : i = z
      · subst e
        have hr := last2_only hz hsz hb listed hcl hi
        refine wpOp_mono (fun a' w' hq => ⟨fun _ => hq, fun j hj => ?_⟩) (h.1 hr)
        rw [hr] at hj
        cases hj
      · have h2 := h.2 i (last2_other hsz hb listed i e hi)
        refine wpOp_lastQ (wpOp_mono (fun a' w' hq => ?_) h2)
        refine ih (listed.setIfInBounds i true) a' w' (by simpa using hl) (by rw [getD_set_ne true e]; exact hu) (closed_set listed hsz hb hcl hl i e hi) ?_
        rw [Array.setIfInBounds_comm _ _ e]
        exact hq.2
/-- THE BEGINNING: as wp_region_last, where the last operation waits for some by way of others. -/
theorem wp_region_last2 {id : Nat} {a : Act} {w : World} (S : World → Prop) (z : Nat) (oz : Oper) (hm : P.follows .mixedOrders = true) (hz : ops[z]? = some oz) (hsz : ops.size = z + 1) (hb : lastOk2 ops z = true) (hS : S w.drew)
    (h : S w.drew → wpAnyH P .any ops (lastQ P ops Q z) S z ((Array.replicate (z + 1) false).setIfInBounds z true) a w.drew) : (Code.region id ops true).wp P Q a w := by
  refine wp_region_any hm ?_
  rw [hsz]
  refine any_last2 hz hsz hb z _ a w.drew (by simp) (by simp) (fun j hj hl => ?_) (h hS)
  exfalso
  simp [Array.getD_eq_getD_getElem?] at hl
  rw [Array.getElem?_replicate] at hl
  split at hl <;> simp at hl
end
end Go.Proofs.Ythkielaicnmaeaa
