/- A region whose last operation waits for all others (an assignment's store): S is asked of the world up to it alone. -/
import Derived.WalkKit
import Derived.Deep.RegionHeld3
namespace Go.Proofs.Ythkielaicnmaeaa

/-- What is asked behind all operations but the last one: that the last one leads to what is asked. -/
def lastQ (P : Program) (ops : Array Oper) (Q : Exit → Act → World → Prop) (z : Nat) : Exit → Act → World → Prop
  | .normal, a, w => wpOp P ops Q z (fun a' w' => Q .normal a' w') a w
  | e, a, w => Q e a w
/-- The last operation waits for each other one; each waits for earlier ones alone. -/
def lastOk (ops : Array Oper) (z : Nat) (oz : Oper) : Bool :=
  ((List.range z).all fun j => oz.after.any fun e => Region.binds .any e && e.on == j) &&
  ((List.range (z + 1)).all fun j => ((ops[j]?).map fun o => o.after.all fun e => decide (e.on < j)).getD true)

theorem Oper.wp_lastQ {P : Program} {ops : Array Oper} {Q : Exit → Act → World → Prop} {z : Nat} {o : Oper} {a : Act} {w : World} {K : Act → World → Prop}
    (hh : o.wp P a w K (lastQ P ops Q z)) : o.wp P a w K Q := by
  unfold Oper.wp at *
  generalize (execOp a.eval o).run P w = r at *
  cases r with
  | ok n w' =>
    cases n <;> simp only [Oper.upon] at hh ⊢ <;>
      first
        | exact hh
        | exact Calls.mono hh (fun e w'' he => by cases e <;> first | exact he | (simpa [LetsOut, lastQ] using he))
  | halt x w' => cases x <;> simp only [Oper.upon] at hh ⊢ <;> first | exact hh | exact (hh : False).elim
theorem wpOp_lastQ {P : Program} {ops : Array Oper} {Q : Exit → Act → World → Prop} {z i : Nat} {K : Act → World → Prop} {a : Act} {w : World}
    (hh : wpOp P ops (lastQ P ops Q z) i K a w) : wpOp P ops Q i K a w := by
  unfold wpOp at *
  split
  · rename_i h
    simpa [h] using hh
  · rename_i o ho
    simp only [ho] at hh
    split
    · rename_i hw
      simp only [hw, if_true] at hh
      exact hh.imp Oper.wp_lastQ (fun h => ⟨h.1, by simpa [LetsOut, lastQ] using h.2⟩)
    · rename_i hw
      simp only [hw] at hh
      exact hh

section
variable {P : Program} {ops : Array Oper} {Q : Exit → Act → World → Prop} {S : World → Prop} {z : Nat} {oz : Oper}

theorem lastOk_waits (hb : lastOk ops z oz = true) (j : Nat) (hj : j < z) : ∃ e ∈ oz.after, Region.binds .any e = true ∧ e.on = j := by
  unfold lastOk at hb
  rw [Bool.and_eq_true] at hb
  have h := List.all_eq_true.1 hb.1 j (List.mem_range.2 hj)
  obtain ⟨e, he, h2⟩ := Array.any_eq_true'.1 h
  rw [Bool.and_eq_true] at h2
  exact ⟨e, he, h2.1, by simpa using h2.2⟩
theorem lastOk_dag (hb : lastOk ops z oz = true) (j : Nat) (hj : j ≤ z) (o : Oper) (ho : ops[j]? = some o) : ∀ e ∈ o.after, e.on < j := by
  unfold lastOk at hb
  rw [Bool.and_eq_true] at hb
  have h := List.all_eq_true.1 hb.2 j (List.mem_range.2 (by omega))
  rw [ho] at h
  intro e he
  have := Array.all_eq_true_iff_forall_mem.1 h e he
  simpa using this
/-- Where none may come up but the last one, all others have. -/
theorem last_all (hsz : ops.size = z + 1) (hb : lastOk ops z oz = true) (listed : Array Bool) (hl : listed.size = z + 1)
    (hr : Region.ready .any ops (listed.setIfInBounds z true) = []) : ∀ j, j < z → listed.getD j false = true := by
  intro j
  induction j using Nat.strongRecOn with
  | ind j ih =>
    intro hj
    cases hc : listed.getD j false with
    | true => rfl
    | false =>
      exfalso
      have ho : ops[j]? = some ops[j] := Array.getElem?_eq_getElem (by omega)
      have hm : j ∈ Region.ready .any ops (listed.setIfInBounds z true) := by
        rw [mem_ready]
        refine ⟨?_, _, ho, fun e he _ => ?_⟩
        · rw [getD_set_ne true (by omega)]
          simp only [Array.getD_eq_getD_getElem?] at hc ⊢
          rw [Array.getElem?_eq_getElem (by omega)] at hc ⊢
          exact hc
        · have hlt := lastOk_dag hb j (by omega) _ ho e he
          rw [getD_set_ne false (by omega)]
          exact ih e.on hlt (by omega)
      rw [hr] at hm
      cases hm
theorem last_ready (hz : ops[z]? = some oz) (hsz : ops.size = z + 1) (hb : lastOk ops z oz = true) (listed : Array Bool) (hl : listed.size = z + 1) (hu : listed.getD z true = false)
    (hr : Region.ready .any ops (listed.setIfInBounds z true) = []) : z ∈ Region.ready .any ops listed := by
  rw [mem_ready]
  exact ⟨hu, oz, hz, fun e he _ => last_all hsz hb listed hl hr e.on (lastOk_dag hb z (Nat.le_refl _) oz hz e he)⟩
theorem last_other (hsz : ops.size = z + 1) (hb : lastOk ops z oz = true) (listed : Array Bool) (i : Nat) (hi : i ≠ z) (h : i ∈ Region.ready .any ops listed) : i ∈ Region.ready .any ops (listed.setIfInBounds z true) := by
  rw [mem_ready] at h ⊢
  obtain ⟨h0, o, ho, h1⟩ := h
  refine ⟨by rw [getD_set_ne true (Ne.symm hi)]; exact h0, o, ho, fun e he hbn => ?_⟩
  have hilt : i < ops.size := (Array.getElem?_eq_some_iff.1 ho).1
  have := lastOk_dag hb i (by omega) o ho e he
  rw [getD_set_ne false (by omega)]
  exact h1 e he hbn
/-- Once the last one may come up, none other may. -/
theorem last_only (hz : ops[z]? = some oz) (hsz : ops.size = z + 1) (hb : lastOk ops z oz = true) (listed : Array Bool) (h : z ∈ Region.ready .any ops listed) : Region.ready .any ops (listed.setIfInBounds z true) = [] := by
  rw [mem_ready] at h
  obtain ⟨h0, o, ho, h1⟩ := h
  rw [hz] at ho
  obtain rfl := Option.some.inj ho
  refine List.eq_nil_iff_forall_not_mem.2 (fun i hi => ?_)
  rw [mem_ready] at hi
  obtain ⟨g0, o, ho, g1⟩ := hi
  have hilt : i < ops.size := (Array.getElem?_eq_some_iff.1 ho).1
  by_cases e : i = z
  · subst e
    have hlt : i < listed.size := by
      rcases Nat.lt_or_ge i listed.size with q | q
      · exact q
      · simp [Array.getD_eq_getD_getElem?, Array.getElem?_eq_none q] at h0
    simp [Array.getD_eq_getD_getElem?, hlt] at g0
  · obtain ⟨ed, he, hbn, hon⟩ := lastOk_waits hb i (by omega)
    have := h1 ed he hbn
    rw [hon] at this
    rw [getD_set_ne true (fun q => e q.symm)] at g0
    simp only [Array.getD_eq_getD_getElem?] at this g0
    cases hq : listed[i]? with
    | none => rw [hq] at this; cases this
    | some b => rw [hq] at this g0; simp at this g0; rw [this] at g0; cases g0

theorem any_last (hz : ops[z]? = some oz) (hsz : ops.size = z + 1) (hb : lastOk ops z oz = true) :
    ∀ (fuel : Nat) (listed : Array Bool) (a : Act) (w : World), listed.size = z + 1 → listed.getD z true = false →
      wpAnyH P .any ops (lastQ P ops Q z) S fuel (listed.setIfInBounds z true) a w → wpAny P .any ops Q (fuel + 1) listed a w := by
  intro fuel
  induction fuel with
  | zero =>
    intro listed a w hl hu h
    refine ⟨fun h0 => ?_, fun i hi => ?_⟩
    · have := last_ready hz hsz hb listed hl hu h.1
      rw [h0] at this
      cases this
    · by_cases e : i = z
      · subst e
        exact wpOp_mono (fun a' w' hq => ⟨h.1, hq⟩) h.2
      · have := last_other hsz hb listed i e hi
        rw [h.1] at this
        cases this
  | succ fuel ih =>
    intro listed a w hl hu h
    refine ⟨fun h0 => ?_, fun i hi => ?_⟩
    · cases hr : Region.ready .any ops (listed.setIfInBounds z true) with
      | nil =>
        have := last_ready hz hsz hb listed hl hu hr
        rw [h0] at this
        cases this
      | cons j t =>
        have hj : j ∈ Region.ready .any ops (listed.setIfInBounds z true) := by rw [hr]; simp
        have hjz : j ≠ z := fun e => by
          subst e
          have := (mem_ready.1 hj).1
          simp [Array.getD_eq_getD_getElem?, hl] at this
        have : j ∈ Region.ready .any ops listed := by
          rw [mem_ready] at hj ⊢
          obtain ⟨g0, o, ho, g1⟩ := hj
          have hjlt : j < ops.size := (Array.getElem?_eq_some_iff.1 ho).1
          refine ⟨by rwa [getD_set_ne true (Ne.symm hjz)] at g0, o, ho, fun e he hbn => ?_⟩
          have h2 := g1 e he hbn
          have := lastOk_dag hb j (by omega) o ho e he
          rwa [getD_set_ne false (by omega)] at h2
        rw [h0] at this
        cases this
    · by_cases e : i = z
      · subst e
        have hr := last_only hz hsz hb listed hi
        refine wpOp_mono (fun a' w' hq => ⟨fun _ => hq, fun j hj => ?_⟩) (h.1 hr)
        rw [hr] at hj
        cases hj
      · have h2 := h.2 i (last_other hsz hb listed i e hi)
        refine wpOp_lastQ (wpOp_mono (fun a' w' hq => ?_) h2)
        refine ih (listed.setIfInBounds i true) a' w' (by simpa using hl) (by rw [getD_set_ne true e]; exact hu) ?_
        rw [Array.setIfInBounds_comm _ _ e]
        exact hq.2
/-- THE BEGINNING: S is shown of the world behind the draw, and kept by all operations but the last one, which waits for all. -/
theorem wp_region_last {id : Nat} {a : Act} {w : World} (S : World → Prop) (z : Nat) (oz : Oper) (hm : P.follows .mixedOrders = true) (hz : ops[z]? = some oz) (hsz : ops.size = z + 1) (hb : lastOk ops z oz = true) (hS : S w.drew)
    (h : S w.drew → wpAnyH P .any ops (lastQ P ops Q z) S z ((Array.replicate (z + 1) false).setIfInBounds z true) a w.drew) : (Code.region id ops true).wp P Q a w := by
  refine wp_region_any hm ?_
  rw [hsz]
  exact any_last hz hsz hb z _ a w.drew (by simp) (by simp) (h hS)
/-- THE END: the last operation is carried out. -/
theorem lastQ_normal {a : Act} {w : World} {o : Oper} (ho : ops[z]? = some o) (h : ∀ K' : Act → World → Prop, Shut (∀ a w, Q .normal a w → K' a w) → if Region.wanted o (yielded ops a.tmps) = true then Oper.wp P o a w K' Q else K' (a.put o.dst undef) w) : lastQ P ops Q z .normal a w :=
  wpOp_step ho (fun K' hK => h K' hK)
end
end Go.Proofs.Ythkielaicnmaeaa
