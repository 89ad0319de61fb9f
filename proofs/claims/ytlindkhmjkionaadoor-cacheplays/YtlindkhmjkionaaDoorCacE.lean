/- cache: last, Use. -/
import Derived.Test.YtlindkhmjkionaaDoorCacD
namespace Go.Proofs.YtlindkhmjkionaaDoor
open Go.ChangeShapes Go.WideShapes Go.ChangeAt Go.RowKit
set_option linter.unusedVariables false
set_option linter.unusedSimpArgs false
attribute [local go_sem ↓] ldE_eq stE_eq bdE_eq bsE_eq
variable {n0 cb sb K : Nat} {ways : Int} {sv sv' sv'' : Nat → Value} {S S' : Nat → List W.En} {w w' w'' : World}

theorem drop_any (H : Ct n0 cb sb K ways sv S w) (hK : 0 < K) (hS : ∀ i, i < K → (S i).length ≤ 4096) (x : Int) (hx : 0 ≤ x) :
    Calls Tryd.prog 15 #[.pointer (some ⟨cb, 0, none⟩), .int .i64 x] w fun e w' => e = .returned (.bool (W.has (S (W.ix K x)) x)) ∧ ∃ sv', Ct n0 cb sb K ways sv' (W.updS S (W.ix K x) (W.drp (S (W.ix K x)) x)) w' ∧ Cu sb K sv sv' w w' := by
  cases hq : W.has (S (W.ix K x)) x
  · refine (drop_miss H hK hS x (by unfold W.st; rw [if_neg (by omega)]; exact hq)).mono fun e w' h => ⟨h.1, sv, ?_, Cu.of_below h.2⟩
    rw [W.drp_none hq, W.updS_self]
    exact H.below h.2
  · exact drop_hit H hK hS x hx hq

set_option maxRecDepth 10000 in
set_option maxHeartbeats 1600000 in
theorem last_any (H : Ct n0 cb sb K ways sv S w) (hK : 0 < K) (hS : ∀ i, i < K → (S i).length ≤ 4096) (e : W.En) (hx : 0 ≤ e.l) :
    Calls Tryd.prog 31 #[.pointer (some ⟨cb, 0, none⟩), enV e] w fun r w' => r = .returned (.tuple #[]) ∧ ∃ sv', Ct n0 cb sb K ways sv' (W.updS S (W.ix K e.l) (W.lst (S (W.ix K e.l)) e)) w' ∧ Cu sb K sv sv' w w' := by
  have hi := W.ix_lt hK e.l
  have HS : Hid (∀ i, i < K → (S i).length ≤ 4096) := hS
  have hba := below_alloc w (.cells (enL e).toArray 37)
  have hE := enAt_new w e
  have HH : Hid (Ct n0 cb sb K ways sv S w) := H
  have H1 : Hid (_ ∧ _ ∧ _) := ⟨H.below hba, hE, hba⟩
  have HW : Hid (Apt sb K sv w.heap.size) := H.apt_new (Nat.le_refl _)
  have hlst : ∀ l, W.lst l e = W.drp l e.l ++ [e] := fun l => rfl
  have HL : Hid (_) := hlst
  clear H hba hE hS hlst
  have c0 := H1.out.2.1.cAt 0 (by decide)
  have e0 : (enL e)[0]? = some (.int .i64 e.l) := rfl
  rw [e0] at c0
  clear e0
  generalize hxx : e.l = x at *
  generalize hix : W.ix K x = ix at *
  have HX : Hid (W.ix K x = ix ∧ e.l = x) := ⟨hix, hxx⟩
  clear hix hxx
  have hse : Hid (enV e = .agg (enL e).toArray) := rfl
  unfold enV
  have el0 : (enL e).toArray[0]? = some (.int .i64 x) := by simp [enL, HX.out.2]
  generalize hEL : (enL e).toArray = EL at *
  have HEL : Hid ((enL e).toArray = EL) := hEL
  clear hEL
  go_enter Tryd.func31, Tryd.ntmps31
  go_wp2_with (fail)
  generalize heb : w.heap.size = eb at *
  generalize World.alloc w _ = W0 at *
  have hD := drop_any H1.out.1 hK HS.out x hx
  rw [HX.out.1] at hD
  refine hD.mono ?_
  rintro r w1 ⟨rfl, sv1, hC1, hU1⟩
  have heb0 : eb < W0.heap.size := H1.out.2.1.lt
  have hE1 : EnAt eb e w1 := (hU1.other heb0 HW.out).trans H1.out.2.1
  have hA1 := hU1.apt heb0 HW.out
  have HQ : Hid (_ ∧ _ ∧ _ ∧ _) := ⟨hC1, hU1, hE1, hA1⟩
  have c1 := hE1.cAt 0 (by decide)
  have e0 : (enL e)[0]? = some (.int .i64 x) := by rw [← HX.out.2]; rfl
  rw [e0] at c1
  have hix := index_any hC1 hK x hx
  rw [HX.out.1] at hix
  have HIX : Hid (Calls _ _ _ _ _) := hix
  have hW1 := HQ.out.2.1.g.size
  clear hD e0 hC1 hU1 hE1 hA1 c0 hix
  go_wp2_with (fail)
  refine HIX.out.mono ?_
  rintro r w2 ⟨rfl, rfl⟩
  have hixk : (ix : Int) < K := by omega
  obtain ⟨ti, hi1, hzz⟩ := Option.map_eq_some_iff.1 infoEn
  simp only [Prod.mk.injEq] at hzz
  obtain ⟨hz0, hz1, hz2⟩ := hzz
  have r1 : w1.rangeAt eb 0 (enL e) := fun j v hv => by
    rw [Nat.zero_add, cell_of_row _ _ j _ 37 (0, 0) HQ.out.2.2.1]
    simpa using hv
  have hl1 := HQ.out.2.2.1.lt
  have m0 := ldE_at r1
  have m1 := ldE_at (w := w1.drew) r1
  have a0 := HQ.out.1.c1
  have a1 : w1.drew.cell? ⟨cb, 1, none⟩ = some (.slice (some ⟨sb, 0, none⟩) K K) := HQ.out.1.c1
  have a2 : ∀ o, (w1.alloc o).cell? ⟨cb, 1, none⟩ = some (.slice (some ⟨sb, 0, none⟩) K K) := fun o => (HQ.out.1.below (below_alloc w1 o)).c1
  have a3 : ∀ o, (w1.drew.alloc o).cell? ⟨cb, 1, none⟩ = some (.slice (some ⟨sb, 0, none⟩) K K) := fun o => (HQ.out.1.below (below_alloc w1 o)).c1
  have a4 : ∀ o, (w1.alloc o).drew.cell? ⟨cb, 1, none⟩ = some (.slice (some ⟨sb, 0, none⟩) K K) := fun o => (HQ.out.1.below (below_alloc w1 o)).c1
  have s0 : w1.cell? ⟨sb, ix, none⟩ = some (sv1 ix) := HQ.out.1.s.c _ hi
  have s1 : w1.drew.cell? ⟨sb, ix, none⟩ = some (sv1 ix) := HQ.out.1.s.c _ hi
  have s2 : ∀ o, (w1.alloc o).cell? ⟨sb, ix, none⟩ = some (sv1 ix) := fun o => (HQ.out.1.below (below_alloc w1 o)).s.c _ hi
  have s3 : ∀ o, (w1.drew.alloc o).cell? ⟨sb, ix, none⟩ = some (sv1 ix) := fun o => (HQ.out.1.below (below_alloc w1 o)).s.c _ hi
  have s4 : ∀ o, (w1.alloc o).drew.cell? ⟨sb, ix, none⟩ = some (sv1 ix) := fun o => (HQ.out.1.below (below_alloc w1 o)).s.c _ hi
  have hbs := fun w => bsE_any e w
  have ho := HQ.out.1.o ix hi
  rw [W.updS_same] at ho
  have hdl : (W.drp (S ix) x).length ≤ 4096 := Nat.le_trans (W.drp_len _ _) (HS.out ix hi)
  have HO : Hid (_) := ho
  have hfz : ∀ w6 : World, w1.grownBy w6 (sv1 ix).ownBlock → w6.frozen? ⟨sb, ix, none⟩ = false ∧ w6.cell? ⟨sb, ix, none⟩ = some (sv1 ix) ∧ w6.cell? ⟨cb, 1, none⟩ = some (.slice (some ⟨sb, 0, none⟩) K K) := fun w6 hg => by
    have b6 := HQ.out.1.b.grown hg (fun e => HQ.out.1.nc _ hi e.symm)
    have s6 := HQ.out.1.s.grown hg (fun e => HQ.out.1.ns _ hi e.symm)
    exact ⟨s6.fz _, s6.c _ hi, b6.c 1 (by decide)⟩
  have HFZ : Hid (_) := hfz
  clear ho hfz
  generalize hv : sv1 ix = v at *
  generalize hN : (W.drp (S ix) x).length = N at *
  generalize hxs : enX (W.drp (S ix) x) = XS at *
  have HV : Hid (sv1 ix = v ∧ (W.drp (S ix) x).length = N ∧ enX (W.drp (S ix) x) = XS) := ⟨hv, hN, hxs⟩
  clear hv hN hxs
  go_wp2_with (fail)
  go_region_law (first
    | ((refine step_lies _ 27 24 26 _ n0 37 ti (.agg zEn) 6 32 Tryd.underlying57 hi1 hz0 hz1 hz2 rfl (by decide) v N XS ?a1 ?a3 ⟨w1.heap.size, 0, none⟩ 1 1 (enL e) ?a2 rfl ?a4 ?a5 (by decide) ?a6 ?a7 ?a8 ?_
        case a1 => rfl
        case a2 => rfl
        case a3 => exact own_below HO.out ((Below.refl _ _).drew.alloc (Nat.le_refl _) _)
        case a4 => exact World.news_of_block (cs := (enL e).toArray) (heap_alloc_last w1.drew _)
        case a5 => exact oneE _
        case a6 => unfold maxLen; omega
        case a7 => omega
        case a8 => (have := HQ.out.1.s.lt; have := HQ.out.1.n0s; simp; omega)
        intro g cap w6 hown6 hg6 hat6 hlt6
        have g6 := gtrans (gtrans (gdrew w1 v.ownBlock) (galloc w1.drew (.cells (enL e).toArray 37) _)) hg6
        obtain ⟨f6, k6, k7⟩ := HFZ.out w6 g6))
    | (fail))
  all_goals
    go_end0
    have hf := HQ.out.1.turn hi (v := .slice (some ⟨g, 0, none⟩) (N + 1) cap) (l := W.drp (S ix) x ++ [e]) (w' := w6) (by rw [HV.out.1]; exact g6) (by rw [List.length_append, enX_app, HV.out.2.1, HV.out.2.2]; exact hown6) (by
      rw [HV.out.1]
      rcases hat6 with h | h
      · exact Or.inl h.symm
      · refine Or.inr fun g' hg' => ?_
        have : g = g' := by simpa [Value.ownBlock] using hg'
        rw [← this, h]
        first | (simp; done) | (simp; omega))
    have hl := HL.out (S ix)
    rw [W.updS_twice] at hf
    refine ⟨rfl, _, ?_, (Cu.of_below (w := w) (w' := W0) (by rw [heb]; exact H1.out.2.2)).trans (HQ.out.2.1.trans hf.2)⟩
    rw [hl]
    exact hf.1
end Go.Proofs.YtlindkhmjkionaaDoor
