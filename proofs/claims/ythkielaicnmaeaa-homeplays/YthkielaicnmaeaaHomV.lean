/- home: the document's give. -/
import Derived.Test.YthkielaicnmaeaaHomU
import Derived.Deep.RegionHeld3
namespace Go.Proofs.Ythkielaicnmaeaa
open Go.ChangeShapes Go.WideShapes Go.ChangeAt Go.RowKit
set_option linter.unusedVariables false
set_option linter.unusedSimpArgs false
attribute [local go_sem ↓] ldM_eq stM_eq bdM_eq bsM_eq
variable {n0 db : Nat} {d d' : W.Dm} {sv wv sv' wv' sv'' wv'' : Value} {w w' w'' : World}
/-- What the document's calls that take a message leave. -/
def Rsd (n0 db : Nat) (r : W.Dm × List W.Mg) (sv wv : Value) (w : World) (e : Ending) (w' : World) : Prop :=
  ∃ sl sv' wv', e = .returned (slV sl) ∧ Ms sl r.2 w' ∧ Dh n0 db r.1 sv' wv' w' ∧ Du db sv wv sv' wv' w w' ∧ ∀ b o, sl.a = some ⟨b, o, none⟩ → w.heap.size ≤ b
theorem Rsd.from {rr : W.Dm × List W.Mg} {e : Ending} (hu : Du db sv wv sv' wv' w w') (h : Rsd n0 db rr sv' wv' w' e w'') : Rsd n0 db rr sv wv w e w'' := by
  obtain ⟨sl, sv1, av1, he, hm, hH, hu1, hap⟩ := h
  exact ⟨sl, sv1, av1, he, hm, hH, hu.trans hu1, fun b o e => Nat.le_trans hu.g.size (hap b o e)⟩
theorem Rsd.nilR (hH : Dh n0 db d sv' wv' w') (hu : Du db sv wv sv' wv' w w') : Rsd n0 db (d, []) sv wv w (.returned (.slice none 0 0)) w' :=
  ⟨⟨none, 0, 0⟩, sv', wv', rfl, ms_nil _, hH, hu, fun b o e => by cases e⟩
theorem Rsd.oneB (H : Dh n0 db d sv' wv' w') (hu : Du db sv wv sv' wv' w w') (M : W.Mg) {B : Nat} (hB : w'.heap.size = B) : Rsd n0 db (d, [M]) sv wv w (.returned (.slice (some ⟨B, 0, none⟩) 1 1)) (w'.alloc (.cells (mgL M).toArray 35)) := by
  subst hB
  exact ⟨⟨some ⟨w'.heap.size, 0, none⟩, 1, 1⟩, sv', wv', rfl, ms_one M w', H.below (below_alloc _ _), hu.trans (Du.of_below (below_alloc _ _)), fun b o e => by cases e; exact hu.g.size⟩
theorem Rsd.dat {M : W.Mg} {sl : W.Sl} {w1 : World} (H : Dh n0 db d sv' wv' w1) (hu : Du db sv wv sv' wv' w w1) (hm : Ms sl [M] w') (hap : ∀ b o, sl.a = some ⟨b, o, none⟩ → w1.heap.size ≤ b) (hb : Below w1.heap.size w1 w') : Rsd n0 db (d, [M]) sv wv w (.returned (slV sl)) w' :=
  ⟨sl, sv', wv', rfl, hm, H.below hb, hu.trans (Du.of_below hb), fun b o e => Nat.le_trans hu.g.size (hap b o e)⟩

set_option maxRecDepth 10000 in
set_option maxHeartbeats 1600000 in
theorem dgive_any (H : Dh n0 db d sv wv w) : Calls Try.prog 38 #[.pointer (some ⟨db, 0, none⟩)] w fun e w' => Rsd n0 db (W.dgv d) sv wv w e w' := by
  have c24 : w.cell? ⟨db, 24, none⟩ = some (.bool d.own) := H.c 24 (by decide)
  have c10 : w.cell? ⟨db, 10, none⟩ = some (.int .i64 d.by_) := H.c 10 (by decide)
  have c6 := H.c 6 (by decide)
  have c7 := H.c 7 (by decide)
  have f6 := H.b.fz 6
  have f7 := H.b.fz 7
  dsimp only [dhF] at c6 c7
  have h1 := H.put 6 (.int .i64 d.by_) { d with ow := d.by_ } (dupd_ow d sv wv d.by_) rfl rfl
  have h2 := h1.1.setS (v := .slice none 0 0) (l := []) (On.nil _ _) (by simp [Value.ownBlock]) w (h1.2.g.size) h1.2 (fun g e => by cases e)
  have HH : Hid (Dh n0 db { d with ow := d.by_, sh := [] } (.slice none 0 0) wv ((w.setCell ⟨db, 6, none⟩ (.int .i64 d.by_)).setCell ⟨db, 7, none⟩ (.slice none 0 0)) ∧ Du db sv wv (.slice none 0 0) wv w ((w.setCell ⟨db, 6, none⟩ (.int .i64 d.by_)).setCell ⟨db, 7, none⟩ (.slice none 0 0))) := h2
  have k2 : w.cell? ⟨db, 2, none⟩ = some (.int .u32 d.e0) := H.c 2 (by decide)
  have k3 : w.cell? ⟨db, 3, none⟩ = some (.int .u32 d.e1) := H.c 3 (by decide)
  have k4 : w.cell? ⟨db, 4, none⟩ = some (.int .u32 d.e2) := H.c 4 (by decide)
  have k5 : w.cell? ⟨db, 5, none⟩ = some (.int .u32 d.e3) := H.c 5 (by decide)
  have c21 : w.cell? ⟨db, 21, none⟩ = some (.bool d.had.h) := H.c 21 (by decide)
  clear H h1 h2
  cases ho : d.own
  case true =>
    rw [ho] at c24
    have HO : Hid (W.dgv d = ({ d with ow := d.by_, sh := [] }, [W.dmsg d 8 d.by_])) := by
      show W.dgv d = _
      unfold W.dgv
      rw [if_pos ho]
    have HM : Hid (Calls _ _ _ _ _) := dmsg_any (d := d) (HH.out.1.c 0 (by decide)) 8 d.by_
    clear ho
    go_enter Try.func38, Try.ntmps38
    go_wp2_with (fail)
    refine HM.out.mono ?_
    rintro e w2 ⟨rfl, hb2⟩
    have HR : Hid (_) := Rsd.oneB (HH.out.1.below hb2) (HH.out.2.trans (Du.of_below hb2)) (W.dmsg d 8 d.by_) rfl
    have bs := bsM_any (W.dmsg d 8 d.by_)
    generalize W.dmsg d 8 d.by_ = M at *
    clear hb2 HM
    go_wp2_with (fail)
    go_ret
    rw [HO.out]
    exact HR.out
  case false =>
    rw [ho] at c24
    cases hh : d.had.h
    case false =>
      rw [hh] at c21
      have HO : Hid (W.dgv d = ({ d with ow := d.by_, sh := [] }, [W.ddat d d.e0 d.e1 d.e2 d.e3 false true])) := by
        show W.dgv d = _
        unfold W.dgv
        rw [if_neg (by simp [ho]), if_neg (by simp [hh])]
      have HM : Hid (Calls _ _ _ _ _) := ddata_any (d := d) (HH.out.1.c 0 (by decide)) (HH.out.1.c 10 (by decide)) d.e0 d.e1 d.e2 d.e3 false true
      clear ho hh
      go_enter Try.func38, Try.ntmps38
      go_wp2_with (fail)
      refine HM.out.mono ?_
      rintro e w2 ⟨⟨sl, rfl, hm2, hap⟩, hb2⟩
      have HR : Hid (_) := Rsd.dat HH.out.1 HH.out.2 hm2 hap hb2
      clear hb2 HM hm2 hap
      go_wp2_with (fail)
      go_ret
      rw [HO.out]
      exact HR.out
    case true =>
      rw [hh] at c21
      have HO : Hid (W.dgv d = ({ d with ow := d.by_, sh := [] }, [W.ddat d d.had.d0 d.had.d1 d.had.d2 d.had.d3 d.had.d true])) := by
        show W.dgv d = _
        unfold W.dgv
        rw [if_neg (by simp [ho]), if_pos hh]
      clear ho hh
      go_enter Try.func38, Try.ntmps38
      go_wp2_with (fail)
      clear c24 c10 c6 c7 f6 f7 k2 k3 k4 k5 c21
      generalize World.setCell (World.setCell w _ _) _ _ = W1 at *
      have hdw : Below W1.heap.size W1 W1.drew := (Below.refl _ _).drew
      have H3 := HH.out.1.below hdw
      have HM : Hid (Calls _ _ _ _ _) := ddata_any (d := d) (H3.c 0 (by decide)) (H3.c 10 (by decide)) d.had.d0 d.had.d1 d.had.d2 d.had.d3 d.had.d true
      have HK : Hid (∀ w', Below W1.heap.size W1 w' → w'.cell? ⟨db, 17, none⟩ = some (.int .u32 d.had.d0) ∧ w'.cell? ⟨db, 18, none⟩ = some (.int .u32 d.had.d1) ∧ w'.cell? ⟨db, 19, none⟩ = some (.int .u32 d.had.d2) ∧ w'.cell? ⟨db, 20, none⟩ = some (.int .u32 d.had.d3) ∧ w'.cell? ⟨db, 22, none⟩ = some (.bool d.had.d)) := fun w' hb => by
        have := HH.out.1.below hb
        exact ⟨this.c 17 (by decide), this.c 18 (by decide), this.c 19 (by decide), this.c 20 (by decide), this.c 22 (by decide)⟩
      have HD : Hid (Below W1.heap.size W1 W1.drew) := hdw
      clear hdw H3
      go_region_held3 (fun w' => w'.cell? ⟨db, 17, none⟩ = some (.int .u32 d.had.d0) ∧ w'.cell? ⟨db, 18, none⟩ = some (.int .u32 d.had.d1) ∧ w'.cell? ⟨db, 19, none⟩ = some (.int .u32 d.had.d2) ∧ w'.cell? ⟨db, 20, none⟩ = some (.int .u32 d.had.d3) ∧ w'.cell? ⟨db, 22, none⟩ = some (.bool d.had.d))
        (first
          | exact HK.out _ HD.out
          | exact HK.out _ hb4)
        (first
          | (go_at_call 35; refine HM.out.mono ?_; rintro e w2 ⟨⟨sl, rfl, hm2, hap⟩, hb2⟩; have hb4 := HD.out.trans hb2))
      all_goals
        have HR : Hid (_) := Rsd.dat (HH.out.1.below HD.out) (HH.out.2.trans (Du.of_below HD.out)) hm2 hap hb2
        clear hb2 HM hm2 hap hb4
        go_wp2_with (fail)
        go_ret
        rw [HO.out]
        exact HR.out
end Go.Proofs.Ythkielaicnmaeaa
