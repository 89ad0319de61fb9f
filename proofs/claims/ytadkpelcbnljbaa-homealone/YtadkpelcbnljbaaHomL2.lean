/- home: put. -/
import Derived.Test.YtadkpelcbnljbaaHomL1
namespace Go.Proofs.Ytadkpelcbnljbaa
open Go.ChangeShapes Go.WideShapes Go.ChangeAt Go.RowKit
set_option linter.unusedVariables false
set_option linter.unusedSimpArgs false
attribute [local go_sem ↓] ldM_eq stM_eq bdM_eq bsM_eq
variable {n0 hb : Nat} {s s' : W.Hm} {sv av sv' av' sv'' av'' : Value} {w w' w'' : World}

theorem upd_e0 (s : W.Hm) (sv av : Value) (x : Int) (j : Nat) : updV (hoF s sv av) 2 (.int .u32 x) j = hoF { s with e0 := x } sv av j := by
  unfold updV
  by_cases e : j = 2
  · subst e; rfl
  · rw [if_neg e]
    unfold hoF
    split <;> first | rfl | exact absurd rfl e
theorem upd_e1 (s : W.Hm) (sv av : Value) (x : Int) (j : Nat) : updV (hoF s sv av) 3 (.int .u32 x) j = hoF { s with e1 := x } sv av j := by
  unfold updV
  by_cases e : j = 3
  · subst e; rfl
  · rw [if_neg e]
    unfold hoF
    split <;> first | rfl | exact absurd rfl e
theorem upd_e2 (s : W.Hm) (sv av : Value) (x : Int) (j : Nat) : updV (hoF s sv av) 4 (.int .u32 x) j = hoF { s with e2 := x } sv av j := by
  unfold updV
  by_cases e : j = 4
  · subst e; rfl
  · rw [if_neg e]
    unfold hoF
    split <;> first | rfl | exact absurd rfl e
theorem upd_e3 (s : W.Hm) (sv av : Value) (x : Int) (j : Nat) : updV (hoF s sv av) 5 (.int .u32 x) j = hoF { s with e3 := x } sv av j := by
  unfold updV
  by_cases e : j = 5
  · subst e; rfl
  · rw [if_neg e]
    unfold hoF
    split <;> first | rfl | exact absurd rfl e

/-- What region 5 reads. -/
def SPt (hb mb : Nat) (sv : Value) (f : Int) (w' : World) : Prop := w'.cell? ⟨hb, 7, none⟩ = some sv ∧ w'.cell? ⟨mb, 2, none⟩ = some (.int .i64 f)

set_option maxRecDepth 10000 in
set_option maxHeartbeats 1600000 in
theorem put_any (H : Ho n0 hb s sv av w) (hu : W.Up1 s.sh) (hl : s.sh.length ≤ 4096) (m : W.Mg) : Calls Try.prog 29 #[.pointer (some ⟨hb, 0, none⟩), mgV m] w fun e w' => Res n0 hb (W.pt s m) sv av w e w' := by
  have hba := below_alloc w (.cells (mgL m).toArray 35)
  have H1 := H.below hba
  have hm := msgAt_new w m
  have hpt := H.pt_new (Nat.le_refl w.heap.size)
  have HB : Hid (Below w.heap.size w (w.alloc (.cells (mgL m).toArray 35))) := hba
  have HU : Hid (W.Up1 s.sh ∧ s.sh.length ≤ 4096) := ⟨hu, hl⟩
  clear H hba hu hl
  unfold mgV
  have e2 : (mgL m)[2]? = some (.int .i64 m.f) := rfl
  have e6 : (mgL m)[9]? = some (.bool m.d) := rfl
  have e4 : (mgL m)[4]? = some (.int .u32 m.d0) := rfl
  have e5 : (mgL m)[5]? = some (.int .u32 m.d1) := rfl
  have e7 : (mgL m)[6]? = some (.int .u32 m.d2) := rfl
  have e8 : (mgL m)[7]? = some (.int .u32 m.d3) := rfl
  have HO : Hid (∀ s1 : W.Hm, s1.sh = s.sh → { s1 with sh := W.wo s.sh m.f } = (W.pt s m).1 → s1.ln = s.ln → W.pt s m = ({ s1 with sh := W.wo s1.sh m.f }, [W.msg s1 9 m.f])) := by
    show ∀ s1 : W.Hm, s1.sh = s.sh → { s1 with sh := W.wo s.sh m.f } = (W.pt s m).1 → s1.ln = s.ln → W.pt s m = ({ s1 with sh := W.wo s1.sh m.f }, [W.msg s1 9 m.f])
    intro s1 h1 h2 h3
    rw [h1, h2]
    unfold W.pt W.msg
    rw [h3]
  have HM : Hid (MsgAt w.heap.size m (w.alloc (.cells (mgL m).toArray 35)) ∧ Hpt hb sv av w.heap.size) := ⟨hm, hpt⟩
  have HH : Hid (Ho n0 hb s sv av (w.alloc (.cells (mgL m).toArray 35))) := H1
  have c6 := H1.c 6 (by decide)
  have c2 := hm.cAt 2
  rw [e2] at c2
  dsimp only [hoF] at c6
  clear H1 hm hpt
  go_enter Try.func29, Try.ntmps29
  go_wp2_with (fail)
  generalize World.alloc w _ = W1 at *
  have hmb : ∀ W, Below w.heap.size w W → Hid (Below w.heap.size w W) := fun _ h => h
  have HB' : Hid (Below w.heap.size w W1 ∧ w.heap.size ≤ w.heap.size) := ⟨HB.out, Nat.le_refl _⟩
  clear hmb HB
  generalize hmb0 : w.heap.size = mb at HM c2 HB' ⊢
  have HB : Hid (Below w.heap.size w W1) := by rw [hmb0]; exact HB'.out.1
  clear HB' hmb0
  go_region
  have hdw : Below W1.heap.size W1 W1.drew := (Below.refl _ _).drew
  have H2 := HH.out.below hdw
  have m2 := HM.out.1.below hdw
  have u2 : Hu hb sv av sv av w W1.drew := Hu.of_below (HB.out.trans (hdw.mono HB.out.size))
  have HH2 : Hid (_ ∧ _ ∧ _) := ⟨H2, m2, u2⟩
  clear hdw H2 m2 u2 HH c6 c2
  generalize W1.drew = W2 at *
  have c6 := HH2.out.1.c 6 (by decide)
  have f6 := HH2.out.1.b.fz 6
  have k2 := HH2.out.1.c 2 (by decide)
  have k3 := HH2.out.1.c 3 (by decide)
  have k4 := HH2.out.1.c 4 (by decide)
  have k5 := HH2.out.1.c 5 (by decide)
  have j2 := HH2.out.1.b.fz 2
  have j3 := HH2.out.1.b.fz 3
  have j4 := HH2.out.1.b.fz 4
  have j5 := HH2.out.1.b.fz 5
  have c9 := HH2.out.2.1.cAt 9
  have c4 := HH2.out.2.1.cAt 4
  have c5 := HH2.out.2.1.cAt 5
  have c7 := HH2.out.2.1.cAt 6
  have c8 := HH2.out.2.1.cAt 7
  rw [e6] at c9
  rw [e4] at c4
  rw [e5] at c5
  rw [e7] at c7
  rw [e8] at c8
  clear e2 e6 e4 e5 e7 e8
  dsimp only [hoF] at c6 k2 k3 k4 k5
  by_cases q : m.f = s.ow
  · have q1 : (m.f == s.ow) = true := by simpa using q
    cases hd : m.d
    · rw [hd] at c9
      obtain ⟨s1, hs1⟩ : ∃ s1 : W.Hm, s1 = { s with ow := -1 } := ⟨_, rfl⟩
      have h1 := HH2.out.1.put 6 (.int .i64 (-1)) s1 (by rw [hs1]; exact upd_ow s sv av (-1)) (by rw [hs1]) (by rw [hs1])
      have HP : Hid (Ho n0 hb s1 sv av _ ∧ MsgAt mb m _ ∧ Hu hb sv av sv av w _) := ⟨h1.1, HH2.out.2.1.up h1.2 HM.out.2, HH2.out.2.2.trans h1.2⟩
      have HQ : Hid (_) := HO.out s1 (by rw [hs1]) (by rw [hs1]; unfold W.pt; simp [q, hd]) (by rw [hs1])
      have HS : Hid (s1.sh = s.sh) := by rw [hs1]; exact rfl
      clear h1 HO q hd hs1
      go_wp2_with (fail)
      clear HH2 c6 f6 k2 k3 k4 k5 j2 j3 j4 j5 c4 c5 c7 c8 c9
      generalize W2.setCell _ _ = W4 at *
      have hdw : Below W4.heap.size W4 W4.drew := (Below.refl _ _).drew
      have H5 := HP.out.1.below hdw
      have m5 := HP.out.2.1.below hdw
      have HW : Hid (Calls _ _ _ _ _) := without_any n0 sv s1.sh m.f (HS.out.symm ▸ HU.out.1) (HS.out.symm ▸ HU.out.2) W4.drew H5.os
      have K5 : W4.drew.cell? ⟨mb, 2, none⟩ = some (.int .i64 m.f) := m5.cAt 2
      have r70 : W4.drew.cell? ⟨hb, 7, none⟩ = some sv := H5.c 7 (by decide)
      have r71 : W4.cell? ⟨hb, 7, none⟩ = some sv := HP.out.1.c 7 (by decide)
      have HK : Hid (_ ∧ _ ∧ _) := ⟨H5, m5, HP.out.2.2.trans (Hu.of_below hdw)⟩
      clear hdw H5 m5 HU
      go_region_with (first
          | (go_at_call 30; refine HW.out.mono ?_; rintro e w5 ⟨v5, rfl, ho, hg, hv⟩; obtain ⟨a5, cap5, hv5, hcap5⟩ := ho.len; generalize (W.wo s1.sh m.f).length = n5 at hv5 hcap5; subst hv5
             have B5 := HK.out.1.b.grown hg (fun e => HK.out.1.sn e.symm)
             have r7 := B5.c 7 (by decide)
             have f7 := B5.fz 7
             dsimp only [hoF] at r7
             have M5 : MsgAt mb m w5 := (hg.block mb HK.out.2.1.lt (fun e => HM.out.2.2.1 e.symm)).trans HK.out.2.1
             have K6 : w5.cell? ⟨mb, 2, none⟩ = some (.int .i64 m.f) := M5.cAt 2; have K7 : (w5.setCell ⟨hb, 7, none⟩ (.slice a5 n5 cap5)).cell? ⟨mb, 2, none⟩ = some (.int .i64 m.f) := (World.cell?_setCell_other _ _ _ _ (by simp [HM.out.2.1])).trans K6))
      all_goals
        have h6 := HK.out.1.setS hg ho (Or.inl hv)
        have u6 := HK.out.2.2.trans h6.2
        have m6 := HK.out.2.1.up h6.2 HM.out.2
        have HZ : Hid (_ ∧ _ ∧ _) := ⟨h6.1, u6, m6⟩
        clear h6 u6 m6 ho hg hv K5 K6 K7 M5 B5 r7 f7 r70 r71 HK HW
        generalize World.setCell w5 _ _ = W6 at *
        have c2 := HZ.out.2.2.cAt 2
        have e2 : (mgL m)[2]? = some (.int .i64 m.f) := rfl
        rw [e2] at c2
        have HN : Hid (Calls _ _ _ _ _) := msg_any (s := s1) (HZ.out.1.c 0 (by decide)) 9 m.f
        clear e2
        go_wp2_with (fail)
        refine HN.out.mono ?_
        rintro e w8 ⟨rfl, hb8⟩
        have bs := bsM_any (W.msg s1 9 m.f)
        have HR : Hid (_) := Res.one (HZ.out.1.below hb8) (HZ.out.2.1.trans (Hu.of_below hb8)) (W.msg s1 9 m.f)
        generalize W.msg s1 9 m.f = M at *
        clear hb8
        go_wp2_with (fail)
        go_ret
        rw [HQ.out]
        exact HR.out
    · rw [hd] at c9
      obtain ⟨s1, hs1⟩ : ∃ s1 : W.Hm, s1 = { s with e0 := m.d0, e1 := m.d1, e2 := m.d2, e3 := m.d3, ow := -1 } := ⟨_, rfl⟩
      have g1 := HH2.out.1.put 2 (.int .u32 m.d0) { s with e0 := m.d0 } (upd_e0 s sv av m.d0) rfl rfl
      have g2 := g1.1.put 3 (.int .u32 m.d1) { s with e0 := m.d0, e1 := m.d1 } (upd_e1 _ sv av m.d1) rfl rfl
      have g3 := g2.1.put 4 (.int .u32 m.d2) { s with e0 := m.d0, e1 := m.d1, e2 := m.d2 } (upd_e2 _ sv av m.d2) rfl rfl
      have g4 := g3.1.put 5 (.int .u32 m.d3) { s with e0 := m.d0, e1 := m.d1, e2 := m.d2, e3 := m.d3 } (upd_e3 _ sv av m.d3) rfl rfl
      have h1 := g4.1.put 6 (.int .i64 (-1)) s1 (by rw [hs1]; exact upd_ow _ sv av (-1)) (by rw [hs1]) (by rw [hs1])
      have g5 := ((g1.2.trans g2.2).trans (g3.2.trans g4.2)).trans h1.2
      have HP : Hid (Ho n0 hb s1 sv av _ ∧ MsgAt mb m _ ∧ Hu hb sv av sv av w _) := ⟨h1.1, HH2.out.2.1.up g5 HM.out.2, HH2.out.2.2.trans g5⟩
      have HQ : Hid (_) := HO.out s1 (by rw [hs1]) (by rw [hs1]; unfold W.pt; simp [q, hd]) (by rw [hs1])
      have HS : Hid (s1.sh = s.sh) := by rw [hs1]; exact rfl
      clear g1 g2 g3 g4 g5 h1 HO q hd hs1
      go_wp2_with (fail)
      clear HH2 c6 f6 k2 k3 k4 k5 j2 j3 j4 j5 c4 c5 c7 c8 c9
      generalize World.setCell (World.setCell _ _ _) _ _ = W4 at *
      have hdw : Below W4.heap.size W4 W4.drew := (Below.refl _ _).drew
      have H5 := HP.out.1.below hdw
      have m5 := HP.out.2.1.below hdw
      have HW : Hid (Calls _ _ _ _ _) := without_any n0 sv s1.sh m.f (HS.out.symm ▸ HU.out.1) (HS.out.symm ▸ HU.out.2) W4.drew H5.os
      have K5 : W4.drew.cell? ⟨mb, 2, none⟩ = some (.int .i64 m.f) := m5.cAt 2
      have r70 : W4.drew.cell? ⟨hb, 7, none⟩ = some sv := H5.c 7 (by decide)
      have r71 : W4.cell? ⟨hb, 7, none⟩ = some sv := HP.out.1.c 7 (by decide)
      have HK : Hid (_ ∧ _ ∧ _) := ⟨H5, m5, HP.out.2.2.trans (Hu.of_below hdw)⟩
      clear hdw H5 m5 HU
      go_region_with (first
          | (go_at_call 30; refine HW.out.mono ?_; rintro e w5 ⟨v5, rfl, ho, hg, hv⟩; obtain ⟨a5, cap5, hv5, hcap5⟩ := ho.len; generalize (W.wo s1.sh m.f).length = n5 at hv5 hcap5; subst hv5
             have B5 := HK.out.1.b.grown hg (fun e => HK.out.1.sn e.symm)
             have r7 := B5.c 7 (by decide)
             have f7 := B5.fz 7
             dsimp only [hoF] at r7
             have M5 : MsgAt mb m w5 := (hg.block mb HK.out.2.1.lt (fun e => HM.out.2.2.1 e.symm)).trans HK.out.2.1
             have K6 : w5.cell? ⟨mb, 2, none⟩ = some (.int .i64 m.f) := M5.cAt 2; have K7 : (w5.setCell ⟨hb, 7, none⟩ (.slice a5 n5 cap5)).cell? ⟨mb, 2, none⟩ = some (.int .i64 m.f) := (World.cell?_setCell_other _ _ _ _ (by simp [HM.out.2.1])).trans K6))
      all_goals
        have h6 := HK.out.1.setS hg ho (Or.inl hv)
        have u6 := HK.out.2.2.trans h6.2
        have m6 := HK.out.2.1.up h6.2 HM.out.2
        have HZ : Hid (_ ∧ _ ∧ _) := ⟨h6.1, u6, m6⟩
        clear h6 u6 m6 ho hg hv K5 K6 K7 M5 B5 r7 f7 r70 r71 HK HW
        generalize World.setCell w5 _ _ = W6 at *
        have c2 := HZ.out.2.2.cAt 2
        have e2 : (mgL m)[2]? = some (.int .i64 m.f) := rfl
        rw [e2] at c2
        have HN : Hid (Calls _ _ _ _ _) := msg_any (s := s1) (HZ.out.1.c 0 (by decide)) 9 m.f
        clear e2
        go_wp2_with (fail)
        refine HN.out.mono ?_
        rintro e w8 ⟨rfl, hb8⟩
        have bs := bsM_any (W.msg s1 9 m.f)
        have HR : Hid (_) := Res.one (HZ.out.1.below hb8) (HZ.out.2.1.trans (Hu.of_below hb8)) (W.msg s1 9 m.f)
        generalize W.msg s1 9 m.f = M at *
        clear hb8
        go_wp2_with (fail)
        go_ret
        rw [HQ.out]
        exact HR.out
  · have q1 : (m.f == s.ow) = false := by simpa using q
    obtain ⟨s1, hs1⟩ : ∃ s1 : W.Hm, s1 = s := ⟨_, rfl⟩
    have HP : Hid (Ho n0 hb s1 sv av W2 ∧ MsgAt mb m W2 ∧ Hu hb sv av sv av w W2) := by rw [hs1]; exact HH2.out
    have HQ : Hid (_) := HO.out s1 (by rw [hs1]) (by rw [hs1]; unfold W.pt; simp [q]) (by rw [hs1])
    have HS : Hid (s1.sh = s.sh) := by rw [hs1]; exact rfl
    clear HO q hs1
    go_wp2_with (fail)
    clear HH2 c6 f6 k2 k3 k4 k5 j2 j3 j4 j5 c4 c5 c7 c8 c9
    generalize W2 = W4 at *
    have hdw : Below W4.heap.size W4 W4.drew := (Below.refl _ _).drew
    have H5 := HP.out.1.below hdw
    have m5 := HP.out.2.1.below hdw
    have HW : Hid (Calls _ _ _ _ _) := without_any n0 sv s1.sh m.f (HS.out.symm ▸ HU.out.1) (HS.out.symm ▸ HU.out.2) W4.drew H5.os
    have K5 : W4.drew.cell? ⟨mb, 2, none⟩ = some (.int .i64 m.f) := m5.cAt 2
    have r70 : W4.drew.cell? ⟨hb, 7, none⟩ = some sv := H5.c 7 (by decide)
    have r71 : W4.cell? ⟨hb, 7, none⟩ = some sv := HP.out.1.c 7 (by decide)
    have HK : Hid (_ ∧ _ ∧ _) := ⟨H5, m5, HP.out.2.2.trans (Hu.of_below hdw)⟩
    clear hdw H5 m5 HU
    go_region_with (first
        | (go_at_call 30; refine HW.out.mono ?_; rintro e w5 ⟨v5, rfl, ho, hg, hv⟩; obtain ⟨a5, cap5, hv5, hcap5⟩ := ho.len; generalize (W.wo s1.sh m.f).length = n5 at hv5 hcap5; subst hv5
           have B5 := HK.out.1.b.grown hg (fun e => HK.out.1.sn e.symm)
           have r7 := B5.c 7 (by decide)
           have f7 := B5.fz 7
           dsimp only [hoF] at r7
           have M5 : MsgAt mb m w5 := (hg.block mb HK.out.2.1.lt (fun e => HM.out.2.2.1 e.symm)).trans HK.out.2.1
           have K6 : w5.cell? ⟨mb, 2, none⟩ = some (.int .i64 m.f) := M5.cAt 2; have K7 : (w5.setCell ⟨hb, 7, none⟩ (.slice a5 n5 cap5)).cell? ⟨mb, 2, none⟩ = some (.int .i64 m.f) := (World.cell?_setCell_other _ _ _ _ (by simp [HM.out.2.1])).trans K6))
    all_goals
      have h6 := HK.out.1.setS hg ho (Or.inl hv)
      have u6 := HK.out.2.2.trans h6.2
      have m6 := HK.out.2.1.up h6.2 HM.out.2
      have HZ : Hid (_ ∧ _ ∧ _) := ⟨h6.1, u6, m6⟩
      clear h6 u6 m6 ho hg hv K5 K6 K7 M5 B5 r7 f7 r70 r71 HK HW
      generalize World.setCell w5 _ _ = W6 at *
      have c2 := HZ.out.2.2.cAt 2
      have e2 : (mgL m)[2]? = some (.int .i64 m.f) := rfl
      rw [e2] at c2
      have HN : Hid (Calls _ _ _ _ _) := msg_any (s := s1) (HZ.out.1.c 0 (by decide)) 9 m.f
      clear e2
      go_wp2_with (fail)
      refine HN.out.mono ?_
      rintro e w8 ⟨rfl, hb8⟩
      have bs := bsM_any (W.msg s1 9 m.f)
      have HR : Hid (_) := Res.one (HZ.out.1.below hb8) (HZ.out.2.1.trans (Hu.of_below hb8)) (W.msg s1 9 m.f)
      generalize W.msg s1 9 m.f = M at *
      clear hb8
      go_wp2_with (fail)
      go_ret
      rw [HQ.out]
      exact HR.out
end Go.Proofs.Ytadkpelcbnljbaa
