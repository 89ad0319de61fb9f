/- home: Take. -/
import Derived.Test.YtadkpelcbnljbaaHomO1
namespace Go.Proofs.Ytadkpelcbnljbaa
open Go.ChangeShapes Go.WideShapes Go.ChangeAt Go.RowKit
set_option linter.unusedVariables false
set_option linter.unusedSimpArgs false
attribute [local go_sem ↓] ldM_eq stM_eq bdM_eq bsM_eq
variable {n0 hb : Nat} {s s' : W.Hm} {sv av sv' av' sv'' av'' : Value} {w w' w'' : World}

theorem Res.from {rr : W.Hm × List W.Mg} {e : Ending} (hu : Hu hb sv av sv' av' w w') (h : Res n0 hb rr sv' av' w' e w'') : Res n0 hb rr sv av w e w'' := by
  obtain ⟨sl, sv1, av1, he, hm, hH, hu1, hap⟩ := h
  exact ⟨sl, sv1, av1, he, hm, hH, hu.trans hu1, fun b o e => ⟨Nat.le_trans hu.g.size (hap b o e).1, (hap b o e).2⟩⟩
theorem Res.nilR {s' : W.Hm} (hH : Ho n0 hb s' sv' av' w') (hu : Hu hb sv av sv' av' w w') : Res n0 hb (s', []) sv av w (.returned (.slice none 0 0)) w' :=
  ⟨⟨none, 0, 0⟩, sv', av', rfl, ms_nil _, hH, hu, fun b o e => by cases e⟩

set_option maxRecDepth 10000 in
set_option maxHeartbeats 1600000 in
theorem take_any (H : Ho n0 hb s sv av w) (HOK : W.Hok s) (m : W.Mg) (hr : -9223372036854775808 ≤ m.k ∧ m.k ≤ 9223372036854775807) : Calls Try.prog 15 #[.pointer (some ⟨hb, 0, none⟩), mgV m] w fun e w' => Res n0 hb (W.take s m) sv av w e w' := by
  have hba := below_alloc w (.cells (mgL m).toArray 35)
  have H1 := H.below hba
  have hm := msgAt_new w m
  have hpt := H.pt_new (Nat.le_refl w.heap.size)
  have hld := hm.ld
  have HT : Hid (Calls _ _ _ _ _) := takes_any H1 (Nat.le_trans HOK.lena (by decide)) m hr
  have HM : Hid (MsgAt w.heap.size m _ ∧ Hpt hb sv av w.heap.size ∧ Ho n0 hb s sv av _ ∧ Below w.heap.size w _) := ⟨hm, hpt, H1, hba⟩
  have HK : Hid (W.Hok s) := HOK
  clear H H1 hba hm hpt hr HOK
  have hV : mgV m = .agg (mgL m).toArray := rfl
  rw [hV]
  clear hV
  go_enter Try.func15, Try.ntmps15
  go_wp2_with (fail)
  refine HT.out.mono ?_
  rintro e w1 ⟨rfl, hb1⟩
  have HP : Hid (MsgAt w.heap.size m w1 ∧ Hpt hb sv av w.heap.size ∧ Ho n0 hb s sv av w1 ∧ Hu hb sv av sv av w w1) := ⟨HM.out.1.below hb1, HM.out.2.1, HM.out.2.2.1.below hb1, Hu.of_below (HM.out.2.2.2.trans (hb1.mono HM.out.2.2.2.size))⟩
  clear HT HM hld hb1
  have hld := HP.out.1.ld
  have c2 : w1.cell? ⟨w.heap.size, 2, none⟩ = some (.int .i64 m.f) := HP.out.1.cAt 2
  have c0 : w1.cell? ⟨w.heap.size, 0, none⟩ = some (.int .i64 m.k) := HP.out.1.cAt 0
  have HW0 : Hid (w.heap.size < w1.heap.size) := HP.out.1.lt
  have HP2 : Hid (MsgAt w.heap.size m w1 ∧ Hpt hb sv av w.heap.size ∧ Ho n0 hb s sv av w1 ∧ Hu hb sv av sv av w w1 ∧ w.heap.size ≤ w.heap.size) := ⟨HP.out.1, HP.out.2.1, HP.out.2.2.1, HP.out.2.2.2, Nat.le_refl _⟩
  clear HP
  have hl4 : s.sh.length ≤ 4 := HK.out.lens
  have hu4 := HK.out.us
  cases hk : W.tk s m
  · have HQ : Hid (W.take s m = (s, [])) := by
      show W.take s m = _
      unfold W.take
      rw [if_pos hk]
    clear hk c0 c2 hld
    go_wp2
    go_ret
    rw [HQ.out]
    exact Res.nilR HP2.out.2.2.1 HP2.out.2.2.2.1
  · have hT : W.take s m = (if m.k = 1 then W.gS s m.f else if m.k = 2 then W.gM s m.f else if m.k = 3 then W.pt s m else if m.k = 10 then W.ow { s with ac := W.wo s.ac m.f } else if m.k = 11 then (if s.b_ = 1 then W.sB { s with te := -1 } m else W.ow { s with te := -1, bk := m }) else ({ s with sv := -1 }, [])) := by
      conv => lhs; unfold W.take
      rw [if_neg (by rw [hk]; simp)]
    obtain ⟨hf0, hf1, _, _⟩ := W.tk_from hk
    have hkk : (m.k = 1 ∨ m.k = 2 ∨ m.k = 3 → s.sv = -1) ∧ (m.k = 1 ∨ m.k = 2 ∨ m.k = 3 ∨ m.k = 10 ∨ m.k = 11 ∨ m.k = 12) := by
      have hnot : ¬ (m.l ≠ s.ln ∨ m.t ≠ -1 ∨ m.f < 0 ∨ s.hs ≤ m.f) := fun h => by unfold W.tk at hk; rw [if_pos h] at hk; cases hk
      unfold W.tk at hk
      rw [if_neg hnot] at hk
      refine ⟨fun h => by rw [if_pos h] at hk; exact of_decide_eq_true hk, ?_⟩
      by_cases h1 : m.k = 1 ∨ m.k = 2 ∨ m.k = 3
      · omega
      · rw [if_neg h1] at hk
        by_cases h2 : m.k = 10
        · omega
        · rw [if_neg h2] at hk
          by_cases h3 : m.k = 11
          · omega
          · rw [if_neg h3] at hk
            by_cases h4 : m.k = 12
            · omega
            · rw [if_neg h4] at hk; cases hk
    have HF : Hid (0 ≤ m.f ∧ m.f < s.hs ∧ (m.k = 1 ∨ m.k = 2 ∨ m.k = 3 → s.sv = -1)) := ⟨hf0, hf1, hkk.1⟩
    have hkk := hkk.2
    clear hk hf0 hf1
    rcases hkk with e | e | e | e | e | e
    · have HQ : Hid (W.take s m = W.gS s m.f) := by rw [if_pos e] at hT; exact hT
      rw [e] at c0
      have HC : Hid (Calls _ _ _ _ _) := getS_any HP2.out.2.2.1 hu4 (by omega) m.f
      clear hT e
      go_wp2_with (fail)
      refine HC.out.mono ?_
      intro e w2 hres
      obtain ⟨sl, sv1, av1, rfl, hm1, hH1, hu1, hap1⟩ := hres
      have HR : Hid (Res n0 hb (W.gS s m.f) sv av w (.returned (slV sl)) w2) := Res.from HP2.out.2.2.2.1 ⟨sl, sv1, av1, rfl, hm1, hH1, hu1, hap1⟩
      clear hm1 hH1 hu1 hap1
      go_wp2
      go_ret
      rw [HQ.out]
      exact HR.out
    · have HQ : Hid (W.take s m = W.gM s m.f) := by rw [if_neg (by omega), if_pos e] at hT; exact hT
      rw [e] at c0
      have HC : Hid (Calls _ _ _ _ _) := getM_any HP2.out.2.2.1 HK.out (HF.out.2.2 (Or.inr (Or.inl e))) m.f HF.out.1 HF.out.2.1
      clear hT e
      go_wp2_with (fail)
      refine HC.out.mono ?_
      intro e w2 hres
      obtain ⟨sl, sv1, av1, rfl, hm1, hH1, hu1, hap1⟩ := hres
      have HR : Hid (Res n0 hb (W.gM s m.f) sv av w (.returned (slV sl)) w2) := Res.from HP2.out.2.2.2.1 ⟨sl, sv1, av1, rfl, hm1, hH1, hu1, hap1⟩
      clear hm1 hH1 hu1 hap1
      go_wp2
      go_ret
      rw [HQ.out]
      exact HR.out
    · have HQ : Hid (W.take s m = W.pt s m) := by rw [if_neg (by omega), if_neg (by omega), if_pos e] at hT; exact hT
      rw [e] at c0
      have HC : Hid (Calls _ _ _ _ _) := put_any HP2.out.2.2.1 hu4 (by omega) m
      clear hT e
      go_wp2_with (fail)
      refine HC.out.mono ?_
      intro e w2 hres
      obtain ⟨sl, sv1, av1, rfl, hm1, hH1, hu1, hap1⟩ := hres
      have HR : Hid (Res n0 hb (W.pt s m) sv av w (.returned (slV sl)) w2) := Res.from HP2.out.2.2.2.1 ⟨sl, sv1, av1, rfl, hm1, hH1, hu1, hap1⟩
      clear hm1 hH1 hu1 hap1
      go_wp2
      go_ret
      rw [HQ.out]
      exact HR.out
    · have HQ : Hid (W.take s m = W.ow { s with ac := W.wo s.ac m.f }) := by rw [if_neg (by omega), if_neg (by omega), if_neg (by omega), if_pos e] at hT; exact hT
      rw [e] at c0
      clear hT e
      generalize w.heap.size = mb at HP2 HW0 hld c2 c0 ⊢
      go_wp2_with (fail)
      have hdw : Below w1.heap.size w1 w1.drew := (Below.refl _ _).drew
      have H5 := HP2.out.2.2.1.below hdw
      have m5 := HP2.out.1.below hdw
      have HW : Hid (Calls _ _ _ _ _) := without_any n0 av s.ac m.f HK.out.ua (Nat.le_trans HK.out.lena (by decide)) w1.drew H5.oa
      have r0 : w1.drew.cell? ⟨hb, 10, none⟩ = some av := H5.c 10 (by decide)
      have r0' : w1.cell? ⟨hb, 10, none⟩ = some av := HP2.out.2.2.1.c 10 (by decide)
      have r2 : w1.drew.cell? ⟨mb, 2, none⟩ = some (.int .i64 m.f) := m5.cAt 2
      have HX : Hid (_ ∧ _) := ⟨H5, HP2.out.2.2.2.1.trans (Hu.of_below hdw)⟩
      clear hdw H5 m5 HP2
      go_region_with (first
        | (go_at_call 30; refine HW.out.mono ?_; rintro e w5 ⟨v5, rfl, ho, hg, hv⟩; obtain ⟨a5, cap5, hv5, hcap5⟩ := ho.len; generalize (W.wo s.ac m.f).length = n5 at hv5 hcap5; subst hv5
           have B5 := HX.out.1.b.grown hg (fun e => HX.out.1.an e.symm)
           have t0 := B5.c 10 (by decide)
           have f0 := B5.fz 10
           dsimp only [hoF] at t0))
      all_goals
        have h6 := HX.out.1.setA hg ho (Or.inl hv)
        have HY : Hid (_ ∧ _) := ⟨h6.1, HX.out.2.trans h6.2⟩
        clear h6 ho hg hv B5 t0 f0 r0 r0' r2 HX HW hld c2 c0
        generalize World.setCell w5 _ _ = W6 at *
        go_wp2_with (fail)
        refine (own_any HY.out.1).mono ?_
        intro e w2 hres
        obtain ⟨sl, sv1, av1, rfl, hm1, hH1, hu1, hap1⟩ := hres
        have HR : Hid (Res n0 hb (W.ow { s with ac := W.wo s.ac m.f }) sv av w (.returned (slV sl)) w2) := Res.from HY.out.2 ⟨sl, sv1, av1, rfl, hm1, hH1, hu1, hap1⟩
        clear hm1 hH1 hu1 hap1
        go_wp2
        go_ret
        rw [HQ.out]
        exact HR.out
    · rw [e] at c0
      rw [if_neg (by omega), if_neg (by omega), if_neg (by omega), if_neg (by omega), if_pos e] at hT
      have c11 := HP2.out.2.2.1.c 11 (by decide)
      have f11 := HP2.out.2.2.1.b.fz 11
      have c9 : w1.cell? ⟨hb, 9, none⟩ = some (.int .i64 s.b_) := HP2.out.2.2.1.c 9 (by decide)
      have h3 := HP2.out.2.2.1.put 11 (.int .i64 (-1)) { s with te := -1 } (upd_te s sv av (-1)) rfl rfl
      have m3 := HP2.out.1.up h3.2 HP2.out.2.1
      have HX : Hid (_ ∧ _ ∧ _ ∧ _) := ⟨h3.1, HP2.out.2.2.2.1.trans h3.2, m3, HP2.out.2.1⟩
      have hld3 := m3.ld
      clear e h3 m3 HP2
      by_cases hb1 : s.b_ = 1
      · have HQ : Hid (W.take s m = W.sB { s with te := -1 } m) := by rw [if_pos hb1] at hT; exact hT
        rw [hb1] at c9
        have HC : Hid (Calls _ _ _ _ _) := shareBack_any HX.out.1 HK.out.us (Nat.le_trans HK.out.lens (by decide)) m
        clear hT hb1
        go_wp2_with (fail)
        refine HC.out.mono ?_
        intro e w2 hres
        obtain ⟨sl, sv1, av1, rfl, hm1, hH1, hu1, hap1⟩ := hres
        have HR : Hid (Res n0 hb (W.sB { s with te := -1 } m) sv av w (.returned (slV sl)) w2) := Res.from HX.out.2.1 ⟨sl, sv1, av1, rfl, hm1, hH1, hu1, hap1⟩
        clear hm1 hH1 hu1 hap1
        go_wp2
        go_ret
        rw [HQ.out]
        exact HR.out
      · have HQ : Hid (W.take s m = W.ow { s with te := -1, bk := m }) := by rw [if_neg hb1] at hT; exact hT
        have nb : (s.b_ == 1) = false := by simpa using hb1
        have hst := HX.out.1.stB m
        have h4 := HX.out.1.setB m
        have HY : Hid (_ ∧ _) := ⟨h4.1, HX.out.2.1.trans h4.2⟩
        clear hT hb1 h4
        go_wp2_with (fail)
        refine (own_any HY.out.1).mono ?_
        intro e w2 hres
        obtain ⟨sl, sv1, av1, rfl, hm1, hH1, hu1, hap1⟩ := hres
        have HR : Hid (Res n0 hb (W.ow { s with te := -1, bk := m }) sv av w (.returned (slV sl)) w2) := Res.from HY.out.2 ⟨sl, sv1, av1, rfl, hm1, hH1, hu1, hap1⟩
        clear hm1 hH1 hu1 hap1
        go_wp2
        go_ret
        rw [HQ.out]
        exact HR.out
    · have HQ : Hid (W.take s m = ({ s with sv := -1 }, [])) := by rw [if_neg (by omega), if_neg (by omega), if_neg (by omega), if_neg (by omega), if_neg (by omega)] at hT; exact hT
      rw [e] at c0
      have c8 := HP2.out.2.2.1.c 8 (by decide)
      have f8 := HP2.out.2.2.1.b.fz 8
      have h3 := HP2.out.2.2.1.put 8 (.int .i64 (-1)) { s with sv := -1 } (upd_sv s sv av (-1)) rfl rfl
      have HX : Hid (_ ∧ _) := ⟨h3.1, HP2.out.2.2.2.1.trans h3.2⟩
      clear hT e h3 HP2
      go_wp2
      go_ret
      rw [HQ.out]
      exact Res.nilR HX.out.1 HX.out.2
end Go.Proofs.Ytadkpelcbnljbaa
