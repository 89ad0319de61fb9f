/- the document's cache: Use, Put. -/
import Derived.Test.YtlindkhmjkionaaDoorDacC
namespace Go.Proofs.YtlindkhmjkionaaDoor
open Go.ChangeShapes Go.WideShapes Go.ChangeAt Go.RowKit
set_option linter.unusedVariables false
set_option linter.unusedSimpArgs false
attribute [local go_sem ↓] ldE_eq stE_eq bdE_eq bsE_eq ldX_eq stX_eq bdX_eq bsX_eq mkX_eq
variable {n0 cb sb K : Nat} {ways : Int} {sv sv' sv'' : Nat → Value} {S S' : Nat → List W.En} {w w' w'' : World}
theorem rdrop_any (H : Dt n0 cb sb K ways sv S w) (hK : 0 < K) (hS : ∀ i, i < K → (S i).length ≤ 8) (x : Int) (hx : 0 ≤ x) :
    Calls Tryd.prog 16 #[.pointer (some ⟨cb, 0, none⟩), .int .i64 x] w fun e w' => e = .returned (.bool (W.has (S (W.ix K x)) x)) ∧ ∃ sv', Dt n0 cb sb K ways sv' (W.updS S (W.ix K x) (W.drp (S (W.ix K x)) x)) w' ∧ Du sb K sv sv' w w' := by
  cases hq : W.has (S (W.ix K x)) x
  · refine (rdrop_miss H hK (fun i h => Nat.le_trans (hS i h) (by omega)) x hx hq).mono fun e w' h => ⟨h.1, sv, ?_, Du.of_below (h.2 ▸ Below.refl _ _)⟩
    rw [W.drp_none hq, W.updS_self]
    exact h.2 ▸ H
  · exact rdrop_hit H hK hS x hx hq
theorem ruse_neg (x : Int) (hx : x < 0) (w : World) : Calls Tryd.prog 14 #[.pointer (some ⟨cb, 0, none⟩), .int .i64 x] w fun e w' => e = .returned (.bool false) ∧ w = w' := by
  go_enter Tryd.func14, Tryd.ntmps14
  go_wp2_with (fail)
  refine (rfind_neg x hx _).mono ?_
  rintro e w1 ⟨rfl, rfl⟩
  go_wp2
  go_ret
  exact ⟨rfl, rfl⟩

set_option maxRecDepth 10000 in
set_option maxHeartbeats 1600000 in
theorem ruse_any (H : Dt n0 cb sb K ways sv S w) (hK : 0 < K) (hS : ∀ i, i < K → (S i).length ≤ 8) (x : Int) (hx : 0 ≤ x) :
    Calls Tryd.prog 14 #[.pointer (some ⟨cb, 0, none⟩), .int .i64 x] w fun e w' => e = .returned (.bool (W.has (S (W.ix K x)) x)) ∧ ∃ sv', Dt n0 cb sb K ways sv' (W.updS S (W.ix K x) (W.use (S (W.ix K x)) x)) w' ∧ Du sb K sv sv' w w' := by
  have hi := W.ix_lt hK x
  have HF0 : Hid (Calls _ _ _ _ _) := rfind_any H hK (fun i h => Nat.le_trans (hS i h) (by omega)) x hx
  unfold W.use
  have HH : Hid (Dt n0 cb sb K ways sv S w) := H
  have HS8 : Hid (∀ i, i < K → (S i).length ≤ 8) := hS
  cases hq : W.has (S (W.ix K x)) x
  · have hu : W.updS S (W.ix K x) (bif false then W.lst (S (W.ix K x)) (W.gt (S (W.ix K x)) x) else S (W.ix K x)) = S := W.updS_self S _
    rw [hu]
    rw [W.pl_no (W.has_false hq)] at HF0
    clear H hS hq hu
    go_enter Tryd.func14, Tryd.ntmps14
    go_wp2_with (fail)
    refine HF0.out.mono ?_
    rintro e w1 ⟨rfl, rfl⟩
    go_wp2
    go_ret
    exact ⟨rfl, sv, HH.out, Du.of_below (Below.refl _ _)⟩
  · have hg := W.gt_line hq
    have hu : (bif true then W.lst (S (W.ix K x)) (W.gt (S (W.ix K x)) x) else S (W.ix K x)) = W.lst (S (W.ix K x)) (W.gt (S (W.ix K x)) x) := rfl
    rw [hu]
    obtain ⟨L1, e, L2, hs, hfx, h1⟩ := W.split _ x hq
    have hgf : W.gt (S (W.ix K x)) x = e := by unfold W.gt; rw [hs, ← hfx, W.fnd_mid L1 L2 e (by rw [hfx]; exact h1)]; rfl
    have hpl : W.pl (S (W.ix K x)) x = L1.length := by rw [hs, ← hfx]; exact W.pl_mid L1 L2 e (by rw [hfx]; exact h1)
    rw [hgf]
    rw [hpl] at HF0
    have hf : (S (W.ix K x))[L1.length]? = some e := by rw [hs, List.getElem?_append_right (Nat.le_refl _)]; simp
    have hlt := (List.getElem?_eq_some_iff.1 hf).1
    obtain ⟨g, a, cap, hv, hcap, ha, hrd⟩ := HH.out.rw_ hi
    obtain ⟨rfl, hgl⟩ := ha (by omega)
    have HR : Hid (w.rangeAt g (L1.length * 6) (enL e)) := hrd L1.length e hf
    have cs := HH.out.s.c _ hi
    rw [hv] at cs
    have c2 := HH.out.c2
    have l1 := ldX_at HR.out
    have hba := below_alloc w (.cells (enL e).toArray 42)
    have HD : Hid (Calls _ _ _ _ _) := rdrop_any (HH.out.below hba) hK hS x hx
    have hst := stX_new w e z6 rfl
    have HE0 : Hid (ExAt w.heap.size e (w.alloc (.cells (enL e).toArray 42))) := exAt_new w e
    have HW0 : Hid (Apt sb K sv w.heap.size) := HH.out.apt_new (Nat.le_refl _)
    have HBA : Hid (Below w.heap.size w (w.alloc (.cells (enL e).toArray 42))) := hba
    have hll := hS _ hi
    have hls : Hid (∀ l, W.lst l e = W.drp l x ++ [e]) := fun l => by unfold W.lst; rw [hfx]
    clear H hS hq hu hg hs h1 hgf hpl hf ha hrd hv hba
    generalize L1.length = i at *
    generalize (S (W.ix K x)).length = n at *
    generalize hgx : W.ix K x = ix at *
    have HGX : Hid (W.ix K x = ix) := hgx
    clear hgx
    have hin : (i : Int) < n := by omega
    have hix' : (ix : Int) < K := by omega
    go_enter Tryd.func14, Tryd.ntmps14
    go_wp2_with (fail)
    refine HF0.out.mono ?_
    rintro r w1 ⟨rfl, rfl⟩
    go_wp2_with (fail)
    generalize heb : w.heap.size = eb at *
    generalize World.alloc w _ = W0 at *
    refine HD.out.mono ?_
    rintro r w3 ⟨rfl, sv3, hC3, hU3⟩
    clear hst l1 c2 cs
    have heb0 : eb < W0.heap.size := HE0.out.lt
    have hE3 : ExAt eb e w3 := (hU3.other heb0 HW0.out).trans HE0.out
    have H3 : Hid (Dt n0 cb sb K ways sv3 (W.updS S ix (W.drp (S ix) x)) w3) := hC3
    have HU3 : Hid (Du sb K sv sv3 W0 w3) := hU3
    have ho3 := hC3.o ix hi
    rw [W.updS_same] at ho3
    have hN4 : (W.drp (S ix) x).length ≤ 4096 := Nat.le_trans (W.drp_len _ _) (Nat.le_trans (HS8.out ix hi) (by omega))
    have hs3 : n0 ≤ w3.heap.size := by have := hC3.n0s; have := hC3.s.lt; omega
    generalize hv3 : sv3 ix = v3 at *
    generalize hN : (W.drp (S ix) x).length = N at *
    generalize hxs : enX (W.drp (S ix) x) = XS at *
    have HV3 : Hid (sv3 ix = v3 ∧ (W.drp (S ix) x).length = N ∧ enX (W.drp (S ix) x) = XS) := ⟨hv3, hN, hxs⟩
    have HO3 : Hid (w3.ownsRow n0 42 6 v3 N XS ∧ n0 ≤ w3.heap.size) := ⟨ho3, hs3⟩
    have HSB3 : Hid (∀ w', Below w3.heap.size w3 w' → (w'.cell? ⟨cb, 2, none⟩ = some (.slice (some ⟨sb, 0, none⟩) K K) ∧ w'.cell? ⟨sb, ix, none⟩ = some v3 ∧ (ldX ⟨eb, 0, none⟩).run Tryd.prog w' = .ok (enV e) w') ∧ w'.frozen? ⟨sb, ix, none⟩ = false) := fun w' hb => by
      have hD := H3.out.below hb
      have h1 := hD.s.c _ hi
      rw [HV3.out.1] at h1
      exact ⟨⟨hD.c2, h1, (hE3.below hb).ld⟩, hD.s.fz _⟩
    have hneb : ∀ r, r = v3.ownBlock → some eb ≠ r := fun r hr e' => by
      have := (hU3.apt heb0 HW0.out).2 ix hi
      rw [HV3.out.1, ← hr, ← e'] at this
      exact this rfl
    have HG3 : Hid (∀ w6, w3.grownBy w6 v3.ownBlock → (w6.cell? ⟨cb, 2, none⟩ = some (.slice (some ⟨sb, 0, none⟩) K K) ∧ w6.cell? ⟨sb, ix, none⟩ = some v3 ∧ (ldX ⟨eb, 0, none⟩).run Tryd.prog w6 = .ok (enV e) w6) ∧ w6.frozen? ⟨sb, ix, none⟩ = false) := fun w6 hg => by
      have b6 := H3.out.b.grown hg (fun e => H3.out.nc _ hi (by rw [HV3.out.1]; exact e.symm))
      have s6 := H3.out.s.grown hg (fun e => H3.out.ns _ hi (by rw [HV3.out.1]; exact e.symm))
      have h1 := s6.c _ hi
      rw [HV3.out.1] at h1
      have hE6 : ExAt eb e w6 := (hg.block eb hE3.lt (hneb _ rfl)).trans hE3
      exact ⟨⟨b6.c 2 (by decide), h1, hE6.ld⟩, s6.fz _⟩
    clear hv3 hN hxs ho3 hs3 hC3 hU3 hE3 hneb
    go_wp2_with (fail)
    obtain ⟨ti, hti, hzz⟩ := Option.map_eq_some_iff.1 infoX
    simp only [Prod.mk.injEq] at hzz
    obtain ⟨hz0, hz1, hz2⟩ := hzz
    have hbs := fun w => bsX_any e w
    refine wp_region_noPanic ?_
    refine wp_region_last (fun w' => w'.cell? ⟨cb, 2, none⟩ = some (.slice (some ⟨sb, 0, none⟩) K K) ∧ w'.cell? ⟨sb, ix, none⟩ = some v3 ∧ (ldX ⟨eb, 0, none⟩).run Tryd.prog w' = .ok (enV e) w') 16 _ (by kernel_rfl) rfl rfl (by kernel_rfl) (HSB3.out _ (Below.refl _ _).drew).1 (fun hHeld => ?_)
    refine wpAnyH_take (i := 0) (oi := _) (v := ?_) rfl (by kernel_rfl) (by kernel_rfl) (by kernel_rfl) (fun _ _ _ h => h) (Or.inl ⟨by rfl, ?_⟩) (by assumption) ?_
    rotate_left
    · intro w hSw
      (try dsimp only at hSw)
      obtain ⟨hS1, hS2, hS3⟩ := hSw
      go_simp
      (try with_reducible rfl)
    (try simp only [Act.put, List.setIfInBounds_toArray, List.set_cons_zero, List.set_cons_succ, List.getElem_toArray, List.getElem_cons_zero, List.getElem_cons_succ])
    refine wpAnyH_take (i := 1) (oi := _) (v := ?_) rfl (by kernel_rfl) (by kernel_rfl) (by kernel_rfl) (fun _ _ _ h => h) (Or.inl ⟨by rfl, ?_⟩) (by assumption) ?_
    rotate_left
    · intro w hSw
      (try dsimp only at hSw)
      obtain ⟨hS1, hS2, hS3⟩ := hSw
      go_simp
      (try with_reducible rfl)
    (try simp only [Act.put, List.setIfInBounds_toArray, List.set_cons_zero, List.set_cons_succ, List.getElem_toArray, List.getElem_cons_zero, List.getElem_cons_succ])
    refine wpAnyH_take (i := 2) (oi := _) (v := ?_) rfl (by kernel_rfl) (by kernel_rfl) (by kernel_rfl) (fun _ _ _ h => h) (Or.inl ⟨by rfl, ?_⟩) (by assumption) ?_
    rotate_left
    · intro w hSw
      (try dsimp only at hSw)
      obtain ⟨hS1, hS2, hS3⟩ := hSw
      go_simp
      (try with_reducible rfl)
    (try simp only [Act.put, List.setIfInBounds_toArray, List.set_cons_zero, List.set_cons_succ, List.getElem_toArray, List.getElem_cons_zero, List.getElem_cons_succ])
    refine wpAnyH_take (i := 3) (oi := _) (v := ?_) rfl (by kernel_rfl) (by kernel_rfl) (by kernel_rfl) (fun _ _ _ h => h) (Or.inl ⟨by rfl, ?_⟩) (by assumption) ?_
    rotate_left
    · intro w hSw
      (try dsimp only at hSw)
      obtain ⟨hS1, hS2, hS3⟩ := hSw
      go_simp
      (try with_reducible rfl)
    (try simp only [Act.put, List.setIfInBounds_toArray, List.set_cons_zero, List.set_cons_succ, List.getElem_toArray, List.getElem_cons_zero, List.getElem_cons_succ])
    refine wpAnyH_take (i := 4) (oi := _) (v := ?_) rfl (by kernel_rfl) (by kernel_rfl) (by kernel_rfl) (fun _ _ _ h => h) (Or.inl ⟨by rfl, ?_⟩) (by assumption) ?_
    rotate_left
    · intro w hSw
      (try dsimp only at hSw)
      obtain ⟨hS1, hS2, hS3⟩ := hSw
      go_simp
      (try with_reducible rfl)
    (try simp only [Act.put, List.setIfInBounds_toArray, List.set_cons_zero, List.set_cons_succ, List.getElem_toArray, List.getElem_cons_zero, List.getElem_cons_succ])
    refine wpAnyH_take (i := 5) (oi := _) (v := ?_) rfl (by kernel_rfl) (by kernel_rfl) (by kernel_rfl) (fun _ _ _ h => h) (Or.inl ⟨by rfl, ?_⟩) (by assumption) ?_
    rotate_left
    · intro w hSw
      (try dsimp only at hSw)
      obtain ⟨hS1, hS2, hS3⟩ := hSw
      go_simp
      (try with_reducible rfl)
    (try simp only [Act.put, List.setIfInBounds_toArray, List.set_cons_zero, List.set_cons_succ, List.getElem_toArray, List.getElem_cons_zero, List.getElem_cons_succ])
    refine wpAnyH_take (i := 6) (oi := _) (v := ?_) rfl (by kernel_rfl) (by kernel_rfl) (by kernel_rfl) (fun _ _ _ h => h) (Or.inl ⟨by rfl, ?_⟩) (by assumption) ?_
    rotate_left
    · intro w hSw
      (try dsimp only at hSw)
      obtain ⟨hS1, hS2, hS3⟩ := hSw
      go_simp
      (try with_reducible rfl)
    (try simp only [Act.put, List.setIfInBounds_toArray, List.set_cons_zero, List.set_cons_succ, List.getElem_toArray, List.getElem_cons_zero, List.getElem_cons_succ])
    refine wpAnyH_take (i := 7) (oi := _) (v := ?_) rfl (by kernel_rfl) (by kernel_rfl) (by kernel_rfl) (fun _ _ _ h => h) (Or.inl ⟨by rfl, ?_⟩) (by assumption) ?_
    rotate_left
    · intro w hSw
      (try dsimp only at hSw)
      obtain ⟨hS1, hS2, hS3⟩ := hSw
      go_simp
      (try with_reducible rfl)
    (try simp only [Act.put, List.setIfInBounds_toArray, List.set_cons_zero, List.set_cons_succ, List.getElem_toArray, List.getElem_cons_zero, List.getElem_cons_succ])
    refine wpAnyH_take (i := 8) (oi := _) (v := ?_) rfl (by kernel_rfl) (by kernel_rfl) (by kernel_rfl) (fun _ _ _ h => h) (Or.inl ⟨by rfl, ?_⟩) (by assumption) ?_
    rotate_left
    · intro w hSw
      (try dsimp only at hSw)
      obtain ⟨hS1, hS2, hS3⟩ := hSw
      go_simp
      (try with_reducible rfl)
    (try simp only [Act.put, List.setIfInBounds_toArray, List.set_cons_zero, List.set_cons_succ, List.getElem_toArray, List.getElem_cons_zero, List.getElem_cons_succ])
    refine wpAnyH_take (i := 9) (oi := _) (v := ?_) rfl (by kernel_rfl) (by kernel_rfl) (by kernel_rfl) (fun _ _ _ h => h) (Or.inl ⟨by rfl, ?_⟩) (by assumption) ?_
    rotate_left
    · intro w hSw
      (try dsimp only at hSw)
      obtain ⟨hS1, hS2, hS3⟩ := hSw
      go_simp
      (try with_reducible rfl)
    (try simp only [Act.put, List.setIfInBounds_toArray, List.set_cons_zero, List.set_cons_succ, List.getElem_toArray, List.getElem_cons_zero, List.getElem_cons_succ])
    refine wpAnyH_take (i := 10) (oi := _) (v := ?_) rfl (by kernel_rfl) (by kernel_rfl) (by kernel_rfl) (fun _ _ _ h => h) (Or.inl ⟨by rfl, ?_⟩) (by assumption) ?_
    rotate_left
    · intro w hSw
      (try dsimp only at hSw)
      obtain ⟨hS1, hS2, hS3⟩ := hSw
      go_simp
      (try with_reducible rfl)
    (try simp only [Act.put, List.setIfInBounds_toArray, List.set_cons_zero, List.set_cons_succ, List.getElem_toArray, List.getElem_cons_zero, List.getElem_cons_succ])
    refine wpAnyH_take (i := 11) (oi := _) (v := ?_) rfl (by kernel_rfl) (by kernel_rfl) (by kernel_rfl) (fun _ _ _ h => h) (Or.inl ⟨by rfl, ?_⟩) (by assumption) ?_
    rotate_left
    · intro w hSw
      (try dsimp only at hSw)
      obtain ⟨hS1, hS2, hS3⟩ := hSw
      go_simp
      (try with_reducible rfl)
    (try simp only [Act.put, List.setIfInBounds_toArray, List.set_cons_zero, List.set_cons_succ, List.getElem_toArray, List.getElem_cons_zero, List.getElem_cons_succ])
    refine wpAnyH_take (i := 12) (oi := _) (v := ?_) rfl (by kernel_rfl) (by kernel_rfl) (by kernel_rfl) (fun _ _ _ h => h) (Or.inl ⟨by rfl, ?_⟩) (by assumption) ?_
    rotate_left
    · intro w hSw
      (try dsimp only at hSw)
      obtain ⟨hS1, hS2, hS3⟩ := hSw
      go_simp
      (try with_reducible rfl)
    (try simp only [Act.put, List.setIfInBounds_toArray, List.set_cons_zero, List.set_cons_succ, List.getElem_toArray, List.getElem_cons_zero, List.getElem_cons_succ])
    refine wpAnyH_ready (rs := [13]) (by kernel_rfl) (by simp) ?_
    refine AllReadyH.cons (o := _) rfl (fun K' hK' => ?_) AllReadyH.nil
    go_simp
    refine hK'.out _ _ (HSB3.out _ ((Below.refl _ _).drew.alloc (Nat.le_refl _) _)).1 (fun hHeld => ?_)
    clear hK' K'
    (try simp only [Act.put, List.setIfInBounds_toArray, List.set_cons_zero, List.set_cons_succ, List.getElem_toArray, List.getElem_cons_zero, List.getElem_cons_succ])
    refine wpAnyH_ready (rs := [14]) (by kernel_rfl) (by simp) ?_
    refine AllReadyH.cons (o := _) rfl (fun K' hK' => ?_) AllReadyH.nil
    refine step_lies _ 43 40 42 _ n0 42 ti (.agg zEn) 6 32 Tryd.underlying52 hti hz0 hz1 hz2 rfl (by decide) v3 N XS ?a1 ?a3 ⟨w3.heap.size, 0, none⟩ 1 1 (enL e) ?a2 rfl ?a4 ?a5 (by decide) ?a6 ?a7 ?a8 ?_
    case a1 => rfl
    case a2 => rfl
    case a3 => exact own_below HO3.out.1 ((Below.refl _ _).drew.alloc (Nat.le_refl _) _)
    case a4 => exact World.news_of_block (cs := (enL e).toArray) (heap_alloc_last w3.drew _)
    case a5 => exact oneE _
    case a6 => unfold maxLen; omega
    case a7 => omega
    case a8 => (have := HO3.out.2; simp; omega)
    intro g cap w6 hown6 hg6 hat6 hlt6
    have g6 := gtrans (gtrans (gdrew w3 v3.ownBlock) (galloc w3.drew (.cells (enL e).toArray 42) _)) hg6
    have k6 := HG3.out w6 g6
    refine hK'.out _ _ k6.1 (fun hHeld => ?_)
    clear hK' K'
    (try simp only [Act.put, List.setIfInBounds_toArray, List.set_cons_zero, List.set_cons_succ, List.getElem_toArray, List.getElem_cons_zero, List.getElem_cons_succ])
    refine wpAnyH_take (i := 15) (oi := _) (v := ?_) rfl (by kernel_rfl) (by kernel_rfl) (by kernel_rfl) (fun _ _ _ h => h) (Or.inl ⟨by rfl, ?_⟩) (by assumption) ?_
    rotate_left
    · intro w hSw
      (try dsimp only at hSw)
      obtain ⟨hS1, hS2, hS3⟩ := hSw
      go_simp
      (try with_reducible rfl)
    (try simp only [Act.put, List.setIfInBounds_toArray, List.set_cons_zero, List.set_cons_succ, List.getElem_toArray, List.getElem_cons_zero, List.getElem_cons_succ])
    refine wpAnyH_done (by kernel_rfl) ?_ _
    have f10 := k6.2
    have s10 := k6.1.2.1
    refine lastQ_normal (o := _) rfl (fun K' hK' => ?_)
    go_simp
    refine hK'.out _ _ ?_
    clear hK' K'
    (try simp only [Act.put, List.setIfInBounds_toArray, List.set_cons_zero, List.set_cons_succ, List.getElem_toArray, List.getElem_cons_zero, List.getElem_cons_succ])
    refine NoPanic.normal ?_
    have hT := H3.out.turn hi (v := .slice (some ⟨g, 0, none⟩) (N + 1) cap) (l := W.drp (S ix) x ++ [e]) (w' := w6) (by rw [HV3.out.1]; exact g6) (by rw [List.length_append, enX_app, HV3.out.2.1, HV3.out.2.2]; exact hown6) (by
      rw [HV3.out.1]
      rcases hat6 with h | h
      · exact Or.inl h.symm
      · refine Or.inr fun g' hg' => ?_
        have : g = g' := by simpa [Value.ownBlock] using hg'
        rw [← this, h]
        first | (simp; done) | (simp; omega))
    rw [W.updS_twice] at hT
    have HTT : Hid (_) := hT
    clear hT hown6 hg6 g6 k6 f10 s10 hat6
    go_wp2
    go_ret
    have hfin := HTT.out
    rw [hls.out]
    exact ⟨rfl, _, hfin.1, (Du.of_below (w := w) (w' := W0) (by rw [heb]; exact HBA.out)).trans (HU3.out.trans hfin.2)⟩
end Go.Proofs.YtlindkhmjkionaaDoor
