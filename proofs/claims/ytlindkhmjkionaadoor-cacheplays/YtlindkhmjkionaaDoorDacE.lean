/- the document's cache: Put. -/
import Derived.Test.YtlindkhmjkionaaDoorDacD
namespace Go.Proofs.YtlindkhmjkionaaDoor
open Go.ChangeShapes Go.WideShapes Go.ChangeAt Go.RowKit
set_option linter.unusedVariables false
set_option linter.unusedSimpArgs false
attribute [local go_sem ↓] ldE_eq stE_eq bdE_eq bsE_eq ldX_eq stX_eq bdX_eq bsX_eq mkX_eq
variable {n0 cb sb K : Nat} {ways : Int} {sv sv' sv'' : Nat → Value} {S S' : Nat → List W.En} {w w' w'' : World}
theorem has_room (K : Nat) (ways : Int) (S : Nat → List W.En) (x : Int) (hx : 0 ≤ x) : W.room K ways S x = (decide (((S (W.ix K x)).length : Int) < ways) || W.has (S (W.ix K x)) x) := by
  unfold W.room
  rw [if_neg (by omega)]

set_option maxRecDepth 10000 in
set_option maxHeartbeats 1600000 in
theorem rput_err (H : Dt n0 cb sb K ways sv S w) (hK : 0 < K) (hS : ∀ i, i < K → (S i).length ≤ 8) (e : W.En) (k : Nat) (hk : W.pt K ways S e = k) (hk0 : k ≠ 0) :
    Calls Tryd.prog 11 #[.pointer (some ⟨cb, 0, none⟩), enV e] w fun r w' => r = .returned (.int .i64 (num k)) ∧ Below w.heap.size w w' := by
  have hba := below_alloc w (.cells (enL e).toArray 42)
  have HH : Hid (Dt n0 cb sb K ways sv S (w.alloc (.cells (enL e).toArray 42))) := H.below hba
  have HB : Hid (Below w.heap.size w (w.alloc (.cells (enL e).toArray 42))) := hba
  clear H hba
  unfold W.pt at hk
  by_cases h1 : e.l < 0
  · rw [if_pos h1] at hk
    subst hk
    clear HH
    unfold enV enL num
    unfold enL at HB
    go_enter Tryd.func11, Tryd.ntmps11
    go_wp2
    go_ret
    exact ⟨rfl, HB.out⟩
  · rw [if_neg h1] at hk
    by_cases h2 : e.s < 1 ∨ 4 < e.s
    · rw [if_pos h2] at hk
      subst hk
      clear HH
      unfold enV enL num
      unfold enL at HB
      have h2' : e.s < 1 ∨ ¬ e.s < 1 ∧ 4 < e.s := by omega
      clear h2
      rcases h2' with h2 | ⟨h2, h3⟩
      all_goals
        go_enter Tryd.func11, Tryd.ntmps11
        go_wp2
        go_ret
        exact ⟨rfl, HB.out⟩
    · rw [if_neg h2] at hk
      cases hq : W.room K ways S e.l
      · rw [hq, if_pos rfl] at hk
        subst hk
        rw [has_room K ways S e.l (by omega), Bool.or_eq_false_iff] at hq
        obtain ⟨hq1, hq2⟩ := hq
        have hi := W.ix_lt hK e.l
        have HF : Hid (Calls _ _ _ _ _) := rfind_any HH.out hK (fun i h => Nat.le_trans (hS i h) (by omega)) e.l (by omega)
        rw [W.pl_no (W.has_false hq2)] at HF
        have hlw : ¬ ((S (W.ix K e.l)).length : Int) < ways := of_decide_eq_false hq1
        have h2a : ¬ e.s < 1 := by omega
        have h2b : ¬ 4 < e.s := by omega
        obtain ⟨g, a, cap, hv, hcap, _, _⟩ := HH.out.rw_ hi
        have c1 := HH.out.c1
        have c2 := HH.out.c2
        have cs := HH.out.s.c _ hi
        rw [hv] at cs
        have hll := hS _ hi
        have hge : decide (ways ≤ ((S (W.ix K e.l)).length : Int)) = true := decide_eq_true (by omega)
        clear HH hq1 hq2 h2 hv hS
        generalize (S (W.ix K e.l)).length = n at *
        generalize W.ix K e.l = ix at *
        have hix' : (ix : Int) < K := by omega
        have hwn : ways ≤ (n : Int) := by omega
        unfold enV enL num
        unfold enL at HB HF c1 c2 cs
        go_enter Tryd.func11, Tryd.ntmps11
        go_wp2_with (fail)
        refine HF.out.mono ?_
        rintro r w1 ⟨rfl, rfl⟩
        go_wp2_with (fail)
        go_quiet (fail)
        go_wp2
        go_ret
        exact ⟨rfl, below_drewN HB.out _⟩
      · rw [hq, if_neg (by simp)] at hk
        exact absurd hk.symm hk0

set_option maxRecDepth 10000 in
set_option maxHeartbeats 1600000 in
theorem rput_ok (H : Dt n0 cb sb K ways sv S w) (hK : 0 < K) (hS : ∀ i, i < K → (S i).length ≤ 8) (e : W.En) (hk : W.pt K ways S e = 0) :
    Calls Tryd.prog 11 #[.pointer (some ⟨cb, 0, none⟩), enV e] w fun r w' => r = .returned (.int .i64 0) ∧ ∃ sv', Dt n0 cb sb K ways sv' (W.updS S (W.ix K e.l) (W.lst (S (W.ix K e.l)) e)) w' ∧ Du sb K sv sv' w w' := by
  have hpt := hk
  unfold W.pt at hk
  have h1 : ¬ e.l < 0 := fun h => by rw [if_pos h] at hk; exact absurd hk (by decide)
  rw [if_neg h1] at hk
  have h2 : ¬ (e.s < 1 ∨ 4 < e.s) := fun h => by rw [if_pos h] at hk; exact absurd hk (by decide)
  rw [if_neg h2] at hk
  have hq : W.room K ways S e.l = true := by
    cases h : W.room K ways S e.l with
    | true => rfl
    | false => rw [h, if_pos rfl] at hk; exact absurd hk (by decide)
  rw [has_room K ways S e.l (by omega), Bool.or_eq_true] at hq
  have hi := W.ix_lt hK e.l
  have hba := below_alloc w (.cells (enL e).toArray 42)
  have HBA : Hid (Below w.heap.size w (w.alloc (.cells (enL e).toArray 42))) := hba
  have HH : Hid (Dt n0 cb sb K ways sv S (w.alloc (.cells (enL e).toArray 42))) := H.below hba
  have HE0 : Hid (ExAt w.heap.size e (w.alloc (.cells (enL e).toArray 42))) := exAt_new w e
  have HW0 : Hid (Apt sb K sv w.heap.size) := H.apt_new (Nat.le_refl _)
  have HS8 : Hid (∀ i, i < K → (S i).length ≤ 8) := hS
  have h2a : ¬ e.s < 1 := by omega
  have h2b : ¬ 4 < e.s := by omega
  have hx0 : 0 ≤ e.l := by omega
  have hF := rfind_any HH.out hK (fun i h => Nat.le_trans (hS i h) (by omega)) e.l (by omega)
  have hD : ∀ w', Below (w.alloc (.cells (enL e).toArray 42)).heap.size (w.alloc (.cells (enL e).toArray 42)) w' → Calls Tryd.prog 16 #[.pointer (some ⟨cb, 0, none⟩), .int .i64 e.l] w' _ := fun w' hb => rdrop_any (HH.out.below hb) hK hS e.l hx0
  have HD : Hid (_) := hD
  obtain ⟨pl, hpl⟩ : ∃ pl, W.pl (S (W.ix K e.l)) e.l = pl := ⟨_, rfl⟩
  rw [hpl] at hF
  have hway : 0 ≤ pl ∨ (pl < 0 ∧ ((S (W.ix K e.l)).length : Int) < ways) := by
    rcases hq with h | h
    · by_cases h0 : 0 ≤ pl
      · exact Or.inl h0
      · exact Or.inr ⟨by omega, of_decide_eq_true h⟩
    · obtain ⟨L1, f, L2, hs, hfx, h3⟩ := W.split _ _ h
      have : W.pl (S (W.ix K e.l)) e.l = L1.length := by rw [hs, ← hfx]; exact W.pl_mid L1 L2 f (by rw [hfx]; exact h3)
      rw [hpl] at this
      exact Or.inl (by omega)
  have hpb : -1 ≤ pl ∧ pl ≤ 9223372036854775807 := by
    rw [← hpl]
    unfold W.pl
    split
    · rename_i k hk'
      have := List.findIdx?_eq_some_iff_getElem.1 hk'
      obtain ⟨h, _⟩ := this
      have := hS _ hi
      omega
    · omega
  have HF0 : Hid (Calls _ _ _ _ _) := hF
  obtain ⟨g, a, cap, hv, hcap, _, _⟩ := HH.out.rw_ hi
  have c1 := HH.out.c1
  have c2 := HH.out.c2
  have cs := HH.out.s.c _ hi
  rw [hv] at cs
  have hll := hS _ hi
  have c0 := HE0.out.cAt 0 (by decide)
  have c1' := HE0.out.cAt 1 (by decide)
  have e0 : (enL e)[0]? = some (.int .i64 e.l) := rfl
  have e1 : (enL e)[1]? = some (.int .i64 e.s) := rfl
  rw [e0] at c0
  rw [e1] at c1'
  have hse : Hid (enV e = .agg (enL e).toArray) := rfl
  have hls : Hid (∀ l, W.lst l e = W.drp l e.l ++ [e]) := fun l => rfl
  have hWa : Hid (Below (w.alloc (.cells (enL e).toArray 42)).heap.size (w.alloc (.cells (enL e).toArray 42)) (w.alloc (.cells (enL e).toArray 42))) := Below.refl _ _
  clear H hS hq hk hpt h2 hba hF hD hv e0 e1 hpl
  generalize hxx : e.l = x at *
  generalize hst : e.s = st at *
  generalize (S (W.ix K x)).length = n at *
  generalize hgx : W.ix K x = ix at *
  have HGX : Hid (W.ix K x = ix ∧ e.l = x) := ⟨hgx, hxx⟩
  clear hgx hxx hst
  have hix' : (ix : Int) < K := by omega
  have el0 : (enL e).toArray[0]? = some (.int .i64 x) := by simp [enL, HGX.out.2]
  unfold enV
  generalize hEL : (enL e).toArray = EL at *
  have HEL : Hid ((enL e).toArray = EL) := hEL
  clear hEL
  rcases hway with hw0 | ⟨hw0, hw1⟩
  · go_enter Tryd.func11, Tryd.ntmps11
    go_wp2_with (fail)
    generalize heb : w.heap.size = eb at *
    generalize World.alloc w _ = W0 at *
    refine HF0.out.mono ?_
    rintro r w1 ⟨rfl, rfl⟩
    have hnl : ¬ pl < 0 := by omega
    have hnd : decide (pl < 0) = false := decide_eq_false hnl
    go_wp2_with (fail)
    go_quiet (fail)
    go_wp2_with (fail)
    have hB01 : Below W0.heap.size W0 (W0.drewN nq) := below_drewN (Below.refl _ _) _
    have HE1 : Hid (ExAt eb e (W0.drewN nq)) := HE0.out.below hB01
    have HU1 : Hid (Below W0.heap.size W0 (W0.drewN nq)) := hB01
    have hld0 := c0
    have hDr := HD.out _ hB01
    have c0n : (W0.drewN nq).cell? ⟨eb, 0, none⟩ = some (.int .i64 x) := c0
    clear c0 c1 c2 cs c1' hld0 hB01 HF0
    generalize World.drewN W0 nq = W1 at *
    refine hDr.mono ?_
    rintro r w3 ⟨rfl, sv3, hC3, hU3⟩
    clear hDr
    have heb0 : eb < W1.heap.size := HE1.out.lt
    have hE3 : ExAt eb e w3 := (hU3.other heb0 HW0.out).trans HE1.out
    have H3 : Hid (Dt n0 cb sb K ways sv3 (W.updS S ix (W.drp (S ix) x)) w3) := hC3
    have HU3 : Hid (Du sb K sv sv3 W1 w3) := hU3
    have ho3 := hC3.o ix hi
    rw [W.updS_same] at ho3
    have hN4 : (W.drp (S ix) x).length ≤ 4096 := Nat.le_trans (W.drp_len _ _) (Nat.le_trans (HS8.out ix hi) (by omega))
    have hs3 : n0 ≤ w3.heap.size := by have := hC3.n0s; have := hC3.s.lt; omega
    generalize hv3 : sv3 ix = v3 at *
    generalize hN : (W.drp (S ix) x).length = N at *
    generalize hxs : enX (W.drp (S ix) x) = XS at *
    have HV3 : Hid (sv3 ix = v3 ∧ (W.drp (S ix) x).length = N ∧ enX (W.drp (S ix) x) = XS) := ⟨hv3, hN, hxs⟩
    have HO3 : Hid (w3.ownsRow n0 42 6 v3 N XS ∧ n0 ≤ w3.heap.size) := ⟨ho3, hs3⟩
    have HSB3 : Hid (∀ w', Below w3.heap.size w3 w' → (w'.cell? ⟨cb, 2, none⟩ = some (.slice (some ⟨sb, 0, none⟩) K K) ∧ w'.cell? ⟨sb, ix, none⟩ = some v3 ∧ (ldX ⟨eb, 0, none⟩).run Tryd.prog w' = .ok (enV e) w') ∧ w'.frozen? ⟨sb, ix, none⟩ = false) := fun w' hb => by
      have hD := H3.out.below hb
      have h1 := hD.s.c _ hi
      rw [HV3.out.1] at h1
      exact ⟨⟨hD.c2, h1, (hE3.below hb).ld⟩, hD.s.fz _⟩
    have hneb : ∀ r, r = v3.ownBlock → some eb ≠ r := fun r hr e' => by
      have := (hU3.apt heb0 HW0.out).2 ix hi
      rw [HV3.out.1, ← hr, ← e'] at this
      exact this rfl
    have HG3 : Hid (∀ w6, w3.grownBy w6 v3.ownBlock → (w6.cell? ⟨cb, 2, none⟩ = some (.slice (some ⟨sb, 0, none⟩) K K) ∧ w6.cell? ⟨sb, ix, none⟩ = some v3 ∧ (ldX ⟨eb, 0, none⟩).run Tryd.prog w6 = .ok (enV e) w6) ∧ w6.frozen? ⟨sb, ix, none⟩ = false) := fun w6 hg => by
      have b6 := H3.out.b.grown hg (fun e => H3.out.nc _ hi (by rw [HV3.out.1]; exact e.symm))
      have s6 := H3.out.s.grown hg (fun e => H3.out.ns _ hi (by rw [HV3.out.1]; exact e.symm))
      have h1 := s6.c _ hi
      rw [HV3.out.1] at h1
      have hE6 : ExAt eb e w6 := (hg.block eb hE3.lt (hneb _ rfl)).trans hE3
      exact ⟨⟨b6.c 2 (by decide), h1, hE6.ld⟩, s6.fz _⟩
    clear hv3 hN hxs ho3 hs3 hC3 hU3 hE3 hneb
    go_wp2_with (fail)
    obtain ⟨ti, hti, hzz⟩ := Option.map_eq_some_iff.1 infoX
    simp only [Prod.mk.injEq] at hzz
    obtain ⟨hz0, hz1, hz2⟩ := hzz
    have hbs := fun w => bsX_any e w
    refine wp_region_noPanic ?_
    refine wp_region_last (fun w' => w'.cell? ⟨cb, 2, none⟩ = some (.slice (some ⟨sb, 0, none⟩) K K) ∧ w'.cell? ⟨sb, ix, none⟩ = some v3 ∧ (ldX ⟨eb, 0, none⟩).run Tryd.prog w' = .ok (enV e) w') 16 _ (by kernel_rfl) rfl rfl (by kernel_rfl) (HSB3.out _ (Below.refl _ _).drew).1 (fun hHeld => ?_)
    refine wpAnyH_take (i := 0) (oi := _) (v := ?_) rfl (by kernel_rfl) (by kernel_rfl) (by kernel_rfl) (fun _ _ _ h => h) (Or.inl ⟨by rfl, ?_⟩) (by assumption) ?_
    rotate_left
    · intro w hSw
      (try dsimp only at hSw)
      obtain ⟨hS1, hS2, hS3⟩ := hSw
      go_simp
      (try with_reducible rfl)
    (try simp only [Act.put, List.setIfInBounds_toArray, List.set_cons_zero, List.set_cons_succ, List.getElem_toArray, List.getElem_cons_zero, List.getElem_cons_succ])
    refine wpAnyH_take (i := 1) (oi := _) (v := ?_) rfl (by kernel_rfl) (by kernel_rfl) (by kernel_rfl) (fun _ _ _ h => h) (Or.inl ⟨by rfl, ?_⟩) (by assumption) ?_
    rotate_left
    · intro w hSw
      (try dsimp only at hSw)
      obtain ⟨hS1, hS2, hS3⟩ := hSw
      go_simp
      (try with_reducible rfl)
    (try simp only [Act.put, List.setIfInBounds_toArray, List.set_cons_zero, List.set_cons_succ, List.getElem_toArray, List.getElem_cons_zero, List.getElem_cons_succ])
    refine wpAnyH_take (i := 2) (oi := _) (v := ?_) rfl (by kernel_rfl) (by kernel_rfl) (by kernel_rfl) (fun _ _ _ h => h) (Or.inl ⟨by rfl, ?_⟩) (by assumption) ?_
    rotate_left
    · intro w hSw
      (try dsimp only at hSw)
      obtain ⟨hS1, hS2, hS3⟩ := hSw
      go_simp
      (try with_reducible rfl)
    (try simp only [Act.put, List.setIfInBounds_toArray, List.set_cons_zero, List.set_cons_succ, List.getElem_toArray, List.getElem_cons_zero, List.getElem_cons_succ])
    refine wpAnyH_take (i := 3) (oi := _) (v := ?_) rfl (by kernel_rfl) (by kernel_rfl) (by kernel_rfl) (fun _ _ _ h => h) (Or.inl ⟨by rfl, ?_⟩) (by assumption) ?_
    rotate_left
    · intro w hSw
      (try dsimp only at hSw)
      obtain ⟨hS1, hS2, hS3⟩ := hSw
      go_simp
      (try with_reducible rfl)
    (try simp only [Act.put, List.setIfInBounds_toArray, List.set_cons_zero, List.set_cons_succ, List.getElem_toArray, List.getElem_cons_zero, List.getElem_cons_succ])
    refine wpAnyH_take (i := 4) (oi := _) (v := ?_) rfl (by kernel_rfl) (by kernel_rfl) (by kernel_rfl) (fun _ _ _ h => h) (Or.inl ⟨by rfl, ?_⟩) (by assumption) ?_
    rotate_left
    · intro w hSw
      (try dsimp only at hSw)
      obtain ⟨hS1, hS2, hS3⟩ := hSw
      go_simp
      (try with_reducible rfl)
    (try simp only [Act.put, List.setIfInBounds_toArray, List.set_cons_zero, List.set_cons_succ, List.getElem_toArray, List.getElem_cons_zero, List.getElem_cons_succ])
    refine wpAnyH_take (i := 5) (oi := _) (v := ?_) rfl (by kernel_rfl) (by kernel_rfl) (by kernel_rfl) (fun _ _ _ h => h) (Or.inl ⟨by rfl, ?_⟩) (by assumption) ?_
    rotate_left
    · intro w hSw
      (try dsimp only at hSw)
      obtain ⟨hS1, hS2, hS3⟩ := hSw
      go_simp
      (try with_reducible rfl)
    (try simp only [Act.put, List.setIfInBounds_toArray, List.set_cons_zero, List.set_cons_succ, List.getElem_toArray, List.getElem_cons_zero, List.getElem_cons_succ])
    refine wpAnyH_take (i := 6) (oi := _) (v := ?_) rfl (by kernel_rfl) (by kernel_rfl) (by kernel_rfl) (fun _ _ _ h => h) (Or.inl ⟨by rfl, ?_⟩) (by assumption) ?_
    rotate_left
    · intro w hSw
      (try dsimp only at hSw)
      obtain ⟨hS1, hS2, hS3⟩ := hSw
      go_simp
      (try with_reducible rfl)
    (try simp only [Act.put, List.setIfInBounds_toArray, List.set_cons_zero, List.set_cons_succ, List.getElem_toArray, List.getElem_cons_zero, List.getElem_cons_succ])
    refine wpAnyH_take (i := 7) (oi := _) (v := ?_) rfl (by kernel_rfl) (by kernel_rfl) (by kernel_rfl) (fun _ _ _ h => h) (Or.inl ⟨by rfl, ?_⟩) (by assumption) ?_
    rotate_left
    · intro w hSw
      (try dsimp only at hSw)
      obtain ⟨hS1, hS2, hS3⟩ := hSw
      go_simp
      (try with_reducible rfl)
    (try simp only [Act.put, List.setIfInBounds_toArray, List.set_cons_zero, List.set_cons_succ, List.getElem_toArray, List.getElem_cons_zero, List.getElem_cons_succ])
    refine wpAnyH_take (i := 8) (oi := _) (v := ?_) rfl (by kernel_rfl) (by kernel_rfl) (by kernel_rfl) (fun _ _ _ h => h) (Or.inl ⟨by rfl, ?_⟩) (by assumption) ?_
    rotate_left
    · intro w hSw
      (try dsimp only at hSw)
      obtain ⟨hS1, hS2, hS3⟩ := hSw
      go_simp
      (try with_reducible rfl)
    (try simp only [Act.put, List.setIfInBounds_toArray, List.set_cons_zero, List.set_cons_succ, List.getElem_toArray, List.getElem_cons_zero, List.getElem_cons_succ])
    refine wpAnyH_take (i := 9) (oi := _) (v := ?_) rfl (by kernel_rfl) (by kernel_rfl) (by kernel_rfl) (fun _ _ _ h => h) (Or.inl ⟨by rfl, ?_⟩) (by assumption) ?_
    rotate_left
    · intro w hSw
      (try dsimp only at hSw)
      obtain ⟨hS1, hS2, hS3⟩ := hSw
      go_simp
      (try with_reducible rfl)
    (try simp only [Act.put, List.setIfInBounds_toArray, List.set_cons_zero, List.set_cons_succ, List.getElem_toArray, List.getElem_cons_zero, List.getElem_cons_succ])
    refine wpAnyH_take (i := 10) (oi := _) (v := ?_) rfl (by kernel_rfl) (by kernel_rfl) (by kernel_rfl) (fun _ _ _ h => h) (Or.inl ⟨by rfl, ?_⟩) (by assumption) ?_
    rotate_left
    · intro w hSw
      (try dsimp only at hSw)
      obtain ⟨hS1, hS2, hS3⟩ := hSw
      go_simp
      (try with_reducible rfl)
    (try simp only [Act.put, List.setIfInBounds_toArray, List.set_cons_zero, List.set_cons_succ, List.getElem_toArray, List.getElem_cons_zero, List.getElem_cons_succ])
    refine wpAnyH_take (i := 11) (oi := _) (v := ?_) rfl (by kernel_rfl) (by kernel_rfl) (by kernel_rfl) (fun _ _ _ h => h) (Or.inl ⟨by rfl, ?_⟩) (by assumption) ?_
    rotate_left
    · intro w hSw
      (try dsimp only at hSw)
      obtain ⟨hS1, hS2, hS3⟩ := hSw
      go_simp
      (try with_reducible rfl)
    (try simp only [Act.put, List.setIfInBounds_toArray, List.set_cons_zero, List.set_cons_succ, List.getElem_toArray, List.getElem_cons_zero, List.getElem_cons_succ])
    refine wpAnyH_take (i := 12) (oi := _) (v := ?_) rfl (by kernel_rfl) (by kernel_rfl) (by kernel_rfl) (fun _ _ _ h => h) (Or.inl ⟨by rfl, ?_⟩) (by assumption) ?_
    rotate_left
    · intro w hSw
      (try dsimp only at hSw)
      obtain ⟨hS1, hS2, hS3⟩ := hSw
      go_simp
      (try with_reducible rfl)
    (try simp only [Act.put, List.setIfInBounds_toArray, List.set_cons_zero, List.set_cons_succ, List.getElem_toArray, List.getElem_cons_zero, List.getElem_cons_succ])
    refine wpAnyH_ready (rs := [13]) (by kernel_rfl) (by simp) ?_
    refine AllReadyH.cons (o := _) rfl (fun K' hK' => ?_) AllReadyH.nil
    go_simp
    refine hK'.out _ _ (HSB3.out _ ((Below.refl _ _).drew.alloc (Nat.le_refl _) _)).1 (fun hHeld => ?_)
    clear hK' K'
    (try simp only [Act.put, List.setIfInBounds_toArray, List.set_cons_zero, List.set_cons_succ, List.getElem_toArray, List.getElem_cons_zero, List.getElem_cons_succ])
    refine wpAnyH_ready (rs := [14]) (by kernel_rfl) (by simp) ?_
    refine AllReadyH.cons (o := _) rfl (fun K' hK' => ?_) AllReadyH.nil
    refine step_lies _ 60 57 59 _ n0 42 ti (.agg zEn) 6 32 Tryd.underlying52 hti hz0 hz1 hz2 rfl (by decide) v3 N XS ?a1 ?a3 ⟨w3.heap.size, 0, none⟩ 1 1 (enL e) ?a2 rfl ?a4 ?a5 (by decide) ?a6 ?a7 ?a8 ?_
    case a1 => rfl
    case a2 => rfl
    case a3 => exact own_below HO3.out.1 ((Below.refl _ _).drew.alloc (Nat.le_refl _) _)
    case a4 => exact World.news_of_block (cs := (enL e).toArray) (heap_alloc_last w3.drew _)
    case a5 => exact oneE _
    case a6 => unfold maxLen; omega
    case a7 => omega
    case a8 => (have := HO3.out.2; simp; omega)
    intro g cap w6 hown6 hg6 hat6 hlt6
    have g6 := gtrans (gtrans (gdrew w3 v3.ownBlock) (galloc w3.drew (.cells (enL e).toArray 42) _)) hg6
    have k6 := HG3.out w6 g6
    refine hK'.out _ _ k6.1 (fun hHeld => ?_)
    clear hK' K'
    (try simp only [Act.put, List.setIfInBounds_toArray, List.set_cons_zero, List.set_cons_succ, List.getElem_toArray, List.getElem_cons_zero, List.getElem_cons_succ])
    refine wpAnyH_take (i := 15) (oi := _) (v := ?_) rfl (by kernel_rfl) (by kernel_rfl) (by kernel_rfl) (fun _ _ _ h => h) (Or.inl ⟨by rfl, ?_⟩) (by assumption) ?_
    rotate_left
    · intro w hSw
      (try dsimp only at hSw)
      obtain ⟨hS1, hS2, hS3⟩ := hSw
      go_simp
      (try with_reducible rfl)
    (try simp only [Act.put, List.setIfInBounds_toArray, List.set_cons_zero, List.set_cons_succ, List.getElem_toArray, List.getElem_cons_zero, List.getElem_cons_succ])
    refine wpAnyH_done (by kernel_rfl) ?_ _
    have f10 := k6.2
    have s10 := k6.1.2.1
    refine lastQ_normal (o := _) rfl (fun K' hK' => ?_)
    go_simp
    refine hK'.out _ _ ?_
    clear hK' K'
    (try simp only [Act.put, List.setIfInBounds_toArray, List.set_cons_zero, List.set_cons_succ, List.getElem_toArray, List.getElem_cons_zero, List.getElem_cons_succ])
    refine NoPanic.normal ?_
    have hT := H3.out.turn hi (v := .slice (some ⟨g, 0, none⟩) (N + 1) cap) (l := W.drp (S ix) x ++ [e]) (w' := w6) (by rw [HV3.out.1]; exact g6) (by rw [List.length_append, enX_app, HV3.out.2.1, HV3.out.2.2]; exact hown6) (by
      rw [HV3.out.1]
      rcases hat6 with h | h
      · exact Or.inl h.symm
      · refine Or.inr fun g' hg' => ?_
        have : g = g' := by simpa [Value.ownBlock] using hg'
        rw [← this, h]
        first | (simp; done) | (simp; omega))
    rw [W.updS_twice] at hT
    have HTT : Hid (_) := hT
    clear hT hown6 hg6 g6 k6 f10 s10 hat6
    go_wp2
    go_ret
    have hfin := HTT.out
    rw [hls.out]
    exact ⟨rfl, _, hfin.1, (Du.of_below (w := w) (w' := W0) (by rw [heb]; exact HBA.out)).trans ((Du.of_below HU1.out).trans (HU3.out.trans hfin.2))⟩
  · go_enter Tryd.func11, Tryd.ntmps11
    go_wp2_with (fail)
    generalize heb : w.heap.size = eb at *
    generalize World.alloc w _ = W0 at *
    refine HF0.out.mono ?_
    rintro r w1 ⟨rfl, rfl⟩
    have hnd : decide (pl < 0) = true := decide_eq_true hw0
    have hnw : ¬ ways ≤ (n : Int) := by omega
    have hnwd : decide (ways ≤ (n : Int)) = false := decide_eq_false hnw
    go_wp2_with (fail)
    go_quiet (fail)
    go_wp2_with (fail)
    have hB01 : Below W0.heap.size W0 (W0.drewN nq) := below_drewN (Below.refl _ _) _
    have HE1 : Hid (ExAt eb e (W0.drewN nq)) := HE0.out.below hB01
    have HU1 : Hid (Below W0.heap.size W0 (W0.drewN nq)) := hB01
    have hld0 := c0
    have hDr := HD.out _ hB01
    have c0n : (W0.drewN nq).cell? ⟨eb, 0, none⟩ = some (.int .i64 x) := c0
    clear c0 c1 c2 cs c1' hld0 hB01 HF0
    generalize World.drewN W0 nq = W1 at *
    refine hDr.mono ?_
    rintro r w3 ⟨rfl, sv3, hC3, hU3⟩
    clear hDr
    have heb0 : eb < W1.heap.size := HE1.out.lt
    have hE3 : ExAt eb e w3 := (hU3.other heb0 HW0.out).trans HE1.out
    have H3 : Hid (Dt n0 cb sb K ways sv3 (W.updS S ix (W.drp (S ix) x)) w3) := hC3
    have HU3 : Hid (Du sb K sv sv3 W1 w3) := hU3
    have ho3 := hC3.o ix hi
    rw [W.updS_same] at ho3
    have hN4 : (W.drp (S ix) x).length ≤ 4096 := Nat.le_trans (W.drp_len _ _) (Nat.le_trans (HS8.out ix hi) (by omega))
    have hs3 : n0 ≤ w3.heap.size := by have := hC3.n0s; have := hC3.s.lt; omega
    generalize hv3 : sv3 ix = v3 at *
    generalize hN : (W.drp (S ix) x).length = N at *
    generalize hxs : enX (W.drp (S ix) x) = XS at *
    have HV3 : Hid (sv3 ix = v3 ∧ (W.drp (S ix) x).length = N ∧ enX (W.drp (S ix) x) = XS) := ⟨hv3, hN, hxs⟩
    have HO3 : Hid (w3.ownsRow n0 42 6 v3 N XS ∧ n0 ≤ w3.heap.size) := ⟨ho3, hs3⟩
    have HSB3 : Hid (∀ w', Below w3.heap.size w3 w' → (w'.cell? ⟨cb, 2, none⟩ = some (.slice (some ⟨sb, 0, none⟩) K K) ∧ w'.cell? ⟨sb, ix, none⟩ = some v3 ∧ (ldX ⟨eb, 0, none⟩).run Tryd.prog w' = .ok (enV e) w') ∧ w'.frozen? ⟨sb, ix, none⟩ = false) := fun w' hb => by
      have hD := H3.out.below hb
      have h1 := hD.s.c _ hi
      rw [HV3.out.1] at h1
      exact ⟨⟨hD.c2, h1, (hE3.below hb).ld⟩, hD.s.fz _⟩
    have hneb : ∀ r, r = v3.ownBlock → some eb ≠ r := fun r hr e' => by
      have := (hU3.apt heb0 HW0.out).2 ix hi
      rw [HV3.out.1, ← hr, ← e'] at this
      exact this rfl
    have HG3 : Hid (∀ w6, w3.grownBy w6 v3.ownBlock → (w6.cell? ⟨cb, 2, none⟩ = some (.slice (some ⟨sb, 0, none⟩) K K) ∧ w6.cell? ⟨sb, ix, none⟩ = some v3 ∧ (ldX ⟨eb, 0, none⟩).run Tryd.prog w6 = .ok (enV e) w6) ∧ w6.frozen? ⟨sb, ix, none⟩ = false) := fun w6 hg => by
      have b6 := H3.out.b.grown hg (fun e => H3.out.nc _ hi (by rw [HV3.out.1]; exact e.symm))
      have s6 := H3.out.s.grown hg (fun e => H3.out.ns _ hi (by rw [HV3.out.1]; exact e.symm))
      have h1 := s6.c _ hi
      rw [HV3.out.1] at h1
      have hE6 : ExAt eb e w6 := (hg.block eb hE3.lt (hneb _ rfl)).trans hE3
      exact ⟨⟨b6.c 2 (by decide), h1, hE6.ld⟩, s6.fz _⟩
    clear hv3 hN hxs ho3 hs3 hC3 hU3 hE3 hneb
    go_wp2_with (fail)
    obtain ⟨ti, hti, hzz⟩ := Option.map_eq_some_iff.1 infoX
    simp only [Prod.mk.injEq] at hzz
    obtain ⟨hz0, hz1, hz2⟩ := hzz
    have hbs := fun w => bsX_any e w
    refine wp_region_noPanic ?_
    refine wp_region_last (fun w' => w'.cell? ⟨cb, 2, none⟩ = some (.slice (some ⟨sb, 0, none⟩) K K) ∧ w'.cell? ⟨sb, ix, none⟩ = some v3 ∧ (ldX ⟨eb, 0, none⟩).run Tryd.prog w' = .ok (enV e) w') 16 _ (by kernel_rfl) rfl rfl (by kernel_rfl) (HSB3.out _ (Below.refl _ _).drew).1 (fun hHeld => ?_)
    refine wpAnyH_take (i := 0) (oi := _) (v := ?_) rfl (by kernel_rfl) (by kernel_rfl) (by kernel_rfl) (fun _ _ _ h => h) (Or.inl ⟨by rfl, ?_⟩) (by assumption) ?_
    rotate_left
    · intro w hSw
      (try dsimp only at hSw)
      obtain ⟨hS1, hS2, hS3⟩ := hSw
      go_simp
      (try with_reducible rfl)
    (try simp only [Act.put, List.setIfInBounds_toArray, List.set_cons_zero, List.set_cons_succ, List.getElem_toArray, List.getElem_cons_zero, List.getElem_cons_succ])
    refine wpAnyH_take (i := 1) (oi := _) (v := ?_) rfl (by kernel_rfl) (by kernel_rfl) (by kernel_rfl) (fun _ _ _ h => h) (Or.inl ⟨by rfl, ?_⟩) (by assumption) ?_
    rotate_left
    · intro w hSw
      (try dsimp only at hSw)
      obtain ⟨hS1, hS2, hS3⟩ := hSw
      go_simp
      (try with_reducible rfl)
    (try simp only [Act.put, List.setIfInBounds_toArray, List.set_cons_zero, List.set_cons_succ, List.getElem_toArray, List.getElem_cons_zero, List.getElem_cons_succ])
    refine wpAnyH_take (i := 2) (oi := _) (v := ?_) rfl (by kernel_rfl) (by kernel_rfl) (by kernel_rfl) (fun _ _ _ h => h) (Or.inl ⟨by rfl, ?_⟩) (by assumption) ?_
    rotate_left
    · intro w hSw
      (try dsimp only at hSw)
      obtain ⟨hS1, hS2, hS3⟩ := hSw
      go_simp
      (try with_reducible rfl)
    (try simp only [Act.put, List.setIfInBounds_toArray, List.set_cons_zero, List.set_cons_succ, List.getElem_toArray, List.getElem_cons_zero, List.getElem_cons_succ])
    refine wpAnyH_take (i := 3) (oi := _) (v := ?_) rfl (by kernel_rfl) (by kernel_rfl) (by kernel_rfl) (fun _ _ _ h => h) (Or.inl ⟨by rfl, ?_⟩) (by assumption) ?_
    rotate_left
    · intro w hSw
      (try dsimp only at hSw)
      obtain ⟨hS1, hS2, hS3⟩ := hSw
      go_simp
      (try with_reducible rfl)
    (try simp only [Act.put, List.setIfInBounds_toArray, List.set_cons_zero, List.set_cons_succ, List.getElem_toArray, List.getElem_cons_zero, List.getElem_cons_succ])
    refine wpAnyH_take (i := 4) (oi := _) (v := ?_) rfl (by kernel_rfl) (by kernel_rfl) (by kernel_rfl) (fun _ _ _ h => h) (Or.inl ⟨by rfl, ?_⟩) (by assumption) ?_
    rotate_left
    · intro w hSw
      (try dsimp only at hSw)
      obtain ⟨hS1, hS2, hS3⟩ := hSw
      go_simp
      (try with_reducible rfl)
    (try simp only [Act.put, List.setIfInBounds_toArray, List.set_cons_zero, List.set_cons_succ, List.getElem_toArray, List.getElem_cons_zero, List.getElem_cons_succ])
    refine wpAnyH_take (i := 5) (oi := _) (v := ?_) rfl (by kernel_rfl) (by kernel_rfl) (by kernel_rfl) (fun _ _ _ h => h) (Or.inl ⟨by rfl, ?_⟩) (by assumption) ?_
    rotate_left
    · intro w hSw
      (try dsimp only at hSw)
      obtain ⟨hS1, hS2, hS3⟩ := hSw
      go_simp
      (try with_reducible rfl)
    (try simp only [Act.put, List.setIfInBounds_toArray, List.set_cons_zero, List.set_cons_succ, List.getElem_toArray, List.getElem_cons_zero, List.getElem_cons_succ])
    refine wpAnyH_take (i := 6) (oi := _) (v := ?_) rfl (by kernel_rfl) (by kernel_rfl) (by kernel_rfl) (fun _ _ _ h => h) (Or.inl ⟨by rfl, ?_⟩) (by assumption) ?_
    rotate_left
    · intro w hSw
      (try dsimp only at hSw)
      obtain ⟨hS1, hS2, hS3⟩ := hSw
      go_simp
      (try with_reducible rfl)
    (try simp only [Act.put, List.setIfInBounds_toArray, List.set_cons_zero, List.set_cons_succ, List.getElem_toArray, List.getElem_cons_zero, List.getElem_cons_succ])
    refine wpAnyH_take (i := 7) (oi := _) (v := ?_) rfl (by kernel_rfl) (by kernel_rfl) (by kernel_rfl) (fun _ _ _ h => h) (Or.inl ⟨by rfl, ?_⟩) (by assumption) ?_
    rotate_left
    · intro w hSw
      (try dsimp only at hSw)
      obtain ⟨hS1, hS2, hS3⟩ := hSw
      go_simp
      (try with_reducible rfl)
    (try simp only [Act.put, List.setIfInBounds_toArray, List.set_cons_zero, List.set_cons_succ, List.getElem_toArray, List.getElem_cons_zero, List.getElem_cons_succ])
    refine wpAnyH_take (i := 8) (oi := _) (v := ?_) rfl (by kernel_rfl) (by kernel_rfl) (by kernel_rfl) (fun _ _ _ h => h) (Or.inl ⟨by rfl, ?_⟩) (by assumption) ?_
    rotate_left
    · intro w hSw
      (try dsimp only at hSw)
      obtain ⟨hS1, hS2, hS3⟩ := hSw
      go_simp
      (try with_reducible rfl)
    (try simp only [Act.put, List.setIfInBounds_toArray, List.set_cons_zero, List.set_cons_succ, List.getElem_toArray, List.getElem_cons_zero, List.getElem_cons_succ])
    refine wpAnyH_take (i := 9) (oi := _) (v := ?_) rfl (by kernel_rfl) (by kernel_rfl) (by kernel_rfl) (fun _ _ _ h => h) (Or.inl ⟨by rfl, ?_⟩) (by assumption) ?_
    rotate_left
    · intro w hSw
      (try dsimp only at hSw)
      obtain ⟨hS1, hS2, hS3⟩ := hSw
      go_simp
      (try with_reducible rfl)
    (try simp only [Act.put, List.setIfInBounds_toArray, List.set_cons_zero, List.set_cons_succ, List.getElem_toArray, List.getElem_cons_zero, List.getElem_cons_succ])
    refine wpAnyH_take (i := 10) (oi := _) (v := ?_) rfl (by kernel_rfl) (by kernel_rfl) (by kernel_rfl) (fun _ _ _ h => h) (Or.inl ⟨by rfl, ?_⟩) (by assumption) ?_
    rotate_left
    · intro w hSw
      (try dsimp only at hSw)
      obtain ⟨hS1, hS2, hS3⟩ := hSw
      go_simp
      (try with_reducible rfl)
    (try simp only [Act.put, List.setIfInBounds_toArray, List.set_cons_zero, List.set_cons_succ, List.getElem_toArray, List.getElem_cons_zero, List.getElem_cons_succ])
    refine wpAnyH_take (i := 11) (oi := _) (v := ?_) rfl (by kernel_rfl) (by kernel_rfl) (by kernel_rfl) (fun _ _ _ h => h) (Or.inl ⟨by rfl, ?_⟩) (by assumption) ?_
    rotate_left
    · intro w hSw
      (try dsimp only at hSw)
      obtain ⟨hS1, hS2, hS3⟩ := hSw
      go_simp
      (try with_reducible rfl)
    (try simp only [Act.put, List.setIfInBounds_toArray, List.set_cons_zero, List.set_cons_succ, List.getElem_toArray, List.getElem_cons_zero, List.getElem_cons_succ])
    refine wpAnyH_take (i := 12) (oi := _) (v := ?_) rfl (by kernel_rfl) (by kernel_rfl) (by kernel_rfl) (fun _ _ _ h => h) (Or.inl ⟨by rfl, ?_⟩) (by assumption) ?_
    rotate_left
    · intro w hSw
      (try dsimp only at hSw)
      obtain ⟨hS1, hS2, hS3⟩ := hSw
      go_simp
      (try with_reducible rfl)
    (try simp only [Act.put, List.setIfInBounds_toArray, List.set_cons_zero, List.set_cons_succ, List.getElem_toArray, List.getElem_cons_zero, List.getElem_cons_succ])
    refine wpAnyH_ready (rs := [13]) (by kernel_rfl) (by simp) ?_
    refine AllReadyH.cons (o := _) rfl (fun K' hK' => ?_) AllReadyH.nil
    go_simp
    refine hK'.out _ _ (HSB3.out _ ((Below.refl _ _).drew.alloc (Nat.le_refl _) _)).1 (fun hHeld => ?_)
    clear hK' K'
    (try simp only [Act.put, List.setIfInBounds_toArray, List.set_cons_zero, List.set_cons_succ, List.getElem_toArray, List.getElem_cons_zero, List.getElem_cons_succ])
    refine wpAnyH_ready (rs := [14]) (by kernel_rfl) (by simp) ?_
    refine AllReadyH.cons (o := _) rfl (fun K' hK' => ?_) AllReadyH.nil
    refine step_lies _ 60 57 59 _ n0 42 ti (.agg zEn) 6 32 Tryd.underlying52 hti hz0 hz1 hz2 rfl (by decide) v3 N XS ?a1 ?a3 ⟨w3.heap.size, 0, none⟩ 1 1 (enL e) ?a2 rfl ?a4 ?a5 (by decide) ?a6 ?a7 ?a8 ?_
    case a1 => rfl
    case a2 => rfl
    case a3 => exact own_below HO3.out.1 ((Below.refl _ _).drew.alloc (Nat.le_refl _) _)
    case a4 => exact World.news_of_block (cs := (enL e).toArray) (heap_alloc_last w3.drew _)
    case a5 => exact oneE _
    case a6 => unfold maxLen; omega
    case a7 => omega
    case a8 => (have := HO3.out.2; simp; omega)
    intro g cap w6 hown6 hg6 hat6 hlt6
    have g6 := gtrans (gtrans (gdrew w3 v3.ownBlock) (galloc w3.drew (.cells (enL e).toArray 42) _)) hg6
    have k6 := HG3.out w6 g6
    refine hK'.out _ _ k6.1 (fun hHeld => ?_)
    clear hK' K'
    (try simp only [Act.put, List.setIfInBounds_toArray, List.set_cons_zero, List.set_cons_succ, List.getElem_toArray, List.getElem_cons_zero, List.getElem_cons_succ])
    refine wpAnyH_take (i := 15) (oi := _) (v := ?_) rfl (by kernel_rfl) (by kernel_rfl) (by kernel_rfl) (fun _ _ _ h => h) (Or.inl ⟨by rfl, ?_⟩) (by assumption) ?_
    rotate_left
    · intro w hSw
      (try dsimp only at hSw)
      obtain ⟨hS1, hS2, hS3⟩ := hSw
      go_simp
      (try with_reducible rfl)
    (try simp only [Act.put, List.setIfInBounds_toArray, List.set_cons_zero, List.set_cons_succ, List.getElem_toArray, List.getElem_cons_zero, List.getElem_cons_succ])
    refine wpAnyH_done (by kernel_rfl) ?_ _
    have f10 := k6.2
    have s10 := k6.1.2.1
    refine lastQ_normal (o := _) rfl (fun K' hK' => ?_)
    go_simp
    refine hK'.out _ _ ?_
    clear hK' K'
    (try simp only [Act.put, List.setIfInBounds_toArray, List.set_cons_zero, List.set_cons_succ, List.getElem_toArray, List.getElem_cons_zero, List.getElem_cons_succ])
    refine NoPanic.normal ?_
    have hT := H3.out.turn hi (v := .slice (some ⟨g, 0, none⟩) (N + 1) cap) (l := W.drp (S ix) x ++ [e]) (w' := w6) (by rw [HV3.out.1]; exact g6) (by rw [List.length_append, enX_app, HV3.out.2.1, HV3.out.2.2]; exact hown6) (by
      rw [HV3.out.1]
      rcases hat6 with h | h
      · exact Or.inl h.symm
      · refine Or.inr fun g' hg' => ?_
        have : g = g' := by simpa [Value.ownBlock] using hg'
        rw [← this, h]
        first | (simp; done) | (simp; omega))
    rw [W.updS_twice] at hT
    have HTT : Hid (_) := hT
    clear hT hown6 hg6 g6 k6 f10 s10 hat6
    go_wp2
    go_ret
    have hfin := HTT.out
    rw [hls.out]
    exact ⟨rfl, _, hfin.1, (Du.of_below (w := w) (w' := W0) (by rw [heb]; exact HBA.out)).trans ((Du.of_below HU1.out).trans (HU3.out.trans hfin.2))⟩
end Go.Proofs.YtlindkhmjkionaaDoor
