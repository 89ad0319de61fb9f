/- cache: Find, Drop. -/
import Derived.Test.YtlindkhmjkionaaDoorCacC
namespace Go.Proofs.YtlindkhmjkionaaDoor
open Go.ChangeShapes Go.WideShapes Go.ChangeAt Go.RowKit
set_option linter.unusedVariables false
set_option linter.unusedSimpArgs false
attribute [local go_sem ↓] ldE_eq stE_eq bdE_eq bsE_eq
variable {n0 cb sb K : Nat} {ways : Int} {sv sv' sv'' : Nat → Value} {S S' : Nat → List W.En} {w w' w'' : World}

/-- The entry that Find answers. -/
def W.gt (l : List W.En) (x : Int) : W.En := (W.fnd l x).getD W.en0
theorem W.st_len (hS : ∀ i, i < K → (S i).length ≤ 4096) (hK : 0 < K) (x : Int) : (W.st K S x).length ≤ 4096 := by
  unfold W.st
  by_cases h : x < 0
  · rw [if_pos h]; simp
  · rw [if_neg h]; exact hS _ (W.ix_lt hK x)
abbrev z6 : Array Value := #[.int .i64 0, .int .i64 0, .int .u32 0, .int .u32 0, .int .u32 0, .int .u32 0]

set_option maxRecDepth 10000 in
set_option maxHeartbeats 1600000 in
theorem find_any (H : Ct n0 cb sb K ways sv S w) (hK : 0 < K) (hS : ∀ i, i < K → (S i).length ≤ 4096) (x : Int) :
    Calls Tryd.prog 17 #[.pointer (some ⟨cb, 0, none⟩), .int .i64 x] w fun e w' => e = .returned (.tuple #[enV (W.gt (W.st K S x) x), .bool (W.has (W.st K S x) x)]) ∧ Below w.heap.size w w' := by
  have hl := W.st_len hS hK x
  have HH : Hid (Ct n0 cb sb K ways sv S w) := H
  have bd := bdE_0
  have HR : Hid (∀ w', Below w.heap.size w w' → Rw (stV K sv x) (W.st K S x) w') := fun w' hb => (H.rwst hK x).below hb
  clear H
  cases hq : W.has (W.st K S x) x
  · have hm := W.has_false hq
    have hg : W.gt (W.st K S x) x = W.en0 := by unfold W.gt; rw [W.fnd_none hq]; rfl
    rw [hg]
    clear hg hq
    go_enter Tryd.func17, Tryd.ntmps17
    go_wp2_with (fail)
    have hba := below_alloc w (.cells z6 37)
    have hrm := enRoom_new w z6 rfl
    generalize World.alloc w _ = W0 at *
    refine (set_any (HH.out.below hba) hK x).mono ?_
    rintro e w1 ⟨rfl, hb1⟩
    have hb01 := hba.trans (hb1.mono hba.size)
    have hr1 := hrm.below hb1
    have HRM : Hid (_ ∧ _) := ⟨hr1, hb01⟩
    clear hba hrm hb1 hr1 hb01
    have HP : Hid (Calls _ _ _ _ _) := place_miss x (W.st K S x) hm hl (stV K sv x) w1 (HR.out w1 HRM.out.2)
    generalize stV K sv x = v at *
    go_wp2_with (fail)
    refine HP.out.mono ?_
    rintro e w2 ⟨rfl, hb2⟩
    have hr2 := HRM.out.1.below hb2
    have hb02 := HRM.out.2.trans (hb2.mono HRM.out.2.size)
    have hst := hr2.st W.en0
    have hld := (hr2.set W.en0).ld
    have hB : Below w.heap.size w (w2.setRow w.heap.size (enL W.en0).toArray) := hb02.grown (gsetRow _ _ _) hb02.size (fun b e => by cases e; exact Nat.le_refl _)
    have HB : Hid (_) := hB
    clear hb2 hr2 hb02 hB HP
    go_wp2
    exact bodyPost_ret (v := .tuple #[enV W.en0, .bool false]) (by simp [results, Tryd.results17, asAddr, ldE_eq, hld]) rfl ⟨rfl, HB.out⟩
  · obtain ⟨L1, f, L2, hs, hfx, h1⟩ := W.split _ x hq
    have hg : W.gt (W.st K S x) x = f := by unfold W.gt; rw [hs, ← hfx, W.fnd_mid L1 L2 f (by rw [hfx]; exact h1)]; rfl
    rw [hg]
    rw [hs] at hl
    have HR' : Hid (∀ w', Below w.heap.size w w' → Rw (stV K sv x) (L1 ++ f :: L2) w') := fun w' hb => hs ▸ HR.out w' hb
    clear hg hq HR hs
    have hn : (L1 ++ f :: L2).length = L1.length + 1 + L2.length := by simp; omega
    go_enter Tryd.func17, Tryd.ntmps17
    go_wp2_with (fail)
    have hba := below_alloc w (.cells z6 37)
    have hrm := enRoom_new w z6 rfl
    generalize World.alloc w _ = W0 at *
    refine (set_any (HH.out.below hba) hK x).mono ?_
    rintro e w1 ⟨rfl, hb1⟩
    have hb01 := hba.trans (hb1.mono hba.size)
    have hr1 := hrm.below hb1
    have HRM : Hid (_ ∧ _) := ⟨hr1, hb01⟩
    clear hba hrm hb1 hr1 hb01
    have HP : Hid (Calls _ _ _ _ _) := place_hit x L1 L2 f hfx h1 hl (stV K sv x) w1 (HR'.out w1 HRM.out.2)
    have HR2 : Hid (Rw (stV K sv x) (L1 ++ f :: L2) w) := HR'.out w (Below.refl _ _)
    clear HR'
    generalize stV K sv x = v at *
    go_wp2_with (fail)
    refine HP.out.mono ?_
    rintro e w2 ⟨rfl, hb2⟩
    have hr2 := HRM.out.1.below hb2
    have hb02 := HRM.out.2.trans (hb2.mono HRM.out.2.size)
    obtain ⟨g, a, cap, rfl, hcap, ha, hrd⟩ := HR2.out
    obtain ⟨rfl, hgl⟩ := ha (by omega)
    have hi : L1.length < (L1 ++ f :: L2).length := by omega
    have l1 := ldE_at (range_below (hrd L1.length f (by rw [List.getElem?_append_right (Nat.le_refl _)]; simp)) hb02 hgl)
    have hst := hr2.st f
    have hld := (hr2.set f).ld
    have hB : Below w.heap.size w (w2.setRow w.heap.size (enL f).toArray) := hb02.grown (gsetRow _ _ _) hb02.size (fun b e => by cases e; exact Nat.le_refl _)
    have HB : Hid (_) := hB
    clear hb2 hr2 hb02 hB HP HR2 ha hrd
    generalize (L1 ++ f :: L2).length = n at *
    generalize L1.length = i at *
    have hi' : (i : Int) < n := by omega
    clear hn
    go_wp2
    exact bodyPost_ret (v := .tuple #[enV f, .bool true]) (by simp [results, Tryd.results17, asAddr, ldE_eq, hld]) rfl ⟨rfl, HB.out⟩

theorem ct_form (H : Ct n0 cb sb K ways sv S w) {i : Nat} (hi : i < K) (hne : 0 < (S i).length) : ∃ g cap, sv i = .slice (some ⟨g, 0, none⟩) (S i).length cap ∧ (S i).length ≤ cap ∧ cap ≤ maxLen := by
  rcases (H.o i hi).2 with ⟨h1, h2⟩ | ⟨g, cap, cur, h1, hbg, hg, hnc, hcm, hcs, htk⟩
  · omega
  · exact ⟨g, cap, h1, hnc, hcm⟩

set_option maxRecDepth 10000 in
set_option maxHeartbeats 1600000 in
theorem drop_miss (H : Ct n0 cb sb K ways sv S w) (hK : 0 < K) (hS : ∀ i, i < K → (S i).length ≤ 4096) (x : Int) (hq : W.has (W.st K S x) x = false) :
    Calls Tryd.prog 15 #[.pointer (some ⟨cb, 0, none⟩), .int .i64 x] w fun e w' => e = .returned (.bool false) ∧ Below w.heap.size w w' := by
  have hl := W.st_len hS hK x
  have hm := W.has_false hq
  have HH : Hid (Ct n0 cb sb K ways sv S w) := H
  clear H hq
  go_enter Tryd.func15, Tryd.ntmps15
  go_wp2_with (fail)
  refine (set_any HH.out hK x).mono ?_
  rintro e w1 ⟨rfl, hb1⟩
  have HP : Hid (Calls _ _ _ _ _) := place_miss x (W.st K S x) hm hl (stV K sv x) w1 ((HH.out.rwst hK x).below hb1)
  generalize stV K sv x = v at *
  go_wp2_with (fail)
  refine HP.out.mono ?_
  rintro e w2 ⟨rfl, hb2⟩
  go_wp2
  go_ret
  exact ⟨rfl, hb1.trans (hb2.mono hb1.size)⟩

set_option maxRecDepth 10000 in
set_option maxHeartbeats 400000 in
theorem drop_hit (H : Ct n0 cb sb K ways sv S w) (hK : 0 < K) (hS : ∀ i, i < K → (S i).length ≤ 4096) (x : Int) (hx : 0 ≤ x) (hq : W.has (S (W.ix K x)) x = true) :
    Calls Tryd.prog 15 #[.pointer (some ⟨cb, 0, none⟩), .int .i64 x] w fun e w' => e = .returned (.bool true) ∧ ∃ sv', Ct n0 cb sb K ways sv' (W.updS S (W.ix K x) (W.drp (S (W.ix K x)) x)) w' ∧ Cu sb K sv sv' w w' := by
  have hi := W.ix_lt hK x
  obtain ⟨L1, f, L2, hs, hfx, h1⟩ := W.split _ x hq
  have hdr : W.drp (S (W.ix K x)) x = L1 ++ L2 := by rw [hs, ← hfx, W.drp_mid L1 L2 f (by rw [hfx]; exact h1)]
  rw [hdr]
  have hn : (L1 ++ f :: L2).length = L1.length + 1 + L2.length := by simp; omega
  have hl := hS _ hi
  rw [hs] at hl
  obtain ⟨g, cap, hv, hcap, hcm⟩ := ct_form H hi (by rw [hs]; omega)
  rw [hs] at hv hcap
  obtain ⟨n, hnn⟩ : ∃ n, (L1 ++ f :: L2).length = n := ⟨_, rfl⟩
  have HL : Hid ((L1 ++ f :: L2).length ≤ 4096) := hl
  rw [hnn] at hv hcap hn hl
  have HN : Hid ((L1 ++ f :: L2).length = n ∧ n = L1.length + 1 + L2.length) := ⟨hnn, hn⟩
  have HH : Hid (Ct n0 cb sb K ways sv S w) := H
  have hsv : stV K sv x = .slice (some ⟨g, 0, none⟩) n cap := by unfold stV; rw [if_neg (by omega), hv]
  have HSt : Hid (stV K sv x = .slice (some ⟨g, 0, none⟩) n cap) := hsv
  have HRw : Hid (Rw (.slice (some ⟨g, 0, none⟩) n cap) (L1 ++ f :: L2) w) := by
    have := H.rwst hK x
    rw [hsv] at this
    unfold W.st at this
    rw [if_neg (by omega), hs] at this
    exact this
  have HV : Hid (sv (W.ix K x) = .slice (some ⟨g, 0, none⟩) n cap ∧ S (W.ix K x) = L1 ++ f :: L2) := ⟨hv, hs⟩
  have HF : Hid (f.l = x ∧ ∀ e ∈ L1, e.l ≠ x) := ⟨hfx, h1⟩
  clear H hs hq hfx h1 hdr hv hsv hn hnn
  go_enter Tryd.func15, Tryd.ntmps15
  go_wp2_with (fail)
  refine (set_any HH.out hK x).mono ?_
  rintro e w1 ⟨rfl, hb1⟩
  rw [HSt.out]
  have HP : Hid (Calls _ _ _ _ _) := place_hit x L1 L2 f HF.out.1 HF.out.2 HL.out _ w1 (HRw.out.below hb1)
  have H1 : Hid (Ct n0 cb sb K ways sv S w1 ∧ Below w.heap.size w w1) := ⟨HH.out.below hb1, hb1⟩
  clear hb1
  go_wp2_with (fail)
  refine HP.out.mono ?_
  rintro e w2 ⟨rfl, hb2⟩
  have hC2 := H1.out.1.below hb2
  have hB2 := H1.out.2.trans (hb2.mono H1.out.2.size)
  clear hb2 HP H1 HRw HSt HH
  go_wp2_with (fail)
  have H2 : Hid (Ct n0 cb sb K ways sv S w2 ∧ Below w.heap.size w w2) := ⟨hC2, hB2⟩
  have c1 := hC2.c1
  have hix : ∀ w', w'.cell? ⟨cb, 1, none⟩ = some (.slice (some ⟨sb, 0, none⟩) K K) → Calls Tryd.prog 36 #[.pointer (some ⟨cb, 0, none⟩), .int .i64 x] w' fun e w'' => e = .returned (.int .i64 (W.ix K x)) ∧ w'' = w' := fun w' h => index_c h hK x hx
  have HIX : Hid (_) := hix
  have hown := hC2.o _ hi
  rw [HV.out.1, HV.out.2, HN.out.1] at hown
  have hcs := H2.out.1.cs
  have hin : L1.length < n := by have := HN.out.2; omega
  have hwr : IntKind.i64.wrap ((L1.length : Int) + 1) = (L1.length : Int) + 1 := IntWalk.i64_in ((L1.length : Int) + 1) (by omega)
  have hD := delete_any n0 g cap L1.length n L1 L2 f rfl HN.out.2.symm (by omega) hcap hcm w2.drew (by
    have := own_below hown (Below.refl _ _).drew
    exact this)
  rw [← hwr] at hD
  have HDel : Hid (Calls _ _ _ _ _) := hD
  clear hD hwr
  have HT : Hid (∀ w6, w2.grownBy w6 (some g) → w6.ownsRow n0 37 6 (.slice (some ⟨g, 0, none⟩) (n - 1) cap) (n - 1) (enX (L1 ++ L2)) → Ct n0 cb sb K ways (updV sv (W.ix K x) (.slice (some ⟨g, 0, none⟩) (n - 1) cap)) (W.updS S (W.ix K x) (L1 ++ L2)) (w6.setCell ⟨sb, W.ix K x, none⟩ (.slice (some ⟨g, 0, none⟩) (n - 1) cap)) ∧ Cu sb K sv (updV sv (W.ix K x) (.slice (some ⟨g, 0, none⟩) (n - 1) cap)) w2 (w6.setCell ⟨sb, W.ix K x, none⟩ (.slice (some ⟨g, 0, none⟩) (n - 1) cap))) := fun w6 hg ho => by
    have hlen : n - 1 = (L1 ++ L2).length := by rw [HN.out.2, List.length_append]; omega
    rw [hlen] at ho ⊢
    exact H2.out.1.turn hi (by rw [HV.out.1]; exact hg) ho (Or.inl (by rw [HV.out.1]; rfl))
  have HK6 : Hid (∀ w6, w2.grownBy w6 (some g) → w6.cell? ⟨cb, 1, none⟩ = some (.slice (some ⟨sb, 0, none⟩) K K) ∧ (∃ v, w6.cell? ⟨sb, W.ix K x, none⟩ = some v) ∧ w6.frozen? ⟨sb, W.ix K x, none⟩ = false) := fun w6 hg => by
    have b6 := H2.out.1.b.grown hg (fun e => H2.out.1.nc _ hi (by rw [HV.out.1]; exact e.symm))
    have s6 := H2.out.1.s.grown hg (fun e => H2.out.1.ns _ hi (by rw [HV.out.1]; exact e.symm))
    exact ⟨b6.c 1 (by decide), ⟨_, s6.c _ hi⟩, s6.fz _⟩
  generalize hgx : W.ix K x = ix at *
  have HGX : Hid (W.ix K x = ix) := hgx
  clear hgx
  have hix' : (ix : Int) < K := by omega
  clear hown hC2 hB2 hix HV
  go_region_held3 (fun w' => w'.cell? ⟨cb, 1, none⟩ = some (.slice (some ⟨sb, 0, none⟩) K K))
    (first | assumption | exact k6 | exact (World.cell?_setCell_other _ _ _ _ (by simp [hcs])).trans k6 | go_keep)
    (first
      | (go_at_call 36; refine (HIX.out w2.drew c1).mono ?_; rintro e w5 ⟨rfl, rfl⟩)
      | (go_at_call 35; refine HDel.out.mono ?_; rintro e w6 ⟨rfl, ho6, hg6'⟩; have hg6 := gtrans (gdrew w2 (some g)) hg6'; obtain ⟨k6, ⟨v6, k7⟩, k8⟩ := HK6.out w6 hg6))
  all_goals
    go_wp2
    go_ret
    have hT := HT.out w6 hg6 ho6
    rw [HGX.out]
    exact ⟨rfl, _, hT.1, (Cu.of_below H2.out.2).trans hT.2⟩
end Go.Proofs.YtlindkhmjkionaaDoor
