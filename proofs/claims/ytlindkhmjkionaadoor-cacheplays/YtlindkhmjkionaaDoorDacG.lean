/- the document's cache: Victim; New refused; plain, same. -/
import Derived.Test.YtlindkhmjkionaaDoorDacF
import Derived.Test.YtlindkhmjkionaaDoorCacSetsWalk
namespace Go.Proofs.YtlindkhmjkionaaDoor
open Go.ChangeShapes Go.WideShapes Go.ChangeAt Go.RowKit
set_option linter.unusedVariables false
set_option linter.unusedSimpArgs false
attribute [local go_sem ↓] ldE_eq stE_eq bdE_eq bsE_eq ldX_eq stX_eq bdX_eq bsX_eq
variable {n0 cb sb K : Nat} {ways : Int} {sv sv' sv'' : Nat → Value} {S S' : Nat → List W.En} {w w' w'' : World}

set_option maxRecDepth 10000 in
set_option maxHeartbeats 1600000 in
theorem new_bad (A : Nat → Addr) (s y : Int) (hn : W.nok s y) (w : World) (hS : Sent A w) : Calls Tryd.prog 7 #[.int .i64 s, .int .i64 y] w fun e w' => e = .returned (.tuple #[.pointer none, ptr A 0]) ∧ Below w.heap.size w w' := by
  have c0 := hS.cell 0 (by omega)
  clear hS
  unfold W.nok at hn
  have hn' : s < 1 ∨ (1 ≤ s ∧ 64 < s) ∨ (1 ≤ s ∧ s ≤ 64 ∧ bits .and .i64 s (s - 1) ≠ 0) ∨ (1 ≤ s ∧ s ≤ 64 ∧ bits .and .i64 s (s - 1) = 0 ∧ y < 1) ∨ (1 ≤ s ∧ s ≤ 64 ∧ bits .and .i64 s (s - 1) = 0 ∧ 1 ≤ y ∧ 8 < y) := by
    by_cases q : bits .and .i64 s (s - 1) = 0
    · omega
    · by_cases h1 : s < 1
      · exact Or.inl h1
      · by_cases h2 : 64 < s
        · exact Or.inr (Or.inl ⟨by omega, h2⟩)
        · exact Or.inr (Or.inr (Or.inl ⟨by omega, by omega, q⟩))
  clear hn
  rcases hn' with h1 | ⟨h1, h2⟩ | ⟨h1, h2, h3⟩ | ⟨h1, h2, h3, h4⟩ | ⟨h1, h2, h3, h4, h5⟩
  all_goals
    go_enter Tryd.func7, Tryd.ntmps7
    go_wp2
    all_goals
      go_quiet (fail)
      go_wp2
      exact bodyPost_ret (v := .tuple #[.pointer none, ptr A 0]) (by simp [results, Tryd.results7, go_sem, ptr]) rfl ⟨rfl, below_drewN (Below.refl _ _) _⟩

theorem bdX_3 (k s d0 d1 d2 d3 : Int) (w : World) : (bdX #[(0, .int .i64 k), (1, .int .i64 s), (2, lnV d0 d1 d2 d3)]).run Tryd.prog w = .ok (enV ⟨k, s, d0, d1, d2, d3⟩) w := by kernel_rfl
theorem ExAt.line {b : Nat} {e : W.En} {w : World} (h : ExAt b e w) : (ldL ⟨b, 2, none⟩).run Tryd.prog w = .ok (lnV e.d0 e.d1 e.d2 e.d3) w := ldL_at (fun j v hv => by
  have hj : j < 4 := (List.getElem?_eq_some_iff.1 hv).1
  rw [h.cAt (2 + j) (by omega)]
  match j, hj, hv with
  | 0, _, hv | 1, _, hv | 2, _, hv | 3, _, hv => exact hv)
attribute [local go_sem ↓] ldL_eq
theorem plain_any (e : W.En) (w : World) : Calls Tryd.prog 12 #[enV e] w fun r w' => r = .returned (enV e) ∧ Below w.heap.size w w' := by
  have b1 := below_alloc w (.cells (enL e).toArray 37)
  have b2 := below_alloc (w.alloc (.cells (enL e).toArray 37)) (.cells z6 42)
  have hE := (enAt_new w e).below b2
  have hR := exRoom_new (w.alloc (.cells (enL e).toArray 37)) z6 rfl
  rw [show (w.alloc (.cells (enL e).toArray 37)).heap.size = w.heap.size + 1 by simp] at hR
  have hF : Below w.heap.size w (((w.alloc (.cells (enL e).toArray 37)).alloc (.cells z6 42)).setRow (w.heap.size + 1) (enL e).toArray) := (b1.trans (b2.mono b1.size)).grown (gsetRow _ _ _) (by simp; omega) (fun b e => by cases e; omega)
  have HF : Hid (_) := hF
  have c0 := hE.cAt 0 (by decide)
  have c1 := hE.cAt 1 (by decide)
  have l2 := hE.line
  have st := hR.st e
  have ld : Hid _ := (hR.set e).ld
  have bd := bdX_3 e.l e.s e.d0 e.d1 e.d2 e.d3
  clear hE hR hF b1 b2
  generalize hv : lnV e.d0 e.d1 e.d2 e.d3 = V at *
  clear hv
  change ∀ w, _ = Result.ok (enV e) w at bd
  unfold enL z6 at c0 c1 l2 st ld HF
  generalize he : enV e = ev at *
  rw [← he]
  unfold enV enL
  go_enter Tryd.func12, Tryd.ntmps12
  go_wp2_with (fail)
  exact bodyPost_ret (v := ev) (by simp [results, Tryd.results12, asAddr, ldX_eq, ld.out]) rfl ⟨by rw [← he]; rfl, HF.out⟩
theorem same_any (e : W.En) (w : World) : Calls Tryd.prog 21 #[enV e, enV e] w fun r w' => r = .returned (.bool true) ∧ Below w.heap.size w w' := by
  have b1 := below_alloc w (.cells (enL e).toArray 37)
  have b2 := below_alloc (w.alloc (.cells (enL e).toArray 37)) (.cells (enL e).toArray 42)
  have hE := (enAt_new w e).below b2
  have hR := exAt_new (w.alloc (.cells (enL e).toArray 37)) e
  rw [show (w.alloc (.cells (enL e).toArray 37)).heap.size = w.heap.size + 1 by simp] at hR
  have HF : Hid (Below w.heap.size w ((w.alloc (.cells (enL e).toArray 37)).alloc (.cells (enL e).toArray 42))) := b1.trans (b2.mono b1.size)
  have c0 := hE.cAt 0 (by decide)
  have c1 := hE.cAt 1 (by decide)
  have l2 := hE.line
  have d0 := hR.cAt 0 (by decide)
  have d1 := hR.cAt 1 (by decide)
  have m2 := hR.line
  have e0 : (e.l == e.l) = true := by simp
  have e1 : (e.s == e.s) = true := by simp
  clear hE hR b1 b2
  have HS : Hid (∀ w, Calls Tryd.prog 28 #[lnV e.d0 e.d1 e.d2 e.d3, lnV e.d0 e.d1 e.d2 e.d3] w fun e w' => e = .returned (.bool true) ∧ Below w.heap.size w w') := fun w => sameline_self _ _ _ _ w
  generalize hv : lnV e.d0 e.d1 e.d2 e.d3 = V at *
  clear hv
  unfold enL at c0 c1 l2 d0 d1 m2 HF
  unfold enV enL
  go_enter Tryd.func21, Tryd.ntmps21
  go_wp2_with (fail)
  refine (HS.out _).mono ?_
  rintro r w1 ⟨rfl, hb⟩
  have HB : Hid (_) := HF.out.trans (hb.mono (by simp; omega))
  clear hb c0 c1 l2 d0 d1 m2
  go_wp2
  go_ret
  exact ⟨rfl, HB.out⟩
set_option maxRecDepth 10000 in
set_option maxHeartbeats 1600000 in
theorem rvictim_any (s : W.Sl) (ns : List Int) (H : Dt n0 cb sb K ways sv S w) (hK : 0 < K) (hS : ∀ i, i < K → (S i).length ≤ 4096) (x : Int) (hx : 0 ≤ x) (hl : Li s ns w) :
    Calls Tryd.prog 20 #[.pointer (some ⟨cb, 0, none⟩), .int .i64 x, slV s] w fun e w' => e = .returned (.tuple #[enV ((W.vic (W.st K S x) ns).getD W.en0), .bool (W.vic (W.st K S x) ns).isSome]) ∧ Below w.heap.size w w' := by
  have HH : Hid (Dt n0 cb sb K ways sv S w) := H
  have hst : W.st K S x = S (W.ix K x) := by unfold W.st; rw [if_neg (by omega)]
  rw [hst]
  clear hst
  have hi := W.ix_lt hK x
  have hlen := hS _ hi
  have hix := W.ix_int hK x
  obtain ⟨g, a, cap, hv, hcap, ha, hrd⟩ := HH.out.rw_ hi
  have HV : Hid (sv (W.ix K x) = .slice a (S (W.ix K x)).length cap) := hv
  have HL : Hid (∀ w', Below w.heap.size w w' → Li s ns w') := fun w' hb => hl.below hb
  have HR : Hid (∀ j f, (S (W.ix K x))[j]? = some f → w.rangeAt g (j * 6) (enL f)) := hrd
  have HA : Hid (0 < (S (W.ix K x)).length → a = some ⟨g, 0, none⟩ ∧ g < w.heap.size) := ha
  clear H hl hv hrd ha hS
  generalize hss : slV s = vs
  have HSS : Hid (slV s = vs) := hss
  clear hss
  generalize hLL : S (W.ix K x) = L at *
  clear hLL
  generalize hnn : L.length = n at *
  have HN : Hid (L.length = n) := hnn
  clear hnn
  have HX : Hid ((W.ix K x : Int) = x % (K : Int)) := hix
  generalize hq : x % (K : Int) = q at *
  generalize hxx : W.ix K x = ix at *
  clear hxx
  have hK' : (0 : Int) < K := by omega
  have hixk : (ix : Int) < K := by omega
  subst hix
  have HQ : Hid (x % (K : Int) = (ix : Int)) := hq
  clear HX
  have hba := below_alloc w (.cells z6 42)
  have hrm := exRoom_new w z6 rfl
  have HB1 : Hid (ExRoom w.heap.size (w.alloc (.cells z6 42)) ∧ Below w.heap.size w (w.alloc (.cells z6 42))) := ⟨hrm, hba⟩
  have hD := HH.out.below hba
  have c0 := hD.c0
  clear hba hrm hD
  unfold z6 at c0 HB1
  generalize hrb : w.heap.size = rb at *
  go_enter Tryd.func20, Tryd.ntmps20
  go_wp2_with (fail)
  try simp only [HQ.out]
  go_loopw [9] (fun j wr => ∃ k : Nat, k ≤ n ∧ j = .int .i64 k ∧ (∀ i f, i < k → L[i]? = some f → W.hasI ns f.l = true) ∧ ExRoom rb wr ∧ Below rb w wr) (fun j _ => n - (intOf j).toNat)
  case atStart => exact ⟨0, by omega, rfl, fun i f h => by omega, HB1.out.1, HB1.out.2⟩
  case round =>
    obtain ⟨k, hk, rfl, hno, hrm, hb⟩ := hrel
    have HO : Hid (∀ i f, i < k → L[i]? = some f → W.hasI ns f.l = true) := hno
    clear hno HB1 c0
    have hD := HH.out.below (hrb.symm ▸ hb)
    have c0 := hD.c0
    have c2 := hD.c2
    have cs := hD.s.c _ hi
    rw [HV.out] at cs
    clear hD
    by_cases h : k < n
    · have hkn : (k : Int) < n := by omega
      obtain ⟨rfl, hg⟩ := HA.out (by omega)
      obtain ⟨f, hf⟩ : ∃ f, L[k]? = some f := ⟨_, List.getElem?_eq_getElem (by have := HN.out; omega)⟩
      have hra := range_below (HR.out k f hf) (hrb.symm ▸ hb) (hrb.symm ▸ hg)
      have l1 := ldX_at hra
      have ck : wr.cell? ⟨g, k * 6, none⟩ = some (.int .i64 f.l) := hra 0 _ rfl
      have HF : Hid (L[k]? = some f) := hf
      have HB : Hid (_ ∧ _) := ⟨hrm, hb⟩
      have HC : Hid (Calls _ _ _ _ _) := among_any s ns f.l wr (HL.out _ (hrb.symm ▸ HB.out.2))
      rw [HSS.out] at HC
      clear hf hra hrm hb
      cases hq : W.hasI ns f.l
      · have hm : decide (f.l ∈ ns) = false := by simpa using fun h => by simp [(W.hasI_mem _ _).2 h] at hq
        rw [hm] at HC
        clear hm
        have hvic : Hid (W.vic L ns = some f) := by
          show W.vic L ns = some f
          unfold W.vic
          rw [List.find?_eq_some_iff_getElem]
          have hkl := (List.getElem?_eq_some_iff.1 HF.out).1
          refine ⟨by simp [hq], k, hkl, (List.getElem?_eq_some_iff.1 HF.out).2, fun j hj => ?_⟩
          have := HO.out j _ hj (List.getElem?_eq_getElem (by omega))
          simp [this]
        have hst2 := HB.out.1.st f
        have hld2 : Hid _ := (HB.out.1.set f).ld
        have HFI : Hid (Below rb w (wr.setRow rb (enL f).toArray)) := HB.out.2.grown (gsetRow _ _ _) (by have := HB.out.2.size; omega) (fun b e => by cases e; exact Nat.le_refl _)
        clear hq
        go_wp2_with (fail)
        refine HC.out.mono ?_
        rintro e w2 ⟨rfl, rfl⟩
        go_wp2
        exact bodyPost_ret (v := .tuple #[enV f, .bool true]) (by simp [results, Tryd.results20, asAddr, ldX_eq, hld2.out]) rfl ⟨by rw [hvic.out]; rfl, HFI.out⟩
      · have hm : decide (f.l ∈ ns) = true := decide_eq_true ((W.hasI_mem _ _).1 hq)
        rw [hm] at HC
        clear hm
        have hO2 : Hid (∀ i z, i < k + 1 → L[i]? = some z → W.hasI ns z.l = true) := fun i z hi hz => by
          by_cases q : i = k
          · subst q
            rw [HF.out] at hz
            cases hz
            exact hq
          · exact HO.out i z (by omega) hz
        clear hq
        go_wp2_with (fail)
        refine HC.out.mono ?_
        rintro e w2 ⟨rfl, rfl⟩
        go_wp2
        go_roundw
        case rel => exact ⟨k + 1, by omega, by go_num, hO2.out, HB.out.1, HB.out.2⟩
        case measure => simp [intOf]; omega
    · have hvic : Hid (W.vic L ns = none) := by
        show W.vic L ns = none
        unfold W.vic
        rw [List.find?_eq_none]
        intro f hf
        obtain ⟨j, hj, rfl⟩ := List.getElem_of_mem hf
        have := HO.out j _ (by have := HN.out; omega) (List.getElem?_eq_getElem hj)
        simp [this]
      have bd := fun w => (show (bdX #[]).run Tryd.prog w = .ok (enV W.en0) w by kernel_rfl)
      have hst2 := hrm.st W.en0
      have hld2 : Hid _ := (hrm.set W.en0).ld
      have HFI : Hid (Below rb w (wr.setRow rb (enL W.en0).toArray)) := hb.grown (gsetRow _ _ _) (by have := hb.size; omega) (fun b e => by cases e; exact Nat.le_refl _)
      clear hrm hb
      go_wp2
      exact bodyPost_ret (v := .tuple #[enV W.en0, .bool false]) (by simp [results, Tryd.results20, asAddr, ldX_eq, hld2.out]) rfl ⟨by rw [hvic.out]; rfl, HFI.out⟩
theorem rvictim_neg (s : W.Sl) (x : Int) (hx : x < 0) (w : World) :
    Calls Tryd.prog 20 #[.pointer (some ⟨cb, 0, none⟩), .int .i64 x, slV s] w fun e w' => e = .returned (.tuple #[enV W.en0, .bool false]) ∧ Below w.heap.size w w' := by
  have hba := below_alloc w (.cells z6 42)
  have hrm := exRoom_new w z6 rfl
  have bd := fun w => (show (bdX #[]).run Tryd.prog w = .ok (enV W.en0) w by kernel_rfl)
  have hst2 := hrm.st W.en0
  have hld2 : Hid _ := (hrm.set W.en0).ld
  have HFI : Hid (Below w.heap.size w ((w.alloc (.cells z6 42)).setRow w.heap.size (enL W.en0).toArray)) := hba.grown (gsetRow _ _ _) (by have := hba.size; omega) (fun b e => by cases e; exact Nat.le_refl _)
  clear hba hrm
  unfold z6 at hst2 hld2 HFI
  generalize slV s = vs
  go_enter Tryd.func20, Tryd.ntmps20
  go_wp2
  exact bodyPost_ret (v := .tuple #[enV W.en0, .bool false]) (by simp [results, Tryd.results20, asAddr, ldX_eq, hld2.out]) rfl ⟨rfl, HFI.out⟩
end Go.Proofs.YtlindkhmjkionaaDoor
