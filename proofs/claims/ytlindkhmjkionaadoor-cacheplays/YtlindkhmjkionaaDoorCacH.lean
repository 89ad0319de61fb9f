/- cache: Contains, Victim, New. -/
import Derived.Test.YtlindkhmjkionaaDoorCacG
namespace Go.Proofs.YtlindkhmjkionaaDoor
open Go.ChangeShapes Go.WideShapes Go.ChangeAt Go.RowKit
set_option linter.unusedVariables false
set_option linter.unusedSimpArgs false
attribute [local go_sem ↓] ldE_eq stE_eq bdE_eq bsE_eq
variable {n0 cb sb K : Nat} {ways : Int} {sv sv' sv'' : Nat → Value} {S S' : Nat → List W.En} {w w' w'' : World}

/-- The first that has this number: its place. -/
def W.pos (l : List Int) (x : Int) : Int := match l.findIdx? (fun y => decide (x = y)) with | some k => k | none => -1
theorem W.pos_at {l : List Int} {x : Int} {k : Nat} (hk : l[k]? = some x) (hlt : ∀ j y, j < k → l[j]? = some y → x ≠ y) : W.pos l x = k := by
  have h : l.findIdx? (fun y => decide (x = y)) = some k := by
    have hkl := (List.getElem?_eq_some_iff.1 hk).1
    rw [List.findIdx?_eq_some_iff_getElem]
    refine ⟨hkl, by have := (List.getElem?_eq_some_iff.1 hk).2; simp [this], fun j hj => ?_⟩
    have := hlt j _ hj (List.getElem?_eq_getElem (by omega))
    simpa using this
  unfold W.pos
  rw [h]
theorem W.pos_no {l : List Int} {x : Int} (h : ∀ y ∈ l, x ≠ y) : W.pos l x = -1 := by
  have e : l.findIdx? (fun y => decide (x = y)) = none := List.findIdx?_eq_none_iff.2 (fun y hy => by simpa using h y hy)
  unfold W.pos
  rw [e]
set_option maxHeartbeats 1600000 in
theorem index_i (s : W.Sl) (l : List Int) (x : Int) (w : World) (hl : Li s l w) : Calls Tryd.prog 46 #[slV s, .int .i64 x] w fun e w' => e = .returned (.int .i64 (W.pos l x)) ∧ w = w' := by
  obtain ⟨a, n, c⟩ := s
  obtain ⟨hn, hm, hnc, hat⟩ := hl
  dsimp only at hn hm hnc hat
  have HN : Hid (n = l.length) := hn
  have HA : Hid (0 < n → ∃ b o, a = some ⟨b, o, none⟩ ∧ b < w.heap.size ∧ ∀ j x, l[j]? = some x → w.cell? ⟨b, o + j, none⟩ = some (.int .i64 x)) := hat
  clear hn hat
  unfold slV
  go_enter Tryd.func46, Tryd.ntmps46
  go_wp2
  go_loopw [8] (fun j wr => ∃ k : Nat, k ≤ n ∧ j = .int .i64 k ∧ (∀ i y, i < k → l[i]? = some y → x ≠ y) ∧ w = wr) (fun j _ => n - (intOf j).toNat)
  case atStart => exact ⟨0, by omega, rfl, fun i y h => by omega, rfl⟩
  case round =>
    obtain ⟨k, hk, rfl, hno, rfl⟩ := hrel
    have HO : Hid (∀ i y, i < k → l[i]? = some y → x ≠ y) := hno
    clear hno
    by_cases h : k < n
    · have hkn : (k : Int) < n := by omega
      obtain ⟨b, o, rfl, hb, hc⟩ := HA.out (by omega)
      obtain ⟨y, hy⟩ : ∃ y, l[k]? = some y := ⟨_, List.getElem?_eq_getElem (by have := HN.out; omega)⟩
      have ck := hc k y hy
      have HY : Hid (l[k]? = some y) := hy
      clear hc hy
      by_cases e : x = y
      · subst e
        have HP : Hid (W.pos l x = k) := W.pos_at HY.out HO.out
        go_wp2
        go_ret
        rw [HP.out]
        exact ⟨rfl, rfl⟩
      · have hne : (x == y) = false := by simpa using e
        have hO2 : Hid (∀ i z, i < k + 1 → l[i]? = some z → x ≠ z) := fun i z hi hz => by
          by_cases q : i = k
          · subst q
            rw [HY.out] at hz
            cases hz
            exact e
          · exact HO.out i z (by omega) hz
        go_wp2
        go_roundw
        case rel => exact ⟨k + 1, by omega, by go_num, hO2.out, by first | rfl | trivial⟩
        case measure => simp [intOf]; omega
    · have HP : Hid (W.pos l x = -1) := W.pos_no (fun y hy => by
        obtain ⟨j, hj, rfl⟩ := List.getElem_of_mem hy
        exact HO.out j _ (by have := HN.out; omega) (List.getElem?_eq_getElem hj))
      go_wp2
      go_ret
      rw [HP.out]
      exact ⟨rfl, rfl⟩
def W.hasI (l : List Int) (x : Int) : Bool := l.any (fun y => decide (x = y))
theorem W.hasI_mem (l : List Int) (x : Int) : W.hasI l x = true ↔ x ∈ l := by unfold W.hasI; simp
theorem W.pos_has (l : List Int) (x : Int) : decide (0 ≤ W.pos l x) = W.hasI l x := by
  cases h : W.hasI l x
  · have : ∀ y ∈ l, x ≠ y := fun y hy e => by
      have : W.hasI l x = true := (W.hasI_mem l x).2 (e ▸ hy)
      rw [h] at this
      cases this
    rw [W.pos_no this]
    rfl
  · have hm := (W.hasI_mem l x).1 h
    unfold W.pos
    cases q : l.findIdx? (fun y => decide (x = y)) with
    | none =>
      have := List.findIdx?_eq_none_iff.1 q x hm
      simp at this
    | some k => exact decide_eq_true (Int.natCast_nonneg k)
theorem contains_any (s : W.Sl) (l : List Int) (x : Int) (w : World) (hl : Li s l w) : Calls Tryd.prog 37 #[slV s, .int .i64 x] w fun e w' => e = .returned (.bool (W.hasI l x)) ∧ w = w' := by
  have HI : Hid (Calls _ _ _ _ _) := index_i s l x w hl
  have HP : Hid (_) := W.pos_has l x
  rw [← HP.out]
  generalize W.pos l x = p at *
  generalize hs : slV s = v at *
  clear hl HP
  by_cases h : 0 ≤ p
  · rw [decide_eq_true h]
    go_enter Tryd.func37, Tryd.ntmps37
    go_wp2_with (fail)
    refine HI.out.mono ?_
    rintro e w1 ⟨rfl, rfl⟩
    go_wp2
    go_ret
    exact ⟨rfl, rfl⟩
  · rw [decide_eq_false h]
    have hd : decide (0 ≤ p) = false := decide_eq_false h
    go_enter Tryd.func37, Tryd.ntmps37
    go_wp2_with (fail)
    refine HI.out.mono ?_
    rintro e w1 ⟨rfl, rfl⟩
    go_wp2
    go_ret
    exact ⟨rfl, rfl⟩

/-- The one that is given up. -/
def W.vic (l : List W.En) (ns : List Int) : Option W.En := l.find? (fun e => !W.hasI ns e.l)
set_option maxRecDepth 10000 in
set_option maxHeartbeats 1600000 in
theorem victim_any (s : W.Sl) (ns : List Int) (H : Ct n0 cb sb K ways sv S w) (hK : 0 < K) (hS : ∀ i, i < K → (S i).length ≤ 4096) (x : Int) (hl : Li s ns w) :
    Calls Tryd.prog 19 #[.pointer (some ⟨cb, 0, none⟩), .int .i64 x, slV s] w fun e w' => e = .returned (.tuple #[enV ((W.vic (W.st K S x) ns).getD W.en0), .bool (W.vic (W.st K S x) ns).isSome]) ∧ Below w.heap.size w w' := by
  have hlen := W.st_len hS hK x
  have HH : Hid (Ct n0 cb sb K ways sv S w) := H
  have bd := bdE_0
  have hrw := H.rwst hK x
  obtain ⟨g, a, cap, hv, hcap, ha, hrd⟩ := hrw
  have HV : Hid (stV K sv x = .slice a (W.st K S x).length cap) := hv
  have HL : Hid (∀ w', Below w.heap.size w w' → Li s ns w') := fun w' hb => hl.below hb
  have HR : Hid (∀ j f, (W.st K S x)[j]? = some f → w.rangeAt g (j * 6) (enL f)) := hrd
  have HA : Hid (0 < (W.st K S x).length → a = some ⟨g, 0, none⟩ ∧ g < w.heap.size) := ha
  clear H hl hv hrd ha
  generalize hss : slV s = vs
  have HSS : Hid (slV s = vs) := hss
  clear hss
  generalize hLL : W.st K S x = L at *
  clear hLL
  generalize hnn : L.length = n at *
  have HN : Hid (L.length = n) := hnn
  clear hnn
  go_enter Tryd.func19, Tryd.ntmps19
  go_wp2_with (fail)
  have hba := below_alloc w (.cells z6 37)
  have hrm := enRoom_new w z6 rfl
  generalize hrb : w.heap.size = rb at *
  generalize World.alloc w _ = W0 at *
  refine (set_any (HH.out.below (hrb.symm ▸ hba)) hK x).mono ?_
  rintro e w1 ⟨rfl, hb1⟩
  rw [HV.out]
  have HB1 : Hid (EnRoom rb w1 ∧ Below rb w w1) := ⟨hrm.below hb1, hba.trans (hb1.mono (Nat.le_of_lt hrm.lt))⟩
  clear hba hrm hb1
  go_wp2_with (fail)
  go_loopw [14] (fun j wr => ∃ k : Nat, k ≤ n ∧ j = .int .i64 k ∧ (∀ i f, i < k → L[i]? = some f → W.hasI ns f.l = true) ∧ EnRoom rb wr ∧ Below rb w wr) (fun j _ => n - (intOf j).toNat)
  case atStart => exact ⟨0, by omega, rfl, fun i f h => by omega, HB1.out.1, HB1.out.2⟩
  case round =>
    obtain ⟨k, hk, rfl, hno, hrm, hb⟩ := hrel
    have HO : Hid (∀ i f, i < k → L[i]? = some f → W.hasI ns f.l = true) := hno
    clear hno HB1
    by_cases h : k < n
    · have hkn : (k : Int) < n := by omega
      obtain ⟨rfl, hg⟩ := HA.out (by omega)
      obtain ⟨f, hf⟩ : ∃ f, L[k]? = some f := ⟨_, List.getElem?_eq_getElem (by have := HN.out; omega)⟩
      have l1 := ldE_at (range_below (HR.out k f hf) (hrb.symm ▸ hb) (hrb.symm ▸ hg))
      have hst := stE_new wr f z6 rfl
      have hba := below_alloc wr (.cells (enL f).toArray 37)
      have hE := enAt_new wr f
      have hrb1 : rb ≤ wr.heap.size := Nat.le_of_lt hrm.lt
      have hrb2 : rb ≠ wr.heap.size := Nat.ne_of_lt hrm.lt
      have HF : Hid (L[k]? = some f) := hf
      have c0 : (wr.alloc (.cells (enL f).toArray 37)).cell? ⟨wr.heap.size, 0, none⟩ = some (.int .i64 f.l) := hE.cAt 0 (by decide)
      have hld := hE.ld
      have HB : Hid (_ ∧ _ ∧ _) := ⟨hrm.below hba, hb.trans (hba.mono hrb1), hE⟩
      have HC : Hid (Calls _ _ _ _ _) := contains_any s ns f.l (wr.alloc (.cells (enL f).toArray 37)) (HL.out _ (hrb.symm ▸ HB.out.2.1))
      rw [HSS.out] at HC
      clear hf hba hE hrm hb
      cases hq : W.hasI ns f.l
      · rw [hq] at HC
        have hvic : Hid (W.vic L ns = some f) := by
          show W.vic L ns = some f
          unfold W.vic
          rw [List.find?_eq_some_iff_getElem]
          have hkl := (List.getElem?_eq_some_iff.1 HF.out).1
          refine ⟨by simp [hq], k, hkl, (List.getElem?_eq_some_iff.1 HF.out).2, fun j hj => ?_⟩
          have := HO.out j _ hj (List.getElem?_eq_getElem (by omega))
          simp [this]
        clear hq
        go_wp2_with (fail)
        refine HC.out.mono ?_
        rintro e w2 ⟨rfl, rfl⟩
        have hst2 := HB.out.1.st f
        have hld2 := (HB.out.1.set f).ld
        have hfin : Below rb w ((wr.alloc (.cells (enL f).toArray 37)).setRow rb (enL f).toArray) := HB.out.2.1.grown (gsetRow _ _ _) (by have := HB.out.2.1.size; omega) (fun b e => by cases e; exact Nat.le_refl _)
        have HFI : Hid (_) := hfin
        clear hfin hst l1
        go_wp2
        exact bodyPost_ret (v := .tuple #[enV f, .bool true]) (by simp [results, Tryd.results19, asAddr, ldE_eq, hld2]) rfl ⟨by rw [hvic.out]; rfl, by rw [hrb]; exact HFI.out⟩
      · rw [hq] at HC
        have hO2 : Hid (∀ i z, i < k + 1 → L[i]? = some z → W.hasI ns z.l = true) := fun i z hi hz => by
          by_cases q : i = k
          · subst q
            rw [HF.out] at hz
            cases hz
            exact hq
          · exact HO.out i z (by omega) hz
        clear hq
        go_wp2_with (fail)
        refine HC.out.mono ?_
        rintro e w2 ⟨rfl, rfl⟩
        clear hst l1
        go_wp2
        go_roundw
        case rel => exact ⟨k + 1, by omega, by go_num, hO2.out, HB.out.1, HB.out.2.1⟩
        case measure => simp [intOf]; omega
    · have hvic : Hid (W.vic L ns = none) := by
        show W.vic L ns = none
        unfold W.vic
        rw [List.find?_eq_none]
        intro f hf
        obtain ⟨j, hj, rfl⟩ := List.getElem_of_mem hf
        have := HO.out j _ (by have := HN.out; omega) (List.getElem?_eq_getElem hj)
        simp [this]
      have hst2 := hrm.st W.en0
      have hld2 := (hrm.set W.en0).ld
      have hfin : Below rb w (wr.setRow rb (enL W.en0).toArray) := hb.grown (gsetRow _ _ _) (by have := hb.size; omega) (fun b e => by cases e; exact Nat.le_refl _)
      have HFI : Hid (_) := hfin
      clear hfin hrm hb
      go_wp2
      exact bodyPost_ret (v := .tuple #[enV W.en0, .bool false]) (by simp [results, Tryd.results19, asAddr, ldE_eq, hld2]) rfl ⟨by rw [hvic.out]; rfl, by rw [hrb]; exact HFI.out⟩

end Go.Proofs.YtlindkhmjkionaaDoor
