/- the document's cache: find, Find. -/
import Derived.Test.YtlindkhmjkionaaDoorDacA
namespace Go.Proofs.YtlindkhmjkionaaDoor
open Go.ChangeShapes Go.WideShapes Go.ChangeAt Go.RowKit
set_option linter.unusedVariables false
set_option linter.unusedSimpArgs false
attribute [local go_sem ↓] ldE_eq stE_eq bdE_eq bsE_eq ldX_eq stX_eq bdX_eq bsX_eq
variable {n0 cb sb K : Nat} {ways : Int} {sv sv' sv'' : Nat → Value} {S S' : Nat → List W.En} {w w' w'' : World}

theorem W.ix_int {K : Nat} (hK : 0 < K) (x : Int) : ((W.ix K x : Nat) : Int) = x % (K : Int) := by
  unfold W.ix
  have := Int.emod_nonneg x (show (K : Int) ≠ 0 by omega)
  omega
theorem rfind_neg (x : Int) (hx : x < 0) (w : World) : Calls Tryd.prog 32 #[.pointer (some ⟨cb, 0, none⟩), .int .i64 x] w fun e w' => e = .returned (.tuple #[.int .i64 0, .int .i64 (-1)]) ∧ w = w' := by
  go_enter Tryd.func32, Tryd.ntmps32
  go_wp2
  exact bodyPost_ret (v := .tuple #[.int .i64 0, .int .i64 (-1)]) (by simp [results, Tryd.results32, go_sem]) rfl ⟨rfl, rfl⟩
/-- Where the line is: -1 where it is not. -/
def W.pl (l : List W.En) (x : Int) : Int := match l.findIdx? (W.is x) with | some k => k | none => -1
theorem W.pl_at {l : List W.En} {x : Int} {k : Nat} {f : W.En} (hk : l[k]? = some f) (hf : f.l = x) (hlt : ∀ j e, j < k → l[j]? = some e → e.l ≠ x) : W.pl l x = k := by
  have hkl := (List.getElem?_eq_some_iff.1 hk).1
  have h : l.findIdx? (W.is x) = some k := by
    rw [List.findIdx?_eq_some_iff_getElem]
    refine ⟨hkl, by have := (List.getElem?_eq_some_iff.1 hk).2; simp [this, W.is, hf], fun j hj => ?_⟩
    have := hlt j _ hj (List.getElem?_eq_getElem (by omega))
    simpa [W.is] using this
  unfold W.pl
  rw [h]
theorem W.pl_no {l : List W.En} {x : Int} (h : ∀ e ∈ l, e.l ≠ x) : W.pl l x = -1 := by
  have e : l.findIdx? (W.is x) = none := List.findIdx?_eq_none_iff.2 (fun y hy => by simpa [W.is] using h y hy)
  unfold W.pl
  rw [e]
theorem W.pl_mid (L1 L2 : List W.En) (f : W.En) (h1 : ∀ e ∈ L1, e.l ≠ f.l) : W.pl (L1 ++ f :: L2) f.l = L1.length :=
  W.pl_at (by rw [List.getElem?_append_right (Nat.le_refl _)]; simp) rfl (fun j e hj he => by
    rw [List.getElem?_append_left hj] at he
    exact h1 e (List.mem_of_getElem? he))

set_option maxRecDepth 10000 in
set_option maxHeartbeats 1600000 in
theorem rfind_any (H : Dt n0 cb sb K ways sv S w) (hK : 0 < K) (hS : ∀ i, i < K → (S i).length ≤ 4096) (x : Int) (hx : 0 ≤ x) :
    Calls Tryd.prog 32 #[.pointer (some ⟨cb, 0, none⟩), .int .i64 x] w fun e w' => e = .returned (.tuple #[.int .i64 (W.ix K x), .int .i64 (W.pl (S (W.ix K x)) x)]) ∧ w = w' := by
  have hi := W.ix_lt hK x
  have c0 := H.c0
  have c2 := H.c2
  have cs := H.s.c _ hi
  have hl := hS _ hi
  have hix := W.ix_int hK x
  obtain ⟨g, a, cap, hv, hcap, ha, hrd⟩ := H.rw_ hi
  rw [hv] at cs
  have HA : Hid (0 < (S (W.ix K x)).length → a = some ⟨g, 0, none⟩ ∧ g < w.heap.size) := ha
  have HR : Hid (∀ j f, (S (W.ix K x))[j]? = some f → w.rangeAt g (j * 6) (enL f)) := hrd
  clear H hv ha hrd hS
  generalize hsx : S (W.ix K x) = L at *
  clear hsx
  generalize hn : L.length = n at *
  have HN : Hid (L.length = n) := hn
  have HX : Hid ((W.ix K x : Int) = x % (K : Int)) := hix
  generalize hq : x % (K : Int) = q at *
  generalize W.ix K x = ix at *
  have hK' : (0 : Int) < K := by omega
  have hixk : (ix : Int) < K := by omega
  subst hix
  have HQ : Hid (x % (K : Int) = (ix : Int)) := hq
  clear hn HX
  go_enter Tryd.func32, Tryd.ntmps32
  go_wp2
  go_loopw [7] (fun u wr => ∃ k : Nat, k ≤ n ∧ u = .int .i64 k ∧ (∀ j e, j < k → L[j]? = some e → e.l ≠ x) ∧ w = wr) (fun u _ => n - (intOf u).toNat)
  case atStart => exact ⟨0, by omega, rfl, fun j e h => by omega, rfl⟩
  case round =>
    obtain ⟨k, hk, rfl, hno, rfl⟩ := hrel
    have HO : Hid (∀ j e, j < k → L[j]? = some e → e.l ≠ x) := hno
    clear hno
    by_cases h : k < n
    · have hkn : (k : Int) < n := by omega
      obtain ⟨rfl, hg⟩ := HA.out (by omega)
      obtain ⟨f, hf⟩ : ∃ f, L[k]? = some f := ⟨_, List.getElem?_eq_getElem (by have := HN.out; omega)⟩
      have ck : w.cell? ⟨g, k * 6, none⟩ = some (.int .i64 f.l) := HR.out k f hf 0 _ rfl
      have HF : Hid (L[k]? = some f) := hf
      clear hf
      by_cases e : f.l = x
      · have he : (f.l == x) = true := by simpa using e
        have HP : Hid (W.pl L x = k) := W.pl_at HF.out e HO.out
        clear e
        go_wp2
        exact bodyPost_ret (v := .tuple #[.int .i64 ix, .int .i64 k]) (by simp [results, Tryd.results32, go_sem]) rfl ⟨by rw [HP.out], rfl⟩
      · have he : (f.l == x) = false := by simpa using e
        have hO2 : Hid (∀ j y, j < k + 1 → L[j]? = some y → y.l ≠ x) := fun j y hj hy => by
          by_cases q : j = k
          · subst q
            rw [HF.out] at hy
            cases hy
            exact e
          · exact HO.out j y (by omega) hy
        clear e
        go_wp2
        go_roundw
        case rel => exact ⟨k + 1, by omega, by go_num, hO2.out, by first | rfl | trivial⟩
        case measure => simp [intOf]; omega
    · have HP : Hid (W.pl L x = -1) := W.pl_no (fun y hy => by
        obtain ⟨j, hj, e⟩ := List.getElem_of_mem hy
        exact e ▸ HO.out j _ (by have := HN.out; omega) (List.getElem?_eq_getElem hj))
      go_wp2
      exact bodyPost_ret (v := .tuple #[.int .i64 ix, .int .i64 (-1)]) (by simp [results, Tryd.results32, HQ.out, go_sem]) rfl ⟨by rw [HP.out], rfl⟩

set_option maxRecDepth 10000 in
set_option maxHeartbeats 1600000 in
theorem rFind_any (H : Dt n0 cb sb K ways sv S w) (hK : 0 < K) (hS : ∀ i, i < K → (S i).length ≤ 4096) (x : Int) :
    Calls Tryd.prog 18 #[.pointer (some ⟨cb, 0, none⟩), .int .i64 x] w fun e w' => e = .returned (.tuple #[enV (W.gt (W.st K S x) x), .bool (W.has (W.st K S x) x)]) ∧ Below w.heap.size w w' := by
  have HH : Hid (Dt n0 cb sb K ways sv S w) := H
  have bd := fun w => (show (bdX #[]).run Tryd.prog w = .ok (enV W.en0) w by kernel_rfl)
  clear H
  by_cases hx : x < 0
  · have hst : W.st K S x = [] := by unfold W.st; rw [if_pos hx]
    rw [hst]
    have hg : W.gt [] x = W.en0 := rfl
    have hh : W.has [] x = false := rfl
    rw [hg, hh]
    clear hg hh hst
    go_enter Tryd.func18, Tryd.ntmps18
    go_wp2_with (fail)
    have hba := below_alloc w (.cells z6 42)
    have hrm := exRoom_new w z6 rfl
    generalize World.alloc w _ = W0 at *
    refine (rfind_neg x hx W0).mono ?_
    rintro e w1 ⟨rfl, rfl⟩
    have hst := hrm.st W.en0
    have hld := (hrm.set W.en0).ld
    have hB : Below w.heap.size w (W0.setRow w.heap.size (enL W.en0).toArray) := hba.grown (gsetRow _ _ _) hba.size (fun b e => by cases e; exact Nat.le_refl _)
    have HB : Hid (_) := hB
    clear hba hrm hB
    go_wp2
    exact bodyPost_ret (v := .tuple #[enV W.en0, .bool false]) (by simp [results, Tryd.results18, asAddr, ldX_eq, hld]) rfl ⟨rfl, HB.out⟩
  · have hst : W.st K S x = S (W.ix K x) := by unfold W.st; rw [if_neg hx]
    have hi := W.ix_lt hK x
    rw [hst]
    have HF : Hid (∀ w', Below w.heap.size w w' → Calls Tryd.prog 32 #[.pointer (some ⟨cb, 0, none⟩), .int .i64 x] w' fun e w'' => e = .returned (.tuple #[.int .i64 (W.ix K x), .int .i64 (W.pl (S (W.ix K x)) x)]) ∧ w' = w'') := fun w' hb => rfind_any (HH.out.below hb) hK hS x (by omega)
    obtain ⟨g, a, cap, hv, hcap, ha, hrd⟩ := HH.out.rw_ hi
    have hl := hS _ hi
    cases hq : W.has (S (W.ix K x)) x
    · have hg : W.gt (S (W.ix K x)) x = W.en0 := by unfold W.gt; rw [W.fnd_none hq]; rfl
      rw [hg]
      rw [W.pl_no (W.has_false hq)] at HF
      clear hg hq hv ha hrd
      go_enter Tryd.func18, Tryd.ntmps18
      go_wp2_with (fail)
      have hba := below_alloc w (.cells z6 42)
      have hrm := exRoom_new w z6 rfl
      generalize World.alloc w _ = W0 at *
      refine (HF.out W0 hba).mono ?_
      rintro e w1 ⟨rfl, rfl⟩
      have hst := hrm.st W.en0
      have hld := (hrm.set W.en0).ld
      have hB : Below w.heap.size w (W0.setRow w.heap.size (enL W.en0).toArray) := hba.grown (gsetRow _ _ _) hba.size (fun b e => by cases e; exact Nat.le_refl _)
      have HB : Hid (_) := hB
      clear hba hrm hB
      go_wp2
      exact bodyPost_ret (v := .tuple #[enV W.en0, .bool false]) (by simp [results, Tryd.results18, asAddr, ldX_eq, hld]) rfl ⟨rfl, HB.out⟩
    · obtain ⟨L1, f, L2, hs, hfx, h1⟩ := W.split _ x hq
      have hg : W.gt (S (W.ix K x)) x = f := by unfold W.gt; rw [hs, ← hfx, W.fnd_mid L1 L2 f (by rw [hfx]; exact h1)]; rfl
      have hpl : W.pl (S (W.ix K x)) x = L1.length := by rw [hs, ← hfx]; exact W.pl_mid L1 L2 f (by rw [hfx]; exact h1)
      rw [hg]
      rw [hpl] at HF
      have hf : (S (W.ix K x))[L1.length]? = some f := by rw [hs, List.getElem?_append_right (Nat.le_refl _)]; simp
      have hlt := (List.getElem?_eq_some_iff.1 hf).1
      obtain ⟨rfl, hgl⟩ := ha (by omega)
      have HR : Hid (_) := hrd L1.length f hf
      have HV : Hid (sv (W.ix K x) = .slice (some ⟨g, 0, none⟩) (S (W.ix K x)).length cap) := hv
      clear hg hpl hq hs hfx h1 hf ha hrd hv
      generalize L1.length = i at *
      generalize (S (W.ix K x)).length = n at *
      have hin : (i : Int) < n := by omega
      have hixk : ((W.ix K x : Nat) : Int) < K := by omega
      go_enter Tryd.func18, Tryd.ntmps18
      go_wp2_with (fail)
      have hba := below_alloc w (.cells z6 42)
      have hrm := exRoom_new w z6 rfl
      generalize World.alloc w _ = W0 at *
      refine (HF.out W0 hba).mono ?_
      rintro e w1 ⟨rfl, rfl⟩
      have hD := HH.out.below hba
      have c2 := hD.c2
      have cs := hD.s.c _ hi
      rw [HV.out] at cs
      have l1 := ldX_at (range_below HR.out hba hgl)
      have hst := hrm.st f
      have hld := (hrm.set f).ld
      have hB : Below w.heap.size w (W0.setRow w.heap.size (enL f).toArray) := hba.grown (gsetRow _ _ _) hba.size (fun b e => by cases e; exact Nat.le_refl _)
      have HB : Hid (_) := hB
      generalize W.ix K x = ix at *
      clear hba hrm hB hD
      go_wp2
      exact bodyPost_ret (v := .tuple #[enV f, .bool true]) (by simp [results, Tryd.results18, asAddr, ldX_eq, hld]) rfl ⟨rfl, HB.out⟩
end Go.Proofs.YtlindkhmjkionaaDoor
