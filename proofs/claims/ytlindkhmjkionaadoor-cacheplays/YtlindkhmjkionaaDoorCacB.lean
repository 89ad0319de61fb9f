/- cache: index, set, place. -/
import Derived.Test.YtlindkhmjkionaaDoorCacA
import Derived.Deep.RegionHeld3
import Derived.Deep.RegionWith
namespace Go.Proofs.YtlindkhmjkionaaDoor
open Go.ChangeShapes Go.WideShapes Go.ChangeAt Go.RowKit
set_option linter.unusedVariables false
set_option linter.unusedSimpArgs false
attribute [local go_sem ↓] ldE_eq stE_eq bdE_eq bsE_eq

/-- A list of entries that can be read. -/
def Rw (v : Value) (l : List W.En) (w : World) : Prop := ∃ g a cap, v = .slice a l.length cap ∧ l.length ≤ cap ∧ (0 < l.length → a = some ⟨g, 0, none⟩ ∧ g < w.heap.size) ∧ ∀ j f, l[j]? = some f → w.rangeAt g (j * 6) (enL f)
variable {n0 cb sb K : Nat} {ways : Int} {sv sv' sv'' : Nat → Value} {S S' : Nat → List W.En} {w w' w'' : World}
theorem own_rw {v : Value} {l : List W.En} (ho : w.ownsRow n0 37 6 v l.length (enX l)) : Rw v l w := by
  have HO := ho
  rcases ho.2 with ⟨h1, h2⟩ | ⟨g, cap, cur, h1, hbg, hg, hnc, hcm, hcs, htk⟩
  · exact ⟨0, none, 0, by rw [h1, h2], by omega, fun h => by omega, fun j f hf => by have := (List.getElem?_eq_some_iff.1 hf).1; omega⟩
  · refine ⟨g, some ⟨g, 0, none⟩, cap, h1, hnc, fun _ => ⟨rfl, (Array.getElem?_eq_some_iff.1 hg).1⟩, fun j f hf i v hv => ?_⟩
    have hi : i < 6 := (List.getElem?_eq_some_iff.1 hv).1
    have hj : j < l.length := (List.getElem?_eq_some_iff.1 hf).1
    rw [h1] at HO
    rw [HO.cellAt (j * 6 + i) (by omega), enX_get l j i f hf hi]
    exact hv
theorem Rw.nil : Rw (.slice none 0 0) [] w := ⟨0, none, 0, rfl, Nat.le_refl _, fun h => absurd h (by simp), fun j f hf => by simp at hf⟩
theorem Rw.below {v : Value} {l : List W.En} (h : Rw v l w) (hb : Below w.heap.size w w') : Rw v l w' := by
  obtain ⟨g, a, cap, h1, h2, h3, h4⟩ := h
  refine ⟨g, a, cap, h1, h2, fun q => ⟨(h3 q).1, Nat.lt_of_lt_of_le (h3 q).2 hb.size⟩, fun j f hf => range_below (h4 j f hf) hb (h3 ?_).2⟩
  have := (List.getElem?_eq_some_iff.1 hf).1
  omega
theorem Ct.rw_ (H : Ct n0 cb sb K ways sv S w) {i : Nat} (hi : i < K) : Rw (sv i) (S i) w := own_rw (H.o i hi)

theorem place1_any (f : W.En) (x : Int) (lb : Nat) (w : World) (hc : w.cell? ⟨lb, 0, none⟩ = some (.int .i64 x)) : Calls Tryd.prog 45 #[enV f, .pointer (some ⟨lb, 0, none⟩)] w fun e w' => e = .returned (.bool (W.is x f)) ∧ Below w.heap.size w w' := by
  have hl := World.block_lt_of_cell? _ _ hc
  have hx : ∀ o, (w.alloc o).cell? ⟨lb, 0, none⟩ = some (.int .i64 x) := fun o => ((below_alloc w o).cell (p := ⟨lb, 0, none⟩) hl).trans hc
  unfold W.is
  unfold enV enL
  clear hc
  by_cases h : f.l = x
  · rw [decide_eq_true h]
    subst h
    go_enter Tryd.func45, Tryd.ntmps45
    go_wp2
    go_ret
    exact ⟨rfl, below_alloc _ _⟩
  · rw [decide_eq_false h]
    have hb : (f.l == x) = false := by simpa using h
    go_enter Tryd.func45, Tryd.ntmps45
    go_wp2
    go_ret
    exact ⟨rfl, below_alloc _ _⟩

set_option maxHeartbeats 1600000 in
theorem idx_hit (x : Int) (lb : Nat) (L1 L2 : List W.En) (f : W.En) (hf : f.l = x) (h1 : ∀ e ∈ L1, e.l ≠ x) (hL : (L1 ++ f :: L2).length ≤ 4096) (v : Value) (w : World) (hr : Rw v (L1 ++ f :: L2) w) (hc : w.cell? ⟨lb, 0, none⟩ = some (.int .i64 x)) :
    Calls Tryd.prog 44 #[v, .func (.func 45) #[] #[.pointer (some ⟨lb, 0, none⟩)]] w fun e w' => e = .returned (.int .i64 L1.length) ∧ Below w.heap.size w w' := by
  obtain ⟨g, a, cap, rfl, hcap, ha, hrd⟩ := hr
  have hn : (L1 ++ f :: L2).length = L1.length + 1 + L2.length := by simp; omega
  obtain ⟨rfl, hg⟩ := ha (by omega)
  have hl := World.block_lt_of_cell? _ _ hc
  have HR : Hid (∀ j e, (L1 ++ f :: L2)[j]? = some e → w.rangeAt g (j * 6) (enL e)) := hrd
  have HC : Hid (∀ w' : World, Below w.heap.size w w' → w'.cell? ⟨lb, 0, none⟩ = some (.int .i64 x)) := fun w' hb => (hb.cell (p := ⟨lb, 0, none⟩) hl).trans hc
  have HF : Hid (f.l = x ∧ ∀ e ∈ L1, e.l ≠ x) := ⟨hf, h1⟩
  have HN : Hid ((L1 ++ f :: L2).length = L1.length + 1 + L2.length) := hn
  have hin : L1.length < (L1 ++ f :: L2).length := by omega
  clear hrd hc hf h1 ha hn
  generalize hnn : (L1 ++ f :: L2).length = n at *
  generalize hi : L1.length = i at *
  have HI : Hid (L1.length = i) := hi
  clear hnn hi
  go_enter Tryd.func44, Tryd.ntmps44
  go_wp2
  go_loopw [8] (fun j wr => ∃ k : Nat, k ≤ i ∧ j = .int .i64 k ∧ Below w.heap.size w wr) (fun j _ => n - (intOf j).toNat)
  case atStart => exact ⟨0, by omega, rfl, Below.refl _ _⟩
  case round =>
    obtain ⟨k, hk, rfl, hB⟩ := hrel
    have HB : Hid (_) := hB
    clear hB
    have hkn : (k : Int) < n := by omega
    by_cases h : k < i
    · obtain ⟨e, he⟩ : ∃ e, L1[k]? = some e := ⟨_, List.getElem?_eq_getElem (by have := HI.out; omega)⟩
      have he' : (L1 ++ f :: L2)[k]? = some e := by rw [List.getElem?_append_left (by have := HI.out; omega)]; exact he
      have hd : W.is x e = false := decide_eq_false (HF.out.2 e (List.mem_of_getElem? he))
      have l1 := ldE_at (range_below (HR.out k e he') HB.out hg)
      have HD : Hid (W.is x e = false) := hd
      clear hd he he'
      go_wp2_with (first | (go_at_call 45; refine (place1_any e x lb _ (HC.out _ HB.out)).mono ?_; rintro e w' ⟨rfl, hb'⟩; rw [HD.out]))
      have hB2 := HB.out.trans (hb'.mono HB.out.size)
      clear hb' l1 HB
      go_roundw
      case rel => exact ⟨k + 1, by omega, by go_num, hB2⟩
      case measure => simp [intOf]; omega
    · obtain rfl : k = i := by omega
      have he' : (L1 ++ f :: L2)[k]? = some f := by rw [List.getElem?_append_right (by have := HI.out; omega)]; simp [HI.out]
      have hd : W.is x f = true := decide_eq_true HF.out.1
      have l1 := ldE_at (range_below (HR.out k f he') HB.out hg)
      have HD : Hid (W.is x f = true) := hd
      clear hd he'
      go_wp2_with (first | (go_at_call 45; refine (place1_any f x lb _ (HC.out _ HB.out)).mono ?_; rintro e w' ⟨rfl, hb'⟩; rw [HD.out]))
      go_ret
      exact ⟨rfl, HB.out.trans (hb'.mono HB.out.size)⟩

set_option maxHeartbeats 1600000 in
theorem idx_miss (x : Int) (lb : Nat) (L : List W.En) (h1 : ∀ e ∈ L, e.l ≠ x) (hL : L.length ≤ 4096) (v : Value) (w : World) (hr : Rw v L w) (hc : w.cell? ⟨lb, 0, none⟩ = some (.int .i64 x)) :
    Calls Tryd.prog 44 #[v, .func (.func 45) #[] #[.pointer (some ⟨lb, 0, none⟩)]] w fun e w' => e = .returned (.int .i64 (-1)) ∧ Below w.heap.size w w' := by
  obtain ⟨g, a, cap, rfl, hcap, ha, hrd⟩ := hr
  have hl := World.block_lt_of_cell? _ _ hc
  have HR : Hid (∀ j e, L[j]? = some e → w.rangeAt g (j * 6) (enL e)) := hrd
  have HC : Hid (∀ w' : World, Below w.heap.size w w' → w'.cell? ⟨lb, 0, none⟩ = some (.int .i64 x)) := fun w' hb => (hb.cell (p := ⟨lb, 0, none⟩) hl).trans hc
  have HF : Hid (∀ e ∈ L, e.l ≠ x) := h1
  clear hrd hc h1
  generalize hnn : L.length = n at *
  have HN : Hid (L.length = n) := hnn
  have HA : Hid (0 < n → a = some ⟨g, 0, none⟩ ∧ g < w.heap.size) := ha
  clear hnn ha
  go_enter Tryd.func44, Tryd.ntmps44
  go_wp2
  go_loopw [8] (fun j wr => ∃ k : Nat, k ≤ n ∧ j = .int .i64 k ∧ Below w.heap.size w wr) (fun j _ => n - (intOf j).toNat)
  case atStart => exact ⟨0, by omega, rfl, Below.refl _ _⟩
  case round =>
    obtain ⟨k, hk, rfl, hB⟩ := hrel
    have HB : Hid (_) := hB
    clear hB
    by_cases h : k < n
    · obtain ⟨rfl, hg⟩ := HA.out (by omega)
      obtain ⟨e, he⟩ : ∃ e, L[k]? = some e := ⟨_, List.getElem?_eq_getElem (by have := HN.out; omega)⟩
      have hd : W.is x e = false := decide_eq_false (HF.out e (List.mem_of_getElem? he))
      have l1 := ldE_at (range_below (HR.out k e he) HB.out hg)
      have HD : Hid (W.is x e = false) := hd
      clear hd he
      go_wp2_with (first | (go_at_call 45; refine (place1_any e x lb _ (HC.out _ HB.out)).mono ?_; rintro e w' ⟨rfl, hb'⟩; rw [HD.out]))
      have hB2 := HB.out.trans (hb'.mono HB.out.size)
      clear hb' l1 HB
      go_roundw
      case rel => exact ⟨k + 1, by omega, by go_num, hB2⟩
      case measure => simp [intOf]; omega
    · go_wp2
      go_ret
      exact ⟨rfl, HB.out⟩

set_option maxHeartbeats 1600000 in
theorem place_hit (x : Int) (L1 L2 : List W.En) (f : W.En) (hf : f.l = x) (h1 : ∀ e ∈ L1, e.l ≠ x) (hL : (L1 ++ f :: L2).length ≤ 4096) (v : Value) (w : World) (hr : Rw v (L1 ++ f :: L2) w) :
    Calls Tryd.prog 34 #[v, .int .i64 x] w fun e w' => e = .returned (.int .i64 L1.length) ∧ Below w.heap.size w w' := by
  have hb := below_alloc w (.cells #[.int .i64 x] 3)
  have hc : (w.alloc (.cells #[.int .i64 x] 3)).cell? ⟨w.heap.size, 0, none⟩ = some (.int .i64 x) := by simp [go_sem]
  have HI := idx_hit x w.heap.size L1 L2 f hf h1 hL v _ (hr.below hb) hc
  have HH : Hid (Calls _ _ _ _ _) := HI
  have HB : Hid (_) := hb
  clear HI hr hf h1 hL hc hb
  go_enter Tryd.func34, Tryd.ntmps34
  go_wp2_with (fail)
  refine HH.out.mono ?_
  rintro e w' ⟨rfl, hb'⟩
  go_wp2
  go_ret
  exact ⟨rfl, HB.out.trans (hb'.mono HB.out.size)⟩
set_option maxHeartbeats 1600000 in
theorem place_miss (x : Int) (L : List W.En) (h1 : ∀ e ∈ L, e.l ≠ x) (hL : L.length ≤ 4096) (v : Value) (w : World) (hr : Rw v L w) :
    Calls Tryd.prog 34 #[v, .int .i64 x] w fun e w' => e = .returned (.int .i64 (-1)) ∧ Below w.heap.size w w' := by
  have hb := below_alloc w (.cells #[.int .i64 x] 3)
  have hc : (w.alloc (.cells #[.int .i64 x] 3)).cell? ⟨w.heap.size, 0, none⟩ = some (.int .i64 x) := by simp [go_sem]
  have HI := idx_miss x w.heap.size L h1 hL v _ (hr.below hb) hc
  have HH : Hid (Calls _ _ _ _ _) := HI
  have HB : Hid (_) := hb
  clear HI hr h1 hL hc hb
  go_enter Tryd.func34, Tryd.ntmps34
  go_wp2_with (fail)
  refine HH.out.mono ?_
  rintro e w' ⟨rfl, hb'⟩
  go_wp2
  go_ret
  exact ⟨rfl, HB.out.trans (hb'.mono HB.out.size)⟩

/-- The number of a line's set. -/
def W.ix (K : Nat) (x : Int) : Nat := (x % (K : Int)).toNat
theorem W.ix_lt {K : Nat} (hK : 0 < K) (x : Int) : W.ix K x < K := by
  unfold W.ix
  have := Int.emod_lt_of_pos x (show (0 : Int) < K by omega)
  have := Int.emod_nonneg x (show (K : Int) ≠ 0 by omega)
  omega
theorem index_c (c1 : w.cell? ⟨cb, 1, none⟩ = some (.slice (some ⟨sb, 0, none⟩) K K)) (hK : 0 < K) (x : Int) (hx : 0 ≤ x) : Calls Tryd.prog 36 #[.pointer (some ⟨cb, 0, none⟩), .int .i64 x] w fun e w' => e = .returned (.int .i64 (W.ix K x)) ∧ w' = w := by
  have e : ((W.ix K x : Nat) : Int) = x % (K : Int) := by
    unfold W.ix
    have := Int.emod_nonneg x (show (K : Int) ≠ 0 by omega)
    omega
  rw [e]
  clear e
  have hK' : (0 : Int) < K := by omega
  go_enter Tryd.func36, Tryd.ntmps36
  go_wp2
  go_ret
  exact ⟨rfl, rfl⟩
theorem index_any (H : Ct n0 cb sb K ways sv S w) (hK : 0 < K) (x : Int) (hx : 0 ≤ x) : Calls Tryd.prog 36 #[.pointer (some ⟨cb, 0, none⟩), .int .i64 x] w fun e w' => e = .returned (.int .i64 (W.ix K x)) ∧ w = w' := (index_c H.c1 hK x hx).mono fun e w' h => ⟨h.1, h.2.symm⟩
/-- A line's set: none, if it is below 0. -/
def W.st (K : Nat) (S : Nat → List W.En) (x : Int) : List W.En := if x < 0 then [] else S (W.ix K x)
def stV (K : Nat) (sv : Nat → Value) (x : Int) : Value := if x < 0 then .slice none 0 0 else sv (W.ix K x)
theorem Ct.rwst (H : Ct n0 cb sb K ways sv S w) (hK : 0 < K) (x : Int) : Rw (stV K sv x) (W.st K S x) w := by
  unfold stV W.st
  by_cases h : x < 0
  · rw [if_pos h, if_pos h]; exact Rw.nil
  · rw [if_neg h, if_neg h]; exact H.rw_ (W.ix_lt hK x)
set_option maxHeartbeats 1600000 in
theorem set_any (H : Ct n0 cb sb K ways sv S w) (hK : 0 < K) (x : Int) : Calls Tryd.prog 33 #[.pointer (some ⟨cb, 0, none⟩), .int .i64 x] w fun e w' => e = .returned (stV K sv x) ∧ Below w.heap.size w w' := by
  unfold stV
  by_cases h : x < 0
  · rw [if_pos h]
    clear H
    go_enter Tryd.func33, Tryd.ntmps33
    go_wp2
    go_ret
    exact ⟨rfl, Below.refl _ _⟩
  · rw [if_neg h]
    have hi := W.ix_lt hK x
    have c1 := H.c1
    have c2 := H.s.c _ hi
    have HY : Hid (∀ n, Calls Tryd.prog 36 #[.pointer (some ⟨cb, 0, none⟩), .int .i64 x] (w.drewN n) fun e w' => e = .returned (.int .i64 (W.ix K x)) ∧ w' = w.drewN n) := fun n => index_c (by simpa using c1) hK x (by omega)
    have HH : Hid (Ct n0 cb sb K ways sv S w) := H
    clear H
    generalize sv (W.ix K x) = v at *
    generalize W.ix K x = i at *
    have hi' : (i : Int) < K := by omega
    go_enter Tryd.func33, Tryd.ntmps33
    go_wp2
    go_quiet ((go_at_call 36; exact Calls.quiet_of_same (HY.out _)))
    go_wp2
    go_ret
    exact ⟨rfl, below_drewN (Below.refl _ _) _⟩
end Go.Proofs.YtlindkhmjkionaaDoor
