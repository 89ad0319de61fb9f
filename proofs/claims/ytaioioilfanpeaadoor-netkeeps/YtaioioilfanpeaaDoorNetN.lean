/- net: the search for a number. -/
import Derived.Test.YtaioioilfanpeaaDoorNetK
namespace Go.Proofs.YtaioioilfanpeaaDoor
open Go.ChangeShapes Go.WideShapes Go.ChangeAt Go.RowKit
set_option linter.unusedVariables false
set_option linter.unusedSimpArgs false

def cmpI (x y : Int) : Int := if x < y then -1 else if y < x then 1 else 0
theorem isnan_any (x : Int) (w : World) : Calls Tryd.prog 46 #[.int .i64 x] w fun e w' => e = .returned (.bool false) ∧ w = w' := by
  go_enter Tryd.func46, Tryd.ntmps46
  go_wp2
  go_ret
  exact ⟨rfl, rfl⟩
theorem compare_any (x y : Int) (w : World) : Calls Tryd.prog 43 #[.int .i64 x, .int .i64 y] w fun e w' => e = .returned (.int .i64 (cmpI x y)) ∧ w = w' := by
  unfold cmpI
  by_cases h1 : x < y
  · rw [if_pos h1]
    go_enter Tryd.func43, Tryd.ntmps43
    go_wp2_with (first | (go_at_call 46; refine (isnan_any _ _).mono ?_; rintro e w' ⟨rfl, rfl⟩))
    go_ret
    exact ⟨rfl, rfl⟩
  · rw [if_neg h1]
    by_cases h2 : y < x
    · rw [if_pos h2]
      go_enter Tryd.func43, Tryd.ntmps43
      go_wp2_with (first | (go_at_call 46; refine (isnan_any _ _).mono ?_; rintro e w' ⟨rfl, rfl⟩))
      go_ret
      exact ⟨rfl, rfl⟩
    · rw [if_neg h2]
      go_enter Tryd.func43, Tryd.ntmps43
      go_wp2_with (first | (go_at_call 46; refine (isnan_any _ _).mono ?_; rintro e w' ⟨rfl, rfl⟩))
      go_ret
      exact ⟨rfl, rfl⟩
theorem find1_any (f : W.Fl) (t : Int) (w : World) : Calls Tryd.prog 42 #[flV f, .int .i64 t] w fun e w' => e = .returned (.int .i64 (cmpI f.id t)) ∧ Below w.heap.size w w' := by
  unfold flV flL mgL
  go_enter Tryd.func42, Tryd.ntmps42
  go_wp2_with (first | (go_at_call 43; refine (compare_any _ _ _).mono ?_; rintro e w' ⟨rfl, rfl⟩))
  go_ret
  exact ⟨rfl, below_alloc _ _⟩
attribute [local go_sem ↓] ldF_eq

set_option maxRecDepth 10000 in
set_option maxHeartbeats 1600000 in
theorem search_any (g cap : Nat) (L : List W.Fl) (hL : L.length ≤ 16384) (hcap : L.length ≤ cap) (t : Int) (k : Nat) (hk : k ≤ L.length) (hlo : ∀ j f, j < k → L[j]? = some f → f.id < t) (hhi : ∀ j f, k ≤ j → L[j]? = some f → t ≤ f.id) (fb : Bool) (hfb : ∀ f, L[k]? = some f → (f.id = t ↔ fb = true)) (hf0 : k = L.length → fb = false) (w : World) (a : Option Addr) (hlt : 0 < L.length → a = some ⟨g, 0, none⟩ ∧ g < w.heap.size) (hr : ∀ j f, L[j]? = some f → w.rangeAt g (j * 12) (flL f)) :
    Calls Tryd.prog 41 #[.slice a L.length cap, .int .i64 t, .func (.func 42) #[] #[]] w fun e w' => e = .returned (.tuple #[.int .i64 k, .bool fb]) ∧ Below w.heap.size w w' := by
  generalize hn : L.length = n at *
  have HL : Hid (_ ∧ _ ∧ _ ∧ _) := ⟨hlo, hhi, hfb, hr⟩
  have HN : Hid (L.length = n) := hn
  have HF : Hid (k = n → fb = false) := hf0
  have HT : Hid (0 < n → a = some ⟨g, 0, none⟩ ∧ g < w.heap.size) := hlt
  clear hlo hhi hfb hr hn hf0 hlt
  go_enter Tryd.func41, Tryd.ntmps41
  go_wp2
  go_loopw [9, 10] (fun i j wr => ∃ a b : Nat, i = .int .i64 a ∧ j = .int .i64 b ∧ a ≤ k ∧ k ≤ b ∧ b ≤ n ∧ Below w.heap.size w wr) (fun i j _ => (intOf j).toNat - (intOf i).toNat)
  case atStart => exact ⟨0, n, rfl, rfl, by omega, hk, by omega, Below.refl _ _⟩
  case round =>
    obtain ⟨x, y, rfl, rfl, hx, hy, hyn, hB⟩ := hrel
    have HB : Hid (_) := hB
    clear hB
    by_cases hxy : x < y
    · obtain ⟨rfl, hg⟩ := HT.out (by omega)
      obtain ⟨m, hm⟩ : ∃ m : Nat, ((x : Int) + y) / 2 = (m : Int) := ⟨(((x : Int) + y) / 2).toNat, by omega⟩
      have hm1 : x ≤ m := by omega
      have hm2 : m < y := by omega
      have hmn : (m : Int) < n := by omega
      have hml : m < L.length := by have := HN.out; omega
      obtain ⟨f, hf⟩ : ∃ f, L[m]? = some f := ⟨_, List.getElem?_eq_getElem hml⟩
      have l1 := ldF_at (range_below (HL.out.2.2.2 m f hf) HB.out hg)
      by_cases hmk : m < k
      · have hc : cmpI f.id t = -1 := by unfold cmpI; rw [if_pos (HL.out.1 m f hmk hf)]
        have HC : Hid (cmpI f.id t = -1) := hc
        clear hc hf
        go_wp2_with (first | (go_at_call 42; refine (find1_any f t _).mono ?_; rintro e w' ⟨rfl, hb'⟩; rw [HC.out]))
        have hB2 := HB.out.trans (hb'.mono HB.out.size)
        clear hb' l1 HC HB
        go_roundw
        case rel => exact ⟨m + 1, y, by go_num, rfl, by omega, hy, hyn, hB2⟩
        case measure => simp [intOf]; omega
      · have hge := HL.out.2.1 m f (by omega) hf
        have hc : ¬ cmpI f.id t < 0 := by unfold cmpI; split <;> (try split) <;> omega
        generalize hq : cmpI f.id t = q at *
        have HC : Hid (cmpI f.id t = q) := hq
        have hc' : 0 ≤ q := by omega
        clear hq hf hge hc
        go_wp2_with (first | (go_at_call 42; refine (find1_any f t _).mono ?_; rintro e w' ⟨rfl, hb'⟩; rw [HC.out]))
        have hB2 := HB.out.trans (hb'.mono HB.out.size)
        clear hb' l1 HC HB
        go_roundw
        case rel => exact ⟨x, m, rfl, rfl, hx, by omega, by omega, hB2⟩
        case measure => simp [intOf]; omega
    · obtain rfl : x = k := by omega
      obtain rfl : y = x := by omega
      clear hxy
      by_cases hxn : y < n
      · obtain ⟨rfl, hg⟩ := HT.out (by omega)
        have hyn' : (y : Int) < n := by omega
        have hml : y < L.length := by have := HN.out; omega
        obtain ⟨f, hf⟩ : ∃ f, L[y]? = some f := ⟨_, List.getElem?_eq_getElem hml⟩
        have l1 := ldF_at (range_below (HL.out.2.2.2 y f hf) HB.out hg)
        have hge := HL.out.2.1 y f (by omega) hf
        have hft := HL.out.2.2.1 f hf
        cases fb with
        | true =>
          have hc : cmpI f.id t = 0 := by
            have := hft.2 rfl
            unfold cmpI
            rw [if_neg (by omega), if_neg (by omega)]
          have HC : Hid (cmpI f.id t = 0) := hc
          clear hc hf hge hft
          go_wp2_with (first | (go_at_call 42; refine (find1_any f t _).mono ?_; rintro e w' ⟨rfl, hb'⟩; rw [HC.out]))
          exact bodyPost_ret (v := .tuple #[.int .i64 y, .bool true]) (by simp [results, Tryd.results41, go_sem]) rfl ⟨rfl, HB.out.trans (hb'.mono HB.out.size)⟩
        | false =>
          have hc : cmpI f.id t = 1 := by
            have : f.id ≠ t := fun e => by have := hft.1 e; cases this
            unfold cmpI
            rw [if_neg (by omega), if_pos (by omega)]
          have HC : Hid (cmpI f.id t = 1) := hc
          clear hc hf hge hft
          go_wp2_with (first | (go_at_call 42; refine (find1_any f t _).mono ?_; rintro e w' ⟨rfl, hb'⟩; rw [HC.out]))
          exact bodyPost_ret (v := .tuple #[.int .i64 y, .bool false]) (by simp [results, Tryd.results41, go_sem]) rfl ⟨rfl, HB.out.trans (hb'.mono HB.out.size)⟩
      · obtain rfl : y = n := by omega
        have hfb := HF.out rfl
        subst hfb
        go_wp2
        exact bodyPost_ret (v := .tuple #[.int .i64 y, .bool false]) (by simp [results, Tryd.results41, go_sem]) rfl ⟨rfl, HB.out⟩

/-- Numbers rise. -/
def Rising (L : List W.Fl) : Prop := L.Pairwise (fun a b => a.id < b.id)
theorem rising_lt {L : List W.Fl} (h : Rising L) {i j : Nat} {f g : W.Fl} (hf : L[i]? = some f) (hg : L[j]? = some g) (hij : i < j) : f.id < g.id := by
  obtain ⟨h1, rfl⟩ := List.getElem?_eq_some_iff.1 hf
  obtain ⟨h2, rfl⟩ := List.getElem?_eq_some_iff.1 hg
  exact List.pairwise_iff_getElem.1 h i j h1 h2 hij
variable {n0 nb : Nat} {h : Int} {R R' : Nat → Int} {nx : Int} {fv fv' : Value} {L : List W.Fl} {w w' : World}
theorem Nt.form (H : Nt n0 nb h R nx fv L w) : ∃ g a cap, fv = .slice a L.length cap ∧ L.length ≤ cap ∧ (0 < L.length → a = some ⟨g, 0, none⟩ ∧ g < w.heap.size) ∧ ∀ j f, L[j]? = some f → w.rangeAt g (j * 12) (flL f) := by
  have ho := H.o
  have HO := H.o
  rcases ho.2 with ⟨h1, h2⟩ | ⟨g, cap, cur, h1, hbg, hg, hnc, hcm, hcs, htk⟩
  · exact ⟨0, none, 0, by rw [h1, h2], by omega, fun h => by omega, fun j f hf => by have := (List.getElem?_eq_some_iff.1 hf).1; omega⟩
  · refine ⟨g, some ⟨g, 0, none⟩, cap, h1, hnc, fun _ => ⟨rfl, (Array.getElem?_eq_some_iff.1 hg).1⟩, fun j f hf i v hv => ?_⟩
    have hi : i < 12 := (List.getElem?_eq_some_iff.1 hv).1
    have hj : j < L.length := (List.getElem?_eq_some_iff.1 hf).1
    rw [h1] at HO
    rw [HO.cellAt (j * 12 + i) (by omega), flX_get L j i f hf hi]
    exact hv
set_option maxRecDepth 10000 in
theorem find_at (hL : L.length ≤ 16384) (t : Int) (k : Nat) (hk : k ≤ L.length) (hlo : ∀ j f, j < k → L[j]? = some f → f.id < t) (hhi : ∀ j f, k ≤ j → L[j]? = some f → t ≤ f.id) (fb : Bool) (hfb : ∀ f, L[k]? = some f → (f.id = t ↔ fb = true)) (hf0 : k = L.length → fb = false) (H : Nt n0 nb h R nx fv L w) :
    Calls Tryd.prog 33 #[.pointer (some ⟨nb, 0, none⟩), .int .i64 t] w fun e w' => e = .returned (.tuple #[.int .i64 k, .bool fb]) ∧ Below w.heap.size w w' := by
  have cF := H.cF
  obtain ⟨g, a, cap, rfl, hc, hlt, hr⟩ := H.form
  have HS : Hid (Calls _ _ _ _ _) := search_any g cap L hL hc t k hk hlo hhi fb hfb hf0 w a hlt hr
  clear H hlt hr hlo hhi hfb hf0 hk
  go_enter Tryd.func33, Tryd.ntmps33
  go_wp2_with (fail)
  refine HS.out.mono ?_
  rintro e w1 ⟨rfl, hb⟩
  have HB : Hid (_) := hb
  clear hb
  go_wp2
  exact bodyPost_ret (v := .tuple #[.int .i64 k, .bool fb]) (by simp [results, Tryd.results33, go_sem]) rfl ⟨rfl, HB.out⟩
theorem find_hit (hL : L.length ≤ 16384) (hs : Rising L) (k : Nat) (f : W.Fl) (hk : L[k]? = some f) (H : Nt n0 nb h R nx fv L w) :
    Calls Tryd.prog 33 #[.pointer (some ⟨nb, 0, none⟩), .int .i64 f.id] w fun e w' => e = .returned (.tuple #[.int .i64 k, .bool true]) ∧ Below w.heap.size w w' := by
  have hkl := (List.getElem?_eq_some_iff.1 hk).1
  refine find_at hL f.id k (by omega) (fun j x hj hx => rising_lt hs hx hk hj) (fun j x hj hx => ?_) true (fun x hx => ?_) (fun e => by omega) H
  · by_cases e : k = j
    · subst e
      rw [hk] at hx
      cases hx
      omega
    · have := rising_lt hs hk hx (by omega)
      omega
  · rw [hk] at hx
    cases hx
    simp
/-- How many have a lesser number. -/
def lesser (L : List W.Fl) (t : Int) : Nat := L.countP (fun f => decide (f.id < t))
theorem lesser_at : ∀ (L : List W.Fl) (t : Int), Rising L → lesser L t ≤ L.length ∧ (∀ j f, j < lesser L t → L[j]? = some f → f.id < t) ∧ ∀ j f, lesser L t ≤ j → L[j]? = some f → t ≤ f.id
  | [], t, _ => ⟨Nat.le_refl _, fun j f hj hf => by simp at hf, fun j f hj hf => by simp at hf⟩
  | x :: L, t, hs => by
    have hs' := List.pairwise_cons.1 hs
    obtain ⟨h1, h2, h3⟩ := lesser_at L t hs'.2
    unfold lesser at *
    by_cases q : x.id < t
    · rw [List.countP_cons_of_pos (by simpa using q)]
      refine ⟨by simp; omega, fun j f hj hf => ?_, fun j f hj hf => ?_⟩
      · cases j with
        | zero => simp at hf; subst hf; exact q
        | succ j => exact h2 j f (by omega) (by simpa using hf)
      · cases j with
        | zero => omega
        | succ j => exact h3 j f (by omega) (by simpa using hf)
    · rw [List.countP_cons_of_neg (by simpa using q)]
      have z : List.countP (fun f : W.Fl => decide (f.id < t)) L = 0 := by
        rw [List.countP_eq_zero]
        intro f hf
        have := hs'.1 f hf
        simp
        omega
      rw [z] at h1 h2 h3 ⊢
      refine ⟨by simp, fun j f hj hf => by omega, fun j f hj hf => ?_⟩
      cases j with
      | zero => simp at hf; subst hf; omega
      | succ j => exact h3 j f (by omega) (by simpa using hf)
theorem find_miss (hL : L.length ≤ 16384) (hs : Rising L) (t : Int) (ht : ∀ f ∈ L, f.id ≠ t) (H : Nt n0 nb h R nx fv L w) :
    Calls Tryd.prog 33 #[.pointer (some ⟨nb, 0, none⟩), .int .i64 t] w fun e w' => (∃ k : Nat, e = .returned (.tuple #[.int .i64 k, .bool false])) ∧ Below w.heap.size w w' := by
  obtain ⟨h1, h2, h3⟩ := lesser_at L t hs
  refine (find_at hL t _ h1 h2 h3 false (fun f hf => ?_) (fun _ => rfl) H).mono fun e w' ⟨q1, q2⟩ => ⟨⟨_, q1⟩, q2⟩
  have := ht f (List.mem_of_getElem? hf)
  simp [this]
end Go.Proofs.YtaioioilfanpeaaDoor
