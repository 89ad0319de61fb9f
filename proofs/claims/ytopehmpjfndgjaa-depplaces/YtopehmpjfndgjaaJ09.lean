/- Texts in one: DepA. -/
import Derived.Lib.Walk
import Derived.Lib.SliceRun
import Derived.Test.YtopehmpjfndgjaaJ01
import Derived.Test.YtopehmpjfndgjaaJ08
/- Lists of numbers that lie in memory; below, Clone, SameInts. -/
namespace Go.Proofs.Ytopehmpjfndgjaa
open Go.ChangeShapes Go.WideShapes Go.ChangeAt Go.RowKit
set_option linter.unusedVariables false
set_option linter.unusedSimpArgs false

def slV (s : W.Sl) : Value := .slice s.a s.n s.c
/-- The list lies in memory, in a block that is not one of two. -/
structure Li (s : W.Sl) (l : List Int) (w : World) : Prop where
  n : s.n = l.length
  m : s.n ≤ 4096
  nc : s.n ≤ s.c
  at_ : 0 < s.n → ∃ b o, s.a = some ⟨b, o, none⟩ ∧ b < w.heap.size ∧ ∀ j x, l[j]? = some x → w.cell? ⟨b, o + j, none⟩ = some (.int .i64 x)
theorem Li.below {s : W.Sl} {l : List Int} {w w' : World} (h : Li s l w) (hb : Below w.heap.size w w') : Li s l w' :=
  ⟨h.n, h.m, h.nc, fun h0 => by
    obtain ⟨b, o, e, hl, hc⟩ := h.at_ h0
    exact ⟨b, o, e, Nat.lt_of_lt_of_le hl hb.size, fun j x hx => (hb.cell (p := ⟨b, o + j, none⟩) hl).trans (hc j x hx)⟩⟩
theorem li_nil (w : World) : Li W.Sl.nil [] w := ⟨rfl, by decide, by decide, fun h => absurd h (by decide)⟩
theorem li_zero (a : Option Addr) (c : Nat) (w : World) : Li ⟨a, 0, c⟩ [] w := ⟨rfl, by show 0 ≤ 4096; decide, Nat.zero_le _, fun h => absurd h (Nat.lt_irrefl 0)⟩
theorem Li.cons {s : W.Sl} {x : Int} {l : List Int} {w : World} (h : Li s (x :: l) w) : ∃ b o c, s = ⟨some ⟨b, o, none⟩, l.length + 1, c⟩ ∧ l.length + 1 ≤ c ∧ b < w.heap.size ∧ w.cell? ⟨b, o, none⟩ = some (.int .i64 x) ∧ ∀ j y, l[j]? = some y → w.cell? ⟨b, o + 1 + j, none⟩ = some (.int .i64 y) := by
  obtain ⟨b, o, e, hl, hc⟩ := h.at_ (by rw [h.n]; simp)
  have hn := h.n
  have hnc := h.nc
  obtain ⟨a, n, c⟩ := s
  simp only at e hn hnc
  subst e hn
  refine ⟨b, o, c, rfl, hnc, hl, hc 0 x rfl, fun j y hy => ?_⟩
  have := hc (j + 1) y (by simpa using hy)
  rw [show o + 1 + j = o + (j + 1) by omega]
  exact this
theorem li_some {b o n c : Nat} {l : List Int} {w : World} (hn : n = l.length) (hm : n ≤ 4096) (hnc : n ≤ c) (hb : b < w.heap.size) (hc : ∀ j x, l[j]? = some x → w.cell? ⟨b, o + j, none⟩ = some (.int .i64 x)) : Li ⟨some ⟨b, o, none⟩, n, c⟩ l w := ⟨hn, hm, hnc, fun _ => ⟨b, o, rfl, hb, hc⟩⟩

set_option maxHeartbeats 800000 in
theorem below_any (s : W.Sl) (l : List Int) (v : Int) (w : World) (h : Li s l w) : Calls Try.prog 40 #[slV s, .int .i64 v] w fun e w' => e = .returned (.int .i64 (W.bel l v)) ∧ Below w.heap.size w w' := by
  obtain ⟨hn, hm, _, hc⟩ := h
  obtain ⟨a, n, c⟩ := s
  simp only at hn hm hc
  subst hn
  have hl := W.bel_le l v
  have hk := W.bel_lt l v
  have hz := W.bel_at l v
  generalize W.bel l v = B at *
  have HK : Hid (_ ∧ _ ∧ _) := ⟨hc, hk, hz⟩
  clear hc hk hz
  unfold slV
  go_enter Try.func40, Try.ntmps40
  go_wp2
  go_loopw [5] (fun i wr => ∃ j : Nat, j ≤ B ∧ i = .int .i64 j ∧ wr = w) (fun i _ => l.length - (intOf i).toNat)
  case atStart => exact ⟨0, by omega, rfl, rfl⟩
  case round =>
    obtain ⟨j, hj, rfl, rfl⟩ := hrel
    by_cases hlt : j < B
    · have hjl : j < l.length := by omega
      obtain ⟨b, o, rfl, hb, hc⟩ := HK.out.1 (by omega)
      have g0 := hc j l[j] (List.getElem?_eq_getElem hjl)
      have g1 := HK.out.2.1 j l[j] hlt (List.getElem?_eq_getElem hjl)
      clear hc
      generalize l[j] = x at *
      go_wp2
      go_roundw
      case rel => exact ⟨j + 1, by omega, by go_num, trivial⟩
      case measure => simp [intOf]; omega
    · obtain rfl : j = B := by omega
      by_cases hjl : j < l.length
      · obtain ⟨b, o, rfl, hb, hc⟩ := HK.out.1 (by omega)
        have g0 := hc j l[j] (List.getElem?_eq_getElem hjl)
        have g1 := HK.out.2.2 l[j] (List.getElem?_eq_getElem hjl)
        clear hc
        generalize l[j] = x at *
        go_wp2
        go_ret
        exact ⟨rfl, Below.refl _ _⟩
      · obtain hjl : j = l.length := by omega
        go_wp2
        go_ret
        exact ⟨rfl, Below.refl _ _⟩

def intsL (l : List Int) : List Value := l.map fun x => .int .i64 x
theorem intsL_get (l : List Int) (j : Nat) : (intsL l)[j]? = (l[j]?).map fun x => .int .i64 x := by unfold intsL; rw [List.getElem?_map]
theorem own_li {w : World} {base n : Nat} {v : Value} {l : List Int} (h : w.ownsRow base 3 1 v n (intsL l)) (hn : n ≤ 4096) : ∃ s : W.Sl, v = slV s ∧ Li s l w ∧ (0 < s.n → ∃ b, s.a = some ⟨b, 0, none⟩ ∧ base ≤ b) := by
  have hlen : n = l.length := by
    have := h.1
    simp [intsL] at this
    omega
  rcases h.2 with ⟨rfl, h0⟩ | ⟨g, cap, cur, rfl, hg, hh, hcap, hmax, hcur, htake⟩
  · subst h0
    obtain rfl : l = [] := List.length_eq_zero_iff.1 hlen.symm
    exact ⟨⟨none, 0, 0⟩, rfl, li_zero _ _ _, fun h => absurd h (Nat.lt_irrefl 0)⟩
  · refine ⟨⟨some ⟨g, 0, none⟩, n, cap⟩, rfl, li_some hlen hn hcap (Array.getElem?_eq_some_iff.1 hh).1 fun j x hx => ?_, fun _ => ⟨g, rfl, hg⟩⟩
    have hc := h.cells (g := g) rfl j (.int .i64 x) (by rw [intsL_get, hx]; rfl)
    rw [Addr.add_lit] at hc
    exact hc

set_option maxHeartbeats 800000 in
theorem clone_any (s : W.Sl) (l : List Int) (w : World) (h : Li s l w) : Calls Try.prog 25 #[slV s] w fun e w' => (∃ t, e = .returned (slV t) ∧ Li t l w' ∧ (0 < t.n → ∃ b, t.a = some ⟨b, 0, none⟩ ∧ w.heap.size ≤ b)) ∧ Below w.heap.size w w' := by
  obtain ⟨i, hi, hzz⟩ := Option.map_eq_some_iff.1 (show (Try.prog.info? 3).map (fun i => (i.zero, i.size, i.bytes)) = some (some (.int .i64 0), 1, 8) by kernel_rfl)
  simp only [Prod.mk.injEq] at hzz
  obtain ⟨hz0, hz1, hz2⟩ := hzz
  have q : ∀ (w : World) (a : Option Addr) (n c n' c' : Nat), (binOp .eql 30 (.slice a n c) (.slice none n' c')).run Try.prog w = .ok (.bool a.isNone) w := fun w a n c n' c' => Lib.run_eql_slice_nil w _ _ a n c n' c' Try.underlying30
  obtain ⟨hn, hm, _, hc⟩ := h
  obtain ⟨a, n, c⟩ := s
  simp only at hn hm hc
  subst hn
  have HC : Hid _ := hc
  clear hc
  unfold slV
  cases a with
  | none =>
    have h0 : l = [] := by
      cases l with
      | nil => rfl
      | cons x t => obtain ⟨b, o, e, _⟩ := HC.out (by simp); cases e
    subst h0
    go_enter Try.func25, Try.ntmps25
    go_wp2
    go_ret
    exact ⟨⟨W.Sl.nil, rfl, li_nil _, fun h => absurd h (by decide)⟩, Below.refl _ _⟩
  | some p =>
    go_enter Try.func25, Try.ntmps25
    go_wp2_with (at_builtin; refine wpList_append_own _ rfl _ _ 30 rfl w.heap.size 3 i (.int .i64 0) 1 8 Try.underlying30 hi hz0 hz1 hz2 rfl (by decide) _ _ _ rfl (World.ownsRow_made w #[] 0 (Nat.le_refl _) (Nat.zero_le _) rfl) p l.length c (intsL l) rfl ?qc1 ?qc2 ?qc3 ?qc4 ?qc5 ?qc6 ?_)
    case qc1 => simp [intsL]
    case qc2 =>
      intro j u hj
      rw [intsL_get] at hj
      cases hx : l[j]? with
      | none => rw [hx] at hj; cases hj
      | some x =>
        rw [hx] at hj
        have hjl : j < l.length := (List.getElem?_eq_some_iff.1 hx).1
        obtain ⟨b, o, e, hb, hc⟩ := HC.out (by omega)
        cases e
        rw [Addr.add_lit]
        refine Lib.cell?_alloc_some _ ?_
        rw [hc j x hx]
        exact hj
    case qc3 => intro u hu; obtain ⟨x, _, rfl⟩ := List.mem_map.1 hu; rfl
    case qc4 => unfold maxLen; omega
    case qc5 => omega
    try (case qc6 => simp)
    intro v' w1 hown hgrow hnil
    go_wp2
    go_ret
    have hB : Below w.heap.size w w1 := ((Below.refl _ w).alloc (Nat.le_refl _) _).grown hgrow (by simp) (by intro k hk; simp [Value.ownBlock] at hk; omega)
    have hown : w1.ownsRow w.heap.size 3 1 v' l.length (intsL l) := by simpa using hown
    obtain ⟨t, rfl, hL, ht⟩ := own_li hown (by omega)
    exact ⟨⟨t, rfl, hL, ht⟩, hB⟩

set_option maxHeartbeats 800000 in
theorem sameints_any (s t : W.Sl) (l k : List Int) (w : World) (hs : Li s l w) (ht : Li t k w) : Calls Try.prog 14 #[slV s, slV t] w fun e w' => e = .returned (.bool (decide (l = k))) ∧ Below w.heap.size w w' := by
  obtain ⟨hn, hm, _, hc⟩ := hs
  obtain ⟨a, n, c⟩ := s
  obtain ⟨hn', hm', _, hc'⟩ := ht
  obtain ⟨a', n', c'⟩ := t
  simp only at hn hm hc hn' hm' hc'
  subst hn hn'
  have HC : Hid (_ ∧ _) := ⟨hc, hc'⟩
  clear hc hc'
  unfold slV
  by_cases hl : l.length = k.length
  · generalize hq : decide (l = k) = q
    have hq' : (l = k) = (q = true) := by rw [← hq]; simp
    clear hq
    go_enter Try.func14, Try.ntmps14
    go_wp2
    go_loopw [5] (fun i wr => ∃ j : Nat, j ≤ l.length ∧ i = .int .i64 j ∧ (∃ q, wr = w.drewN q) ∧ ∀ m, m < j → l[m]? = k[m]?) (fun i _ => l.length - (intOf i).toNat)
    case atStart => exact ⟨0, by omega, rfl, ⟨0, rfl⟩, fun m hm => by omega⟩
    case round =>
      obtain ⟨j, hj, rfl, ⟨q', rfl⟩, hall⟩ := hrel
      by_cases hlt : j < l.length
      · obtain ⟨b, o, rfl, hb, hc⟩ := HC.out.1 (by omega)
        obtain ⟨b', o', rfl, hb', hc'⟩ := HC.out.2 (by omega)
        have g0 := hc j l[j] (List.getElem?_eq_getElem hlt)
        have g1 := hc' j k[j] (List.getElem?_eq_getElem (by omega))
        have e0 : l[j]? = some l[j] := List.getElem?_eq_getElem hlt
        have e1 : k[j]? = some k[j] := List.getElem?_eq_getElem (by omega)
        clear hc hc'
        generalize l[j] = x at *
        generalize k[j] = y at *
        by_cases hxy : x = y
        · subst hxy
          have E : Hid (∀ m, m < j + 1 → l[m]? = k[m]?) := show ∀ m, m < j + 1 → l[m]? = k[m]? from fun m hm => by
            by_cases h : m < j
            · exact hall m h
            · obtain rfl : m = j := by omega
              rw [e0, e1]
          clear hall e0 e1
          go_wp2
          go_quiet (fail)
          go_wp2
          go_roundw
          case rel => exact ⟨j + 1, by omega, by go_num, ⟨_, rfl⟩, E.out⟩
          case measure => simp [intOf]; omega
        · have hne : ¬ l = k := fun h => by rw [h, e1] at e0; exact hxy (Option.some.inj e0).symm
          have hqf : q = false := by
            cases q
            · rfl
            · exact absurd (hq'.symm.mp rfl) hne
          clear hall e0 e1 hq'
          subst hqf
          have hxy' : (x == y) = false := by simpa using hxy
          go_wp2
          go_quiet (fail)
          go_wp2
          go_ret
          exact ⟨rfl, below_drewN (Below.refl _ _) _⟩
      · obtain rfl : j = l.length := by omega
        have he : l = k := List.ext_getElem? fun m => by
          by_cases h : m < l.length
          · exact hall m h
          · rw [List.getElem?_eq_none (by omega), List.getElem?_eq_none (by omega)]
        have hqt : q = true := by rw [← hq']; exact he
        clear hall hq' he
        subst hqt
        go_wp2
        go_ret
        exact ⟨rfl, below_drewN (Below.refl _ _) _⟩
  · have hne : decide (l = k) = false := decide_eq_false fun h => hl (by rw [h])
    have hl' : ¬ (l.length : Int) = (k.length : Int) := by omega
    rw [hne]
    go_enter Try.func14, Try.ntmps14
    go_wp2
    go_ret
    exact ⟨rfl, Below.refl _ _⟩
end Go.Proofs.Ytopehmpjfndgjaa
