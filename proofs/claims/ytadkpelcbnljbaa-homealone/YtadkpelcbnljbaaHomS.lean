/- home: the document's comparisons. -/
import Derived.Test.YtadkpelcbnljbaaHomR
import Derived.Deep.RegionHeld3
namespace Go.Proofs.Ytadkpelcbnljbaa
open Go.ChangeShapes Go.WideShapes Go.ChangeAt Go.RowKit
set_option linter.unusedVariables false
set_option linter.unusedSimpArgs false

set_option maxHeartbeats 1600000 in
theorem sameline_self (x0 x1 x2 x3 : Int) (w : World) : Calls Try.prog 21 #[.agg #[.int .u32 x0, .int .u32 x1, .int .u32 x2, .int .u32 x3], .agg #[.int .u32 x0, .int .u32 x1, .int .u32 x2, .int .u32 x3]] w fun e w' => e = .returned (.bool true) ∧ Below w.heap.size w w' := by
  have e0 : (x0 == x0) = true := by simp
  have e1 : (x1 == x1) = true := by simp
  have e2 : (x2 == x2) = true := by simp
  have e3 : (x3 == x3) = true := by simp
  have hB : Below w.heap.size w w := Below.refl _ _
  go_enter Try.func21, Try.ntmps21
  go_wp2
  go_ret
  exact ⟨rfl, (hB.alloc hB.size _).alloc (by simp) _⟩
set_option maxRecDepth 10000 in
set_option maxHeartbeats 1600000 in
theorem samemsg_self (m : W.Mg) (w : World) : Calls Try.prog 39 #[mgV m, mgV m] w fun e w' => e = .returned (.bool true) ∧ Below w.heap.size w w' := by
  have hB : Below w.heap.size w w := Below.refl _ _
  obtain ⟨k, l, f, t, d0, d1, d2, d3, h, d, a⟩ := m
  have hB2 := (hB.alloc hB.size (.cells (mgL ⟨k, l, f, t, d0, d1, d2, d3, h, d, a⟩).toArray 35)).alloc (by simp) (.cells (mgL ⟨k, l, f, t, d0, d1, d2, d3, h, d, a⟩).toArray 35)
  unfold mgV mgL at *
  dsimp only at *
  have HB : Hid (_) := hB2
  clear hB hB2
  go_enter Try.func39, Try.ntmps39
  go_wp2_with (fail)
  refine (sameline_self d0 d1 d2 d3 _).mono ?_
  rintro e w1 ⟨rfl, hb⟩
  have x := fun (j : Nat) => hb.cell (p := ⟨w.heap.size, j, none⟩) (by simp; omega)
  have y := fun (j : Nat) => hb.cell (p := ⟨w.heap.size + 1, j, none⟩) (by simp)
  have x0 := x 0
  have x1 := x 1
  have x2 := x 2
  have x3 := x 3
  have x8 := x 8
  have x9 := x 9
  have xa := x 10
  have y0 := y 0
  have y1 := y 1
  have y2 := y 2
  have y3 := y 3
  have y8 := y 8
  have y9 := y 9
  have ya := y 10
  simp [go_sem] at x0 x1 x2 x3 x8 x9 xa y0 y1 y2 y3 y8 y9 ya
  have hfin := HB.out.trans (hb.mono (by simp; omega))
  have HF : Hid (_) := hfin
  clear x y hb hfin
  go_wp2
  go_ret
  exact ⟨rfl, HF.out⟩

set_option maxHeartbeats 800000 in
theorem sameints_any (s t : W.Sl) (l k : List Int) (w : World) (hs : Li s l w) (ht : Li t k w) : Calls Try.prog 19 #[slV s, slV t] w fun e w' => e = .returned (.bool (decide (l = k))) ∧ Below w.heap.size w w' := by
  obtain ⟨hn, hm, _, hc⟩ := hs
  obtain ⟨a, n, c⟩ := s
  obtain ⟨hn', hm', _, hc'⟩ := ht
  obtain ⟨a', n', c'⟩ := t
  simp only at hn hm hc hn' hm' hc'
  subst hn hn'
  have HC : Hid (_ ∧ _) := ⟨hc, hc'⟩
  clear hc hc'
  unfold slV
  by_cases hl : l.length = k.length
  · generalize hq : decide (l = k) = q
    have hq' : (l = k) = (q = true) := by rw [← hq]; simp
    clear hq
    go_enter Try.func19, Try.ntmps19
    go_wp2
    go_loopw [5] (fun i wr => ∃ j : Nat, j ≤ l.length ∧ i = .int .i64 j ∧ (∃ q, wr = w.drewN q) ∧ ∀ m, m < j → l[m]? = k[m]?) (fun i _ => l.length - (intOf i).toNat)
    case atStart => exact ⟨0, by omega, rfl, ⟨0, rfl⟩, fun m hm => by omega⟩
    case round =>
      obtain ⟨j, hj, rfl, ⟨q', rfl⟩, hall⟩ := hrel
      by_cases hlt : j < l.length
      · obtain ⟨b, o, rfl, hb, hc⟩ := HC.out.1 (by omega)
        obtain ⟨b', o', rfl, hb', hc'⟩ := HC.out.2 (by omega)
        have g0 := hc j l[j] (List.getElem?_eq_getElem hlt)
        have g1 := hc' j k[j] (List.getElem?_eq_getElem (by omega))
        have e0 : l[j]? = some l[j] := List.getElem?_eq_getElem hlt
        have e1 : k[j]? = some k[j] := List.getElem?_eq_getElem (by omega)
        clear hc hc'
        generalize l[j] = x at *
        generalize k[j] = y at *
        by_cases hxy : x = y
        · subst hxy
          have E : Hid (∀ m, m < j + 1 → l[m]? = k[m]?) := show ∀ m, m < j + 1 → l[m]? = k[m]? from fun m hm => by
            by_cases h : m < j
            · exact hall m h
            · obtain rfl : m = j := by omega
              rw [e0, e1]
          clear hall e0 e1
          go_wp2
          go_quiet (fail)
          go_wp2
          go_roundw
          case rel => exact ⟨j + 1, by omega, by go_num, ⟨_, rfl⟩, E.out⟩
          case measure => simp [intOf]; omega
        · have hne : ¬ l = k := fun h => by rw [h, e1] at e0; exact hxy (Option.some.inj e0).symm
          have hqf : q = false := by
            cases q
            · rfl
            · exact absurd (hq'.symm.mp rfl) hne
          clear hall e0 e1 hq'
          subst hqf
          have hxy' : (x == y) = false := by simpa using hxy
          go_wp2
          go_quiet (fail)
          go_wp2
          go_ret
          exact ⟨rfl, below_drewN (Below.refl _ _) _⟩
      · obtain rfl : j = l.length := by omega
        have he : l = k := List.ext_getElem? fun m => by
          by_cases h : m < l.length
          · exact hall m h
          · rw [List.getElem?_eq_none (by omega), List.getElem?_eq_none (by omega)]
        have hqt : q = true := by rw [← hq']; exact he
        clear hall hq' he
        subst hqt
        go_wp2
        go_ret
        exact ⟨rfl, below_drewN (Below.refl _ _) _⟩
  · have hne : decide (l = k) = false := decide_eq_false fun h => hl (by rw [h])
    have hl' : ¬ (l.length : Int) = (k.length : Int) := by omega
    rw [hne]
    go_enter Try.func19, Try.ntmps19
    go_wp2
    go_ret
    exact ⟨rfl, Below.refl _ _⟩

attribute [local go_sem ↓] ldM_eq stM_eq bdM_eq bsM_eq
set_option maxHeartbeats 800000 in
theorem samemsgs_self (s t : W.Sl) (l : List W.Mg) (w : World) (hs : Ms s l w) (ht : Ms t l w) : Calls Try.prog 17 #[slV s, slV t] w fun e w' => e = .returned (.bool true) ∧ Below w.heap.size w w' := by
  obtain ⟨hn, hm, _, hc⟩ := hs
  obtain ⟨a, n, c⟩ := s
  obtain ⟨hn', hm', _, hc'⟩ := ht
  obtain ⟨a', n', c'⟩ := t
  simp only at hn hm hc hn' hm' hc'
  subst hn hn'
  have HR : Hid (_ ∧ _) := ⟨hc, hc'⟩
  clear hc hc'
  generalize hN : l.length = N at *
  have HN : Hid (l.length = N) := hN
  clear hN
  unfold slV
  dsimp only
  go_enter Try.func17, Try.ntmps17
  go_wp2
  go_loopw [5] (fun i wr => ∃ j : Nat, j ≤ N ∧ i = .int .i64 j ∧ Below w.heap.size w wr) (fun i _ => N - (intOf i).toNat)
  case atStart => exact ⟨0, by omega, rfl, Below.refl _ _⟩
  case round =>
    obtain ⟨j, hj, rfl, hB⟩ := hrel
    have HB : Hid (Below w.heap.size w wr) := hB
    clear hB
    by_cases hlt : j < N
    · have hjn : (j : Int) < N := by omega
      have hj0 : (0 : Int) ≤ j := by omega
      obtain ⟨g, o, rfl, hg, hr⟩ := HR.out.1 (by omega)
      obtain ⟨g', o', rfl, hg', hr'⟩ := HR.out.2 (by omega)
      obtain ⟨x, hx⟩ : ∃ x, l[j]? = some x := ⟨_, List.getElem?_eq_getElem (by have := HN.out; omega)⟩
      have r0 := range_below (hr j x hx) HB.out hg
      have r1 := range_below (hr' j x hx) HB.out hg'
      have l0 := World.block_lt_of_cell? _ _ (r0 0 _ rfl)
      have l1 := World.block_lt_of_cell? _ _ (r1 0 _ rfl)
      have HK : Hid (∀ w', Below wr.heap.size wr w' → (ldM ⟨g, o + j * 11, none⟩).run Try.prog w' = .ok (mgV x) w' ∧ (ldM ⟨g', o' + j * 11, none⟩).run Try.prog w' = .ok (mgV x) w') := fun w' hb =>
        ⟨ldM_at (range_below r0 hb l0), ldM_at (range_below r1 hb l1)⟩
      clear hx r0 r1 hr hr' hg hg' l0 l1
      go_wp2_with (fail)
      go_region_held3 (fun w' => (ldM ⟨g, o + j * 11, none⟩).run Try.prog w' = .ok (mgV x) w' ∧ (ldM ⟨g', o' + j * 11, none⟩).run Try.prog w' = .ok (mgV x) w')
        (first
          | exact HK.out _ (Below.refl _ _).drew
          | exact HK.out _ (Below.refl _ _)
          | exact HK.out _ (show Below wr.heap.size wr w6 from ⟨hb6.os, hb6.tape, hb6.output, hb6.size, fun k hk => hb6.block k hk⟩))
        (first
          | (go_at_call 39; refine (samemsg_self x _).mono ?_; rintro e w6 ⟨rfl, hb6⟩))
      all_goals
        have hb6' : Below wr.heap.size wr w6 := ⟨hb6.os, hb6.tape, hb6.output, hb6.size, fun k hk => hb6.block k hk⟩
        have HF : Hid (_) := HB.out.trans (hb6'.mono HB.out.size)
        clear hb6 hb6' HK
        go_wp2
        go_roundw
        case rel => exact ⟨j + 1, by omega, by go_num, HF.out⟩
        case measure => simp [intOf]; omega
    · obtain rfl : j = N := by omega
      go_wp2
      go_ret
      exact ⟨rfl, HB.out⟩
end Go.Proofs.Ytadkpelcbnljbaa
