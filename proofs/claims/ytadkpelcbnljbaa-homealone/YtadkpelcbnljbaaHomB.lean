/- home: the library's BinarySearch, Contains, Clone on numbers. -/
import Derived.Test.YtadkpelcbnljbaaHomA
namespace Go.Proofs.Ytadkpelcbnljbaa
open Go.ChangeShapes Go.WideShapes Go.ChangeAt Go.RowKit
set_option linter.unusedVariables false
set_option linter.unusedSimpArgs false

theorem isnan_any (x : Int) (w : World) : Calls Try.prog 52 #[.int .i64 x] w fun e w' => e = .returned (.bool false) ∧ w = w' := by
  go_enter Try.func52, Try.ntmps52
  go_wp2
  go_ret
  exact ⟨rfl, rfl⟩

theorem snan_any (x : Int) (w : World) : Calls Try.prog 54 #[.int .i64 x] w fun e w' => e = .returned (.bool false) ∧ w = w' := by
  go_enter Try.func54, Try.ntmps54
  go_wp2
  go_ret
  exact ⟨rfl, rfl⟩

theorem less_any (x y : Int) (w : World) : Calls Try.prog 53 #[.int .i64 x, .int .i64 y] w fun e w' => e = .returned (.bool (decide (x < y))) ∧ w = w' := by
  go_enter Try.func53, Try.ntmps53
  go_wp2_with (first | (go_at_call 52; refine (isnan_any _ _).mono ?_; rintro e w' ⟨rfl, rfl⟩))
  go_ret
  exact ⟨rfl, rfl⟩

set_option maxRecDepth 10000 in
set_option maxHeartbeats 1600000 in
theorem search_any (s : W.Sl) (l : List Int) (w : World) (hl : Li s l w) (x : Int) (k : Nat) (hk : k ≤ l.length) (hlo : ∀ j y, j < k → l[j]? = some y → y < x) (hhi : ∀ j y, k ≤ j → l[j]? = some y → x ≤ y) (fb : Bool) (hfb : ∀ y, l[k]? = some y → (y = x ↔ fb = true)) (hf0 : k = l.length → fb = false) :
    Calls Try.prog 47 #[slV s, .int .i64 x] w fun e w' => e = .returned (.tuple #[.int .i64 k, .bool fb]) ∧ w = w' := by
  obtain ⟨a, n, c⟩ := s
  obtain ⟨hn, hm, hnc, hat⟩ := hl
  dsimp only at hn hm hnc hat
  rw [← hn] at hk hf0
  have HN : Hid (n = l.length) := hn
  have HA : Hid (0 < n → ∃ b o, a = some ⟨b, o, none⟩ ∧ b < w.heap.size ∧ ∀ j x, l[j]? = some x → w.cell? ⟨b, o + j, none⟩ = some (.int .i64 x)) := hat
  have HL : Hid (_ ∧ _ ∧ _) := ⟨hlo, hhi, hfb⟩
  have HF : Hid (k = n → fb = false) := hf0
  clear hn hat hlo hhi hfb hf0
  unfold slV
  go_enter Try.func47, Try.ntmps47
  go_wp2
  go_loopw [7, 8] (fun i j wr => ∃ a b : Nat, i = .int .i64 a ∧ j = .int .i64 b ∧ a ≤ k ∧ k ≤ b ∧ b ≤ n ∧ w = wr) (fun i j _ => (intOf j).toNat - (intOf i).toNat)
  case atStart => exact ⟨0, n, rfl, rfl, by omega, hk, by omega, rfl⟩
  case round =>
    obtain ⟨y, z, rfl, rfl, hy, hz, hzn, rfl⟩ := hrel
    by_cases hyz : y < z
    · obtain ⟨b, o, rfl, hb, hc⟩ := HA.out (by omega)
      obtain ⟨m, hm1⟩ : ∃ m : Nat, ((y : Int) + z) / 2 = (m : Int) := ⟨(((y : Int) + z) / 2).toNat, by omega⟩
      have hm2 : y ≤ m := by omega
      have hm3 : m < z := by omega
      have hmn : (m : Int) < n := by omega
      obtain ⟨q, hq⟩ : ∃ q, l[m]? = some q := ⟨_, List.getElem?_eq_getElem (by have := HN.out; omega)⟩
      have cm := hc m q hq
      have HC : Hid (l[m]? = some q) := hq
      clear hc hq
      by_cases hmk : m < k
      · have hlt := HL.out.1 m q hmk HC.out
        have hd : decide (q < x) = true := decide_eq_true hlt
        have HD : Hid (decide (q < x) = true) := hd
        clear hd hlt
        go_wp2_with (first | (go_at_call 53; refine (less_any _ _ _).mono ?_; rintro e w' ⟨rfl, rfl⟩; rw [HD.out]))
        go_roundw
        case rel => exact ⟨m + 1, z, by go_num, rfl, by omega, hz, hzn, by first | rfl | trivial⟩
        case measure => simp [intOf]; omega
      · have hge := HL.out.2.1 m q (by omega) HC.out
        have HD : Hid (decide (q < x) = false) := (decide_eq_false (by omega) : decide (q < x) = false)
        clear hge
        go_wp2_with (first | (go_at_call 53; refine (less_any _ _ _).mono ?_; rintro e w' ⟨rfl, rfl⟩; rw [HD.out]))
        go_roundw
        case rel => exact ⟨y, m, rfl, rfl, hy, by omega, by omega, by first | rfl | trivial⟩
        case measure => simp [intOf]; omega
    · obtain rfl : y = k := by omega
      obtain rfl : z = y := by omega
      clear hyz
      by_cases hyn : z < n
      · obtain ⟨b, o, rfl, hb, hc⟩ := HA.out (by omega)
        have hyn' : (z : Int) < n := by omega
        obtain ⟨q, hq⟩ : ∃ q, l[z]? = some q := ⟨_, List.getElem?_eq_getElem (by have := HN.out; omega)⟩
        have cm := hc z q hq
        have hft := HL.out.2.2 q hq
        clear hc hq
        cases fb with
        | true =>
          have hx := hft.2 rfl
          have hd : (q == x) = true := by simpa using hx
          clear hx hft
          go_wp2_with (first | (go_at_call 54; refine (snan_any _ _).mono ?_; rintro e w' ⟨rfl, rfl⟩))
          exact bodyPost_ret (v := .tuple #[.int .i64 z, .bool true]) (by simp [results, Try.results47, go_sem]) rfl ⟨rfl, rfl⟩
        | false =>
          have hd : (q == x) = false := by
            have : q ≠ x := fun e => by have := hft.1 e; cases this
            simpa using this
          clear hft
          go_wp2_with (first | (go_at_call 54; refine (snan_any _ _).mono ?_; rintro e w' ⟨rfl, rfl⟩))
          exact bodyPost_ret (v := .tuple #[.int .i64 z, .bool false]) (by simp [results, Try.results47, go_sem]) rfl ⟨rfl, rfl⟩
      · have hyn' : z = n := by omega
        obtain rfl := HF.out hyn'
        subst hyn'
        go_wp2_with (fail)
        exact bodyPost_ret (v := .tuple #[.int .i64 z, .bool false]) (by simp [results, Try.results47, go_sem]) rfl ⟨rfl, rfl⟩

set_option maxRecDepth 10000 in
set_option maxHeartbeats 1600000 in
theorem index_any (s : W.Sl) (l : List Int) (x : Int) (w : World) (hl : Li s l w) : Calls Try.prog 40 #[slV s, .int .i64 x] w fun e w' => (∃ i : Int, e = .returned (.int .i64 i) ∧ decide (0 ≤ i) = decide (x ∈ l)) ∧ w = w' := by
  obtain ⟨a, n, c⟩ := s
  obtain ⟨hn, hm, hnc, hat⟩ := hl
  dsimp only at hn hm hnc hat
  have HN : Hid (n = l.length) := hn
  have HA : Hid (0 < n → ∃ b o, a = some ⟨b, o, none⟩ ∧ b < w.heap.size ∧ ∀ j x, l[j]? = some x → w.cell? ⟨b, o + j, none⟩ = some (.int .i64 x)) := hat
  clear hn hat
  unfold slV
  go_enter Try.func40, Try.ntmps40
  go_wp2
  go_loopw [5, 8] (fun _ j wr => ∃ k : Nat, k ≤ n ∧ j = .int .i64 k ∧ (∀ i y, i < k → l[i]? = some y → y ≠ x) ∧ w = wr) (fun _ j _ => n - (intOf j).toNat)
  case atStart => exact ⟨0, by omega, rfl, fun i y h => by omega, rfl⟩
  case round =>
    obtain ⟨k, hk, rfl, hno, rfl⟩ := hrel
    have HO : Hid (∀ i y, i < k → l[i]? = some y → y ≠ x) := hno
    clear hno
    by_cases h : k < n
    · have hkn : (k : Int) < n := by omega
      obtain ⟨b, o, rfl, hb, hc⟩ := HA.out (by omega)
      obtain ⟨y, hy⟩ : ∃ y, l[k]? = some y := ⟨_, List.getElem?_eq_getElem (by have := HN.out; omega)⟩
      have ck := hc k y hy
      have HY : Hid (l[k]? = some y) := hy
      clear hc hy
      by_cases e : y = x
      · subst e
        have HP : Hid (decide (y ∈ l) = true) := decide_eq_true (List.mem_of_getElem? HY.out)
        go_wp2
        go_ret
        exact ⟨⟨k, rfl, by rw [HP.out]; exact decide_eq_true (by omega)⟩, rfl⟩
      · have hne : (x == y) = false := by simpa using fun h => e h.symm
        have hO2 : Hid (∀ i z, i < k + 1 → l[i]? = some z → z ≠ x) := fun i z hi hz => by
          by_cases q : i = k
          · subst q
            rw [HY.out] at hz
            cases hz
            exact e
          · exact HO.out i z (by omega) hz
        go_wp2
        go_roundw
        case rel => exact ⟨k + 1, by omega, by go_num, hO2.out, by first | rfl | trivial⟩
        case measure => simp [intOf]; omega
    · have HP : Hid (decide (x ∈ l) = false) := decide_eq_false (fun hy => by
        obtain ⟨j, hj, e⟩ := List.getElem_of_mem hy
        exact HO.out j _ (by have := HN.out; omega) (List.getElem?_eq_getElem hj) e)
      go_wp2
      go_ret
      exact ⟨⟨-1, rfl, by rw [HP.out]; rfl⟩, rfl⟩

theorem contains_any (s : W.Sl) (l : List Int) (x : Int) (w : World) (hl : Li s l w) : Calls Try.prog 24 #[slV s, .int .i64 x] w fun e w' => e = .returned (.bool (decide (x ∈ l))) ∧ w = w' := by
  have HI : Hid (Calls _ _ _ _ _) := index_any s l x w hl
  generalize slV s = v at *
  go_enter Try.func24, Try.ntmps24
  go_wp2_with (fail)
  refine HI.out.mono ?_
  rintro e w' ⟨⟨i, rfl, hi⟩, rfl⟩
  have HD : Hid (_) := hi
  clear hi
  go_wp2
  go_ret
  exact ⟨by rw [← HD.out]; rfl, rfl⟩

set_option maxRecDepth 10000 in
set_option maxHeartbeats 1600000 in
theorem clone_any (base : Nat) (v : Value) (l : List Int) (hl : l.length ≤ 4096) (w : World) (h : On base v l w) : Calls Try.prog 23 #[v] w fun e w' => (∃ t, e = .returned t ∧ On w.heap.size t l w') ∧ Below w.heap.size w w' := by
  obtain ⟨i, hi, hzz⟩ := Option.map_eq_some_iff.1 infoI
  simp only [Prod.mk.injEq] at hzz
  obtain ⟨hz0, hz1, hz2⟩ := hzz
  have q : ∀ (w : World) (a : Option Addr) (n c n' c' : Nat), (binOp .eql 39 (.slice a n c) (.slice none n' c')).run Try.prog w = .ok (.bool a.isNone) w := fun w a n c n' c' => Lib.run_eql_slice_nil w _ _ a n c n' c' Try.underlying39
  rcases h.form with ⟨rfl, rfl⟩ | ⟨g, cap, rfl, h1, h2, h3, h4, h5⟩
  · go_enter Try.func23, Try.ntmps23
    go_wp2
    go_ret
    exact ⟨⟨_, rfl, On.nil _ _⟩, Below.refl _ _⟩
  · have HC : Hid (∀ j x, l[j]? = some x → w.cell? ⟨g, j, none⟩ = some (.int .i64 x)) := h5
    clear h h5
    go_enter Try.func23, Try.ntmps23
    go_wp2_with (at_builtin; refine wpList_append_own _ rfl _ _ 39 rfl w.heap.size 3 i (.int .i64 0) 1 8 Try.underlying39 hi hz0 hz1 hz2 rfl (by decide) _ _ _ rfl (World.ownsRow_made w #[] 0 (Nat.le_refl _) (Nat.zero_le _) rfl) ⟨g, 0, none⟩ l.length cap (inX l) rfl ?qc1 ?qc2 ?qc3 ?qc4 ?qc5 ?qc6 ?_)
    case qc1 => simp [inX]
    case qc2 =>
      intro j u hj
      unfold inX at hj
      rw [List.getElem?_map] at hj
      cases hx : l[j]? with
      | none => rw [hx] at hj; cases hj
      | some x =>
        rw [hx] at hj
        rw [Addr.add_lit, Nat.zero_add]
        refine Lib.cell?_alloc_some _ ?_
        rw [HC.out j x hx]
        exact hj
    case qc3 => exact oneI l
    case qc4 => unfold maxLen; omega
    case qc5 => omega
    try (case qc6 => simp)
    intro v' w1 hown hgrow hnil
    go_wp2
    go_ret
    have hB : Below w.heap.size w w1 := ((Below.refl _ w).alloc (Nat.le_refl _) _).grown hgrow (by simp) (by intro k hk; simp [Value.ownBlock] at hk; omega)
    have hown : w1.ownsRow w.heap.size 3 1 v' l.length (inX l) := by simpa using hown
    exact ⟨⟨_, rfl, hown⟩, hB⟩
end Go.Proofs.Ytadkpelcbnljbaa
