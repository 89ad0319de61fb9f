/- wmo: harts that do not go as their lists do. -/
import Derived.Test.YtibohlbkkaghkaaDoorWmoG
import Derived.Test.YtibohlbkkaghkaaDoorPpoV1
import Derived.Deep.QuietTactic
import Derived.BigQuiet
namespace Go.Proofs.YtibohlbkkaghkaaDoor
open Go.ChangeShapes Go.WideShapes Go.ChangeAt Go.RowKit
set_option linter.unusedVariables false
set_option linter.unusedSimpArgs false

namespace W
def inTb (f : Nat → Int) (n : Nat) : Bool := (List.range n).all fun j => (f j == 0) || decide (mx f j ≤ f j)
theorem inTb_no {f : Nat → Int} {n j : Nat} (hj : j < n) (h0 : f j ≠ 0) (h1 : f j < mx f j) : inTb f n = false := by
  unfold inTb
  rw [List.all_eq_false]
  refine ⟨j, List.mem_range.2 hj, ?_⟩
  simp [h0]
  omega
theorem inTb_yes {f : Nat → Int} {n : Nat} (h : ∀ j, j < n → f j = 0 ∨ mx f j ≤ f j) : inTb f n = true := by
  unfold inTb
  rw [List.all_eq_true]
  intro j hj
  rcases h j (List.mem_range.1 hj) with h | h
  · simp [h]
  · simp [h]
/-- Does one that has to stay behind a lie ahead of it? -/
def ahd (x : Nat → Oz) (f : Nat → Int) (n a : Nat) : Bool := (ofL x n a).any fun b => decide (f b.toNat < f a)
def tnF (x : Nat → Oz) (f : Nat → Int) (n : Nat) : Nat → Int
  | 0 => 0
  | j + 1 => bif ((tnF x f n j == 0) || decide (f j < tnF x f n j)) && ahd x f n j then f j else tnF x f n j
def tin (x : Nat → Oz) (f : Nat → Int) (n : Nat) : Int := bif inTb f n then 0 else tnF x f n n
def turF (t : Nat → Int) : Nat → Int
  | 0 => 0
  | j + 1 => bif decide (0 < t j) && ((turF t j == 0) || decide (t j < turF t j)) then t j else turF t j
theorem ofL_bd (x : Nat → Oz) (n a : Nat) (b : Int) (hb : b ∈ ofL x n a) : 0 ≤ b ∧ b < (n : Int) := by
  unfold ofL ofN at hb
  rw [List.mem_map] at hb
  obtain ⟨m, hm, rfl⟩ := hb
  have := List.mem_range.1 (List.mem_filter.1 hm).1
  omega
end W
theorem li_own {w : World} {base : Nat} {s : W.Sl} {l : List Int} (h : w.ownsRow base 3 1 (slV s) l.length (intsV l)) (hl : l.length ≤ 4096) : Li s l w := by
  obtain ⟨a, n, c⟩ := s
  obtain ⟨h1, h2⟩ := id h
  rcases h2 with ⟨e, h0⟩ | ⟨g, cap, cur, e, e2, e3, e4, e5⟩
  · simp [slV] at e
    obtain ⟨rfl, rfl, rfl⟩ := e
    exact ⟨by show 0 = _; omega, by show 0 ≤ 4096; omega, Nat.le_refl _, fun h => absurd h (by show ¬ 0 < 0; omega)⟩
  · simp [slV] at e
    obtain ⟨rfl, rfl, rfl⟩ := e
    refine ⟨rfl, hl, e4, fun _ => ⟨g, 0, rfl, (Array.getElem?_eq_some_iff.1 e3).1, fun j x hx => ?_⟩⟩
    have := h.cells (g := g) rfl j (.int .i64 x) (by simp [intsV, hx])
    have e0 : (⟨g, 0, none⟩ : Addr).add j = ⟨g, 0 + j, none⟩ := by
      unfold Addr.add
      by_cases h : j = 0
      · subst h; rfl
      · simp [h]
    rw [e0] at this
    exact this
set_option maxHeartbeats 800000 in
theorem inTurn2_any (pb n : Nat) (f : Nat → Int) (w : World) (h : Bc pb n (fun i => .int .i64 (f i)) w) (hn : n ≤ 4096) :
    Calls Tryd.prog 51 #[.slice (some ⟨pb, 0, none⟩) n n] w fun e w' => e = .returned (.bool (W.inTb f n)) ∧ w = w' := by
  have lt := h.lt
  have HH : Hid _ := h.c
  clear h
  go_enter Tryd.func51, Tryd.ntmps51
  go_wp2
  go_loopw [3, 8] (fun s i wr => ∃ j : Nat, j ≤ n ∧ s = .int .i64 (W.mx f j) ∧ i = .int .i64 (j : Int) ∧ (∀ q, q < j → f q = 0 ∨ W.mx f q ≤ f q) ∧ wr = w) (fun _ i _ => n - (intOf i).toNat)
  case atStart => exact ⟨0, by omega, rfl, rfl, fun q hq => by omega, rfl⟩
  case round =>
    obtain ⟨j, hj, rfl, rfl, hq, rfl⟩ := hrel
    by_cases hlt : j < n
    · have g0 := HH.out j hlt
      have hjn : (j : Int) < (n : Int) := by omega
      have e1 : W.mx f (j + 1) = max (W.mx f j) (f j) := rfl
      have hno := fun h0 h1 => W.inTb_no (f := f) (n := n) hlt h0 h1
      have hgo : f j = 0 ∨ W.mx f j ≤ f j → ∀ q, q < j + 1 → f q = 0 ∨ W.mx f q ≤ f q := fun h q hq2 => by
        by_cases e : q = j
        · rw [e]; exact h
        · exact hq q (by omega)
      have HQ : Hid (_ ∧ _) := ⟨hno, hgo⟩
      clear hno hgo hq
      generalize f j = p at *
      generalize W.mx f j = T at *
      by_cases hp : p = 0
      · subst hp
        go_wp2
        go_roundw
        case rel => exact ⟨j + 1, by omega, by first | rw [e1] | (rw [e1]; simp), by go_num, HQ.out.2 (Or.inl rfl), trivial⟩
        case measure => simp [intOf]; omega
      · have r1 : (p != 0) = true := by simpa using hp
        by_cases r2 : p < T
        · have e2 := HQ.out.1 hp r2
          have HE : Hid _ := e2
          clear e2
          go_wp2
          go_ret
          exact ⟨congrArg (fun b => Ending.returned (.bool b)) HE.out.symm, rfl⟩
        · go_wp2
          go_roundw
          case rel => exact ⟨j + 1, by omega, by first | rw [e1] | (rw [e1]; simp), by go_num, HQ.out.2 (Or.inr (by omega)), trivial⟩
          case measure => simp [intOf]; omega
    · have hjn : ¬ (j : Int) < (n : Int) := by omega
      have e2 : W.inTb f n = true := W.inTb_yes fun q h => hq q (by omega)
      have HE : Hid _ := e2
      clear hq e2
      generalize W.mx f j = T at *
      go_wp2
      go_ret
      exact ⟨congrArg (fun b => Ending.returned (.bool b)) HE.out.symm, rfl⟩
set_option maxHeartbeats 800000 in
theorem anyAhead_any (s : W.Sl) (l : List Int) (pb n : Nat) (f : Nat → Int) (p : Int) (w : World) (hL : Li s l w) (h : Bc pb n (fun i => .int .i64 (f i)) w) (hl : ∀ b ∈ l, 0 ≤ b ∧ b < (n : Int)) :
    Calls Tryd.prog 53 #[slV s, .slice (some ⟨pb, 0, none⟩) n n, .int .i64 p] w fun e w' => e = .returned (.bool (l.any fun b => decide (f b.toNat < p))) ∧ w = w' := by
  obtain ⟨hn, hm, _, hc⟩ := hL
  obtain ⟨a, m, c⟩ := s
  simp only at hn hm hc
  subst hn
  have lt := h.lt
  have HK : Hid (_ ∧ _ ∧ _) := ⟨hc, h.c, hl⟩
  clear hc hl h
  unfold slV
  go_enter Tryd.func53, Tryd.ntmps53
  go_wp2
  go_loopw [11] (fun i wr => ∃ j : Nat, j ≤ l.length ∧ i = .int .i64 j ∧ (∀ q y, q < j → l[q]? = some y → ¬ f y.toNat < p) ∧ wr = w) (fun i _ => l.length - (intOf i).toNat)
  case atStart => exact ⟨0, by omega, rfl, fun q y hq => by omega, rfl⟩
  case round =>
    obtain ⟨j, hj, rfl, hq, rfl⟩ := hrel
    by_cases hlt : j < l.length
    · obtain ⟨b, o, rfl, hb, hc⟩ := HK.out.1 (by omega)
      have ex : l[j]? = some l[j] := List.getElem?_eq_getElem hlt
      have g0 := hc j l[j] ex
      have g1 := HK.out.2.2 l[j] (List.getElem_mem hlt)
      have hjn : (j : Int) < (l.length : Int) := by omega
      have hyes : f l[j].toNat < p → (l.any fun b => decide (f b.toNat < p)) = true := fun h => List.any_eq_true.2 ⟨l[j], List.getElem_mem hlt, by simpa using h⟩
      clear hc
      generalize l[j] = x at *
      obtain ⟨k, rfl⟩ := Int.eq_ofNat_of_zero_le g1.1
      have g2 := HK.out.2.1 k (by omega)
      have g3 := g1.2
      rw [Int.toNat_natCast] at hyes
      have hgo : ¬ f k < p → ∀ q y, q < j + 1 → l[q]? = some y → ¬ f y.toNat < p := fun h q y hq2 hy => by
        by_cases e : q = j
        · rw [e, ex] at hy
          cases hy
          rw [Int.toNat_natCast]
          exact h
        · exact hq q y (by omega) hy
      have HQ : Hid (_ ∧ _) := ⟨hyes, hgo⟩
      clear hyes hgo hq ex g1
      try dsimp only at g2
      generalize f k = F at *
      by_cases r2 : F < p
      · have e2 := HQ.out.1 r2
        have HE : Hid _ := e2
        clear e2
        go_wp2
        go_ret
        exact ⟨congrArg (fun b => Ending.returned (.bool b)) HE.out.symm, rfl⟩
      · go_wp2
        go_roundw
        case rel => exact ⟨j + 1, by omega, by go_num, HQ.out.2 r2, trivial⟩
        case measure => simp [intOf]; omega
    · have hjn : ¬ (j : Int) < (l.length : Int) := by omega
      have e2 : (l.any fun b => decide (f b.toNat < p)) = false := by
        rw [List.any_eq_false]
        intro y hy
        obtain ⟨q, hq1, rfl⟩ := List.getElem_of_mem hy
        simpa using hq q _ (by omega) (List.getElem?_eq_getElem hq1)
      have HE : Hid _ := e2
      clear hq e2
      go_wp2
      go_ret
      exact ⟨congrArg (fun b => Ending.returned (.bool b)) HE.out.symm, rfl⟩
set_option maxHeartbeats 1600000 in
theorem turnedIn2_any (a : Option Addr) (c : Nat) (x : Nat → W.Oz) (pb n : Nat) (f : Nat → Int) (w : World) (hO : Ol a n x w) (hz : ∀ j, j < n → W.OzOk (x j)) (h : Bc pb n (fun i => .int .i64 (f i)) w) (hn : n ≤ 4000) :
    Calls Tryd.prog 38 #[.slice a n c, .slice (some ⟨pb, 0, none⟩) n n] w fun e w' => e = .returned (.int .i64 (W.tin x f n)) ∧ Below w.heap.size w w' := by
  have hi := inTurn2_any pb n f w h (by omega)
  have hof := of_any a n c x w hO hn hz
  unfold W.tin
  have HH : Hid (Calls _ _ _ _ _ ∧ Calls _ _ _ _ _ ∧ _) := ⟨hi, hof, h⟩
  clear hi hof h hO hz
  generalize W.inTb f n = IT at *
  cases IT
  · go_enter Tryd.func38, Tryd.ntmps38
    go_wp2_with (fail)
    refine HH.out.1.mono ?_
    rintro e w1 ⟨rfl, rfl⟩
    go_wp2_with (fail)
    refine HH.out.2.1.mono ?_
    rintro e w2 ⟨eb, S, rfl, hB, bl⟩
    have hP := HH.out.2.2.below bl
    have el := hB.e.lt
    have pl := hP.lt
    have HB : Hid (_ ∧ _ ∧ _) := ⟨hB, hP, bl⟩
    clear hB hP bl HH
    go_wp2
    go_loopw [5, 13] (fun t i wr => ∃ j : Nat, j ≤ n ∧ t = .int .i64 (W.tnF x f n j) ∧ i = .int .i64 (j : Int) ∧ wr = w2) (fun _ i _ => n - (intOf i).toNat)
    case atStart => exact ⟨0, by omega, rfl, rfl, rfl⟩
    case round =>
      obtain ⟨j, hj, rfl, rfl, rfl⟩ := hrel
      by_cases hlt : j < n
      · have hjn : (j : Int) < (n : Int) := by omega
        have ej := HB.out.1.e.c j hlt
        have pj := HB.out.2.1.c j hlt
        have hA := anyAhead_any (S j) (W.ofL x n j) pb n f (f j) wr (li_own (HB.out.1.i j hlt) (by have := W.ofL_len x n j; omega)) HB.out.2.1 (fun b hb => W.ofL_bd x n j b hb)
        have ht : W.tnF x f n (j + 1) = bif ((W.tnF x f n j == 0) || decide (f j < W.tnF x f n j)) && W.ahd x f n j then f j else W.tnF x f n j := rfl
        change Calls _ _ _ _ (fun e w' => e = .returned (.bool (W.ahd x f n j)) ∧ _) at hA
        have HA : Hid (Calls _ _ _ _ _ ∧ _) := ⟨hA, ht⟩
        clear hA ht
        try dsimp only at ej pj
        generalize slV (S j) = SJ at *
        generalize f j = p at *
        generalize W.tnF x f n j = T at *
        generalize W.ahd x f n j = AN at *
        cases e0 : (T == 0)
        · by_cases r : p < T
          · have e1 : decide (p < T) = true := by simpa using r
            rw [e0, e1] at HA
            go_wp2_with (fail)
            refine HA.out.1.mono ?_
            rintro e w1 ⟨rfl, rfl⟩
            cases AN
            · go_wp2
              go_roundw
              case rel => exact ⟨j + 1, by omega, by rw [HA.out.2]; rfl, by go_num, trivial⟩
              case measure => simp [intOf]; omega
            · go_wp2
              go_roundw
              case rel => exact ⟨j + 1, by omega, by rw [HA.out.2]; rfl, by go_num, trivial⟩
              case measure => simp [intOf]; omega
          · have e1 : decide (p < T) = false := by simpa using r
            rw [e0, e1] at HA
            go_wp2
            go_roundw
            case rel => exact ⟨j + 1, by omega, by rw [HA.out.2]; rfl, by go_num, trivial⟩
            case measure => simp [intOf]; omega
        · rw [e0] at HA
          go_wp2_with (fail)
          refine HA.out.1.mono ?_
          rintro e w1 ⟨rfl, rfl⟩
          cases AN
          · go_wp2
            go_roundw
            case rel => exact ⟨j + 1, by omega, by rw [HA.out.2]; rfl, by go_num, trivial⟩
            case measure => simp [intOf]; omega
          · go_wp2
            go_roundw
            case rel => exact ⟨j + 1, by omega, by rw [HA.out.2]; rfl, by go_num, trivial⟩
            case measure => simp [intOf]; omega
      · have e : j = n := by omega
        subst e
        have hjn : ¬ (j : Int) < (j : Int) := by omega
        have bl := HB.out.2.2
        clear HB
        go_wp2
        go_ret
        exact ⟨rfl, bl⟩
  · go_enter Tryd.func38, Tryd.ntmps38
    go_wp2_with (fail)
    refine HH.out.1.mono ?_
    rintro e w1 ⟨rfl, rfl⟩
    go_wp2
    go_ret
    exact ⟨rfl, Below.refl _ _⟩
theorem W.vd_oz {K : Nat} {n : Nat → Nat} {x : Nat → Nat → W.Oz} (v : W.Vd K n x) (h : Nat) (hh : h < K) (j : Nat) (hj : j < n h) : W.OzOk (x h j) := by
  have b := (v.s h hh).b j hj
  refine ⟨?_, ?_, (v.s h hh).a0 j hj, (v.s h hh).a1 j hj⟩
  · unfold W.FitB at b; omega
  · unfold W.FitB at b; omega
set_option maxHeartbeats 800000 in
theorem turned2_any (b K KC : Nat) (a : Nat → Option Addr) (n c : Nat → Nat) (x : Nat → Nat → W.Oz) (base PB : Nat) (pb : Nat → Nat) (f : Nat → Nat → Int) (w : World) (h : Hs b K a n c x w) (v : W.Vd K n x) (hP : Pl base PB K n pb f K w) (h4 : ∀ h, h < K → n h ≤ 4000) :
    Calls Tryd.prog 27 #[.slice (some ⟨b, 0, none⟩) K KC, .slice (some ⟨PB, 0, none⟩) K K] w fun e w' => e = .returned (.int .i64 (W.turF (fun h => W.tin (x h) (f h) (n h)) K)) ∧ Below w.heap.size w w' := by
  have k1 := v.k
  have HH : Hid (_ ∧ _ ∧ _ ∧ _) := ⟨h, v, hP, h4⟩
  clear h v hP h4
  go_enter Tryd.func27, Tryd.ntmps27
  go_wp2
  go_loopw [5, 11] (fun s i wr => ∃ j : Nat, j ≤ K ∧ s = .int .i64 (W.turF (fun h => W.tin (x h) (f h) (n h)) j) ∧ i = .int .i64 (j : Int) ∧ Below w.heap.size w wr) (fun _ i _ => K - (intOf i).toNat)
  case atStart => exact ⟨0, by omega, rfl, rfl, Below.refl _ _⟩
  case round =>
    obtain ⟨j, hj, rfl, rfl, br⟩ := hrel
    by_cases hlt : j < K
    · have hS := HH.out.1.below br
      have hQ := HH.out.2.2.1.below br
      have lt := hS.lt
      have pl := hQ.o.lt
      have g0 := hS.cl j hlt
      have q0 := hQ.o.c j hlt
      rw [if_pos hlt] at q0
      have hjn : (j : Int) < (K : Int) := by omega
      have ti := turnedIn2_any (a j) (c j) (x j) (pb j) (n j) (f j) wr (hS.ol j hlt) (fun i hi => W.vd_oz HH.out.2.1 j hlt i hi) (hQ.i j hlt) (HH.out.2.2.2 j hlt)
      have hs : W.turF (fun h => W.tin (x h) (f h) (n h)) (j + 1) = bif decide (0 < W.tin (x j) (f j) (n j)) && ((W.turF (fun h => W.tin (x h) (f h) (n h)) j == 0) || decide (W.tin (x j) (f j) (n j) < W.turF (fun h => W.tin (x h) (f h) (n h)) j)) then W.tin (x j) (f j) (n j) else W.turF (fun h => W.tin (x h) (f h) (n h)) j := rfl
      have HT : Hid (Calls _ _ _ _ _ ∧ _ ∧ _) := ⟨ti, hs, br⟩
      clear ti hs hS hQ br
      generalize W.tin (x j) (f j) (n j) = t at *
      generalize hT : W.turF (fun h => W.tin (x h) (f h) (n h)) j = T at *
      clear hT
      generalize n j = nj at *
      generalize a j = aj at *
      generalize c j = cj at *
      generalize pb j = pj at *
      go_wp2_with (fail)
      refine HT.out.1.mono ?_
      rintro e w1 ⟨rfl, b1⟩
      have B1 := HT.out.2.2.trans (b1.mono HT.out.2.2.size)
      clear b1 g0 q0 lt pl
      by_cases r0 : 0 < t
      · have d0 : decide (0 < t) = true := by simpa using r0
        cases e0 : (T == 0)
        · by_cases r : t < T
          · have d1 : decide (t < T) = true := by simpa using r
            rw [d0, e0, d1] at HT
            go_wp2
            go_roundw
            case rel => exact ⟨j + 1, by omega, by rw [HT.out.2.1]; rfl, by go_num, B1⟩
            case measure => simp [intOf]; omega
          · have d1 : decide (t < T) = false := by simpa using r
            rw [d0, e0, d1] at HT
            go_wp2
            go_roundw
            case rel => exact ⟨j + 1, by omega, by rw [HT.out.2.1]; rfl, by go_num, B1⟩
            case measure => simp [intOf]; omega
        · rw [d0, e0] at HT
          go_wp2
          go_roundw
          case rel => exact ⟨j + 1, by omega, by rw [HT.out.2.1]; rfl, by go_num, B1⟩
          case measure => simp [intOf]; omega
      · have d0 : decide (0 < t) = false := by simpa using r0
        rw [d0] at HT
        go_wp2
        go_roundw
        case rel => exact ⟨j + 1, by omega, by rw [HT.out.2.1]; rfl, by go_num, B1⟩
        case measure => simp [intOf]; omega
    · have e : j = K := by omega
      subst e
      have hjn : ¬ (j : Int) < (j : Int) := by omega
      go_wp2
      go_ret
      exact ⟨rfl, br⟩
end Go.Proofs.YtibohlbkkaghkaaDoor
