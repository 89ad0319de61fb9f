/- wmo: shapes. -/
import Derived.Test.YtibohlbkkaghkaaDoorWmoA
import Derived.Test.YtibohlbkkaghkaaDoorPpoR
import Derived.Deep.RegionHeld3
namespace Go.Proofs.YtibohlbkkaghkaaDoor
open Go.ChangeShapes Go.WideShapes Go.ChangeAt Go.RowKit
set_option linter.unusedVariables false
set_option linter.unusedSimpArgs false

set_option maxHeartbeats 800000 in
theorem allBelow_any (s : W.Sl) (l : List Int) (n : Int) (w : World) (h : Li s l w) (hl : ∀ d ∈ l, 0 ≤ d ∧ d < n) :
    Calls Tryd.prog 57 #[slV s, .int .i64 n] w fun e w' => e = .returned (.bool true) ∧ w = w' := by
  obtain ⟨hn, hm, _, hc⟩ := h
  obtain ⟨a, m, c⟩ := s
  simp only at hn hm hc
  subst hn
  have HK : Hid (_ ∧ _) := ⟨hc, hl⟩
  clear hc hl
  unfold slV
  go_enter Tryd.func57, Tryd.ntmps57
  go_wp2
  go_loopw [9] (fun i wr => ∃ j : Nat, j ≤ l.length ∧ i = .int .i64 j ∧ wr = w) (fun i _ => l.length - (intOf i).toNat)
  case atStart => exact ⟨0, by omega, rfl, rfl⟩
  case round =>
    obtain ⟨j, hj, rfl, rfl⟩ := hrel
    by_cases hlt : j < l.length
    · obtain ⟨b, o, rfl, hb, hc⟩ := HK.out.1 (by omega)
      have g0 := hc j l[j] (List.getElem?_eq_getElem hlt)
      have g1 := HK.out.2 l[j] (List.getElem_mem hlt)
      have hjn : (j : Int) < (l.length : Int) := by omega
      clear hc
      generalize l[j] = x at *
      have x0 : ¬ x < 0 := by omega
      have x1 : ¬ n ≤ x := by omega
      go_wp2
      go_roundw
      case rel => exact ⟨j + 1, by omega, by go_num, trivial⟩
      case measure => simp [intOf]; omega
    · have hjn : ¬ (j : Int) < (l.length : Int) := by omega
      go_wp2
      go_ret
      exact ⟨rfl, rfl⟩
set_option maxHeartbeats 800000 in
theorem depsFit_any (g off : Nat) (z : W.Oz) (n : Int) (w : World) (h : OzAt g off z w) (ha : ∀ d ∈ z.a, 0 ≤ d ∧ d < n) (hd : ∀ d ∈ z.d, 0 ≤ d ∧ d < n) (hc : ∀ d ∈ z.c, 0 ≤ d ∧ d < n) :
    Calls Tryd.prog 49 #[.pointer (some ⟨g, off, none⟩), .int .i64 n] w fun e w' => e = .returned (.bool true) ∧ w = w' := by
  obtain ⟨⟨lt, _, _, _, _, _, _⟩, _, _, ⟨s1, a1, a2⟩, ⟨s2, b1, b2⟩, ⟨s3, d1, d2⟩⟩ := h
  have HH : Hid (_ ∧ _ ∧ _) := ⟨allBelow_any s1 _ n w a2 ha, allBelow_any s2 _ n w b2 hd, allBelow_any s3 _ n w d2 hc⟩
  clear a2 b2 d2 ha hd hc
  generalize slV s1 = v1 at *
  generalize slV s2 = v2 at *
  generalize slV s3 = v3 at *
  go_enter Tryd.func49, Tryd.ntmps49
  go_wp2_with (fail)
  refine HH.out.1.mono ?_
  rintro e w1 ⟨rfl, rfl⟩
  go_wp2_with (fail)
  refine HH.out.2.1.mono ?_
  rintro e w1 ⟨rfl, rfl⟩
  go_wp2_with (fail)
  refine HH.out.2.2.mono ?_
  rintro e w1 ⟨rfl, rfl⟩
  go_wp2
  go_ret
  exact ⟨rfl, rfl⟩
/-- A paired one that may be. -/
def W.FitP (x : Nat → W.Oz) (j : Nat) : Prop := ((x j).o.k = 1 ∧ (x j).o.sz = 4) ∨ ((x j).o.k = 2 ∧ (x j).o.sz = 4 ∧ 0 ≤ W.pairO x j ∧ (x (W.pairO x j).toNat).o.ad = (x j).o.ad)
/-- Operations whose shapes are such as can be. -/
structure W.Shp (x : Nat → W.Oz) (n : Nat) : Prop where
  b : ∀ j, j < n → W.FitB (x j).o
  a0 : ∀ j, j < n → 0 ≤ (x j).o.ad
  a1 : ∀ j, j < n → (x j).o.ad < 4294967296
  a : ∀ j, j < n → ∀ d ∈ (x j).a, 0 ≤ d ∧ d < (j : Int)
  d : ∀ j, j < n → ∀ d ∈ (x j).d, 0 ≤ d ∧ d < (j : Int)
  c : ∀ j, j < n → ∀ d ∈ (x j).c, 0 ≤ d ∧ d < (j : Int)
  p : ∀ j, j < n → (x j).o.pr = true → W.FitP x j
theorem W.pairO_lt (x : Nat → W.Oz) (n : Nat) : W.pairO x n < (n : Int) ∧ -1 ≤ W.pairO x n := by
  have := W.lastP_lt x n
  unfold W.pairO
  cases ((x n).o.pr && ((x n).o.k == 2) && decide (0 ≤ W.lastP x n) && ((x (W.lastP x n).toNat).o.k == 1))
  · exact ⟨by show (-1 : Int) < _; omega, by show (-1 : Int) ≤ -1; omega⟩
  · exact ⟨this.2, this.1⟩
set_option maxHeartbeats 800000 in
theorem pairFits_any (g off : Nat) (m c : Nat) (x : Nat → W.Oz) (j : Nat) (hj : j < m) (w : World) (hx : ∀ j, j < m → OzAt g (off + j * 13) (x j) w) (hm : m ≤ 4096) (hf : W.FitP x j) :
    Calls Tryd.prog 50 #[.slice (some ⟨g, off, none⟩) m c, .int .i64 (j : Int), .int .i64 (W.pairO x j)] w fun e w' => e = .returned (.bool true) ∧ Below w.heap.size w w' := by
  have lt := (hx j hj).o.lt
  have c0 := (hx j hj).o.c0
  have c1 := (hx j hj).o.c1
  have c2 := (hx j hj).o.c2
  have hjm : (j : Int) < (m : Int) := by omega
  unfold W.FitP at hf
  rcases hf with ⟨hk, hs⟩ | ⟨hk, hs, hp, ha⟩
  · rw [hk] at c0
    rw [hs] at c1
    generalize W.pairO x j = P at *
    clear hx c2
    go_enter Tryd.func50, Tryd.ntmps50
    go_wp2
    go_ret
    exact ⟨rfl, Below.refl _ _⟩
  · rw [hk] at c0
    rw [hs] at c1
    have hlt := (W.pairO_lt x j).1
    obtain ⟨q, hq⟩ := Int.eq_ofNat_of_zero_le hp
    rw [hq] at hlt ⊢
    rw [hq, Int.toNat_natCast] at ha
    have d2 := (hx q (by omega)).o.c2
    rw [ha] at d2
    have hqm : (q : Int) < (m : Int) := by omega
    clear hx
    go_enter Tryd.func50, Tryd.ntmps50
    go_wp2
    first
      | (go_ret; first | exact ⟨rfl, Below.refl _ _⟩ | exact ⟨by simp, Below.refl _ _⟩)
      | (go_region; go_wp2; go_ret; first | exact ⟨rfl, (Below.refl _ _).drew⟩ | exact ⟨by simp, (Below.refl _ _).drew⟩)
set_option maxHeartbeats 1600000 in
theorem misshapen_any (a : Option Addr) (n c : Nat) (x : Nat → W.Oz) (w : World) (hO : Ol a n x w) (hn : n ≤ 4096) (hS : W.Shp x n) :
    Calls Tryd.prog 35 #[.slice a n c] w fun e w' => e = .returned (.int .i64 (n : Int)) ∧ Below w.heap.size w w' := by
  have HH : Hid (Calls _ _ _ _ _ ∧ _ ∧ _) := ⟨pairs_any a n c x w hO hn, hO, hS⟩
  clear hO hS
  go_enter Tryd.func35, Tryd.ntmps35
  go_wp2_with (fail)
  refine HH.out.1.mono ?_
  rintro e w1 ⟨⟨pg, rfl, hpg, hP⟩, b1⟩
  have HP : Hid (_ ∧ _) := ⟨hP, b1⟩
  clear hP b1
  go_wp2
  go_loopw [10] (fun i wr => ∃ j : Nat, j ≤ n ∧ i = .int .i64 j ∧ Below w1.heap.size w1 wr) (fun i _ => n - (intOf i).toNat)
  case atStart => exact ⟨0, by omega, rfl, Below.refl _ _⟩
  case round =>
    obtain ⟨j, hj, rfl, br⟩ := hrel
    by_cases hlt : j < n
    · have hjn : (j : Int) < (n : Int) := by omega
      have bwr : Below w.heap.size w wr := HP.out.2.trans (br.mono HP.out.2.size)
      obtain ⟨g, off, rfl, hx⟩ := (HH.out.2.1.below bwr).at_ (by omega)
      have S := HH.out.2.2
      have c1 := bytesFit_any g (off + j * 13) (x j).o wr (hx j hlt).o (S.b j hlt) (S.a0 j hlt) (S.a1 j hlt)
      have c2 := fun w' (hb : Below wr.heap.size wr w') => depsFit_any g (off + j * 13) (x j) (j : Int) w' ((hx j hlt).below hb) (S.a j hlt) (S.d j hlt) (S.c j hlt)
      have pc := (HP.out.1.below br).c j hlt
      have pl := (HP.out.1.below br).lt
      have p5 := (hx j hlt).o.c5
      have xl := (hx j hlt).o.lt
      have c3 := fun w' (hb : Below wr.heap.size wr w') (hp : (x j).o.pr = true) => pairFits_any g off n c x j hlt w' (fun q hq => (hx q hq).below hb) hn (S.p j hlt hp)
      have HC : Hid (_ ∧ _ ∧ _ ∧ _) := ⟨c1, c2, c3, br⟩
      clear c1 c2 c3 hx S br bwr
      cases hpr : (x j).o.pr
      · rw [hpr] at p5
        go_wp2_with (fail)
        refine HC.out.1.mono ?_
        rintro e w2 ⟨rfl, b2⟩
        have p5' := (b2.cell (p := ⟨g, off + j * 13 + 5, none⟩) xl).trans p5
        have xl' := Nat.lt_of_lt_of_le xl b2.size
        go_wp2_with (fail)
        refine (HC.out.2.1 _ b2).mono ?_
        rintro e w3 ⟨rfl, rfl⟩
        have b4 := HC.out.2.2.2.trans (b2.mono HC.out.2.2.2.size)
        clear HC b2 p5 xl pc pl
        go_wp2
        go_roundw
        case rel => exact ⟨j + 1, by omega, by go_num, b4⟩
        case measure => simp [intOf]; omega
      · rw [hpr] at p5
        go_wp2_with (fail)
        refine HC.out.1.mono ?_
        rintro e w2 ⟨rfl, b2⟩
        have p5' := (b2.cell (p := ⟨g, off + j * 13 + 5, none⟩) xl).trans p5
        have xl' := Nat.lt_of_lt_of_le xl b2.size
        have pc' := (b2.cell (p := ⟨pg, j, none⟩) pl).trans pc
        have pl' := Nat.lt_of_lt_of_le pl b2.size
        go_wp2_with (fail)
        refine (HC.out.2.1 _ b2).mono ?_
        rintro e w3 ⟨rfl, rfl⟩
        go_wp2_with (fail)
        refine (HC.out.2.2.1 _ b2 hpr).mono ?_
        rintro e w3 ⟨rfl, b3⟩
        have b4 := HC.out.2.2.2.trans ((b2.trans (b3.mono b2.size)).mono HC.out.2.2.2.size)
        clear HC b2 b3 p5 xl pc pl p5' pc' xl' pl'
        go_wp2
        go_roundw
        case rel => exact ⟨j + 1, by omega, by go_num, b4⟩
        case measure => simp [intOf]; omega
    · have hjn : ¬ (j : Int) < (n : Int) := by omega
      have b4 := HP.out.2.trans (br.mono HP.out.2.size)
      clear br
      go_wp2
      go_ret
      exact ⟨rfl, b4⟩
end Go.Proofs.YtibohlbkkaghkaaDoor
