/- lead. -/
import Derived.Test.YtibohlbkkaghkaaDoorPpoN
namespace Go.Proofs.YtibohlbkkaghkaaDoor
open Go.ChangeShapes Go.WideShapes Go.ChangeAt Go.RowKit
set_option linter.unusedVariables false
set_option maxRecDepth 100000
set_option linter.unusedSimpArgs false
variable {F : Nat → Option Obj}

namespace W
theorem o8_idem (t : Int) (h0 : 0 ≤ t) (h1 : t < 256) : o8 (o8 t 128) 128 = o8 t 128 := by
  obtain ⟨n, rfl⟩ := Int.eq_ofNat_of_zero_le h0
  have : ((List.range 256).all fun n => o8 (o8 (n : Int) 128) 128 == o8 (n : Int) 128) = true := by decide +kernel
  simpa using List.all_eq_true.1 this n (List.mem_range.2 (by omega))
def ldO (b : Bool) (x : Act) : Act := ldA x b
/-- Those that m's address hangs on, marked. -/
def leadA (l : List Int) (m : Nat) (A : Nat → Act) (i : Nat) : Act := ldA (A i) (decide (i < m) && l.contains (i : Int))
theorem leadA_nil (m : Nat) (A : Nat → Act) (i : Nat) : leadA [] m A i = A i := by
  unfold leadA
  simp [ldA]
theorem contains_snoc (l : List Int) (x i : Int) : (l ++ [x]).contains i = (l.contains i || (i == x)) := by
  rw [Bool.eq_iff_iff]
  simp [List.mem_append]
theorem leadA_hit (l : List Int) (m : Nat) (A : Nat → Act) (j k : Nat) (hx : l[j]? = some (k : Int)) (hk : k < m) (ht : ∀ i, 0 ≤ (A i).t ∧ (A i).t < 256) (i : Nat) : (if i = k then ⟨(leadA (l.take j) m A i).p, o8 (leadA (l.take j) m A k).t 128⟩ else leadA (l.take j) m A i) = leadA (l.take (j + 1)) m A i := by
  obtain ⟨hj, e⟩ := List.getElem?_eq_some_iff.1 hx
  have hT : l.take (j + 1) = l.take j ++ [(k : Int)] := by rw [List.take_succ_eq_append_getElem hj, e]
  rw [hT]
  unfold leadA
  rw [contains_snoc]
  by_cases e : i = k
  · subst e
    have h1 : decide (i < m) = true := by simpa using hk
    rw [if_pos rfl, h1]
    have : ((i : Int) == (i : Int)) = true := by simp
    rw [this, Bool.or_true, Bool.and_true, Bool.true_and]
    unfold ldA
    cases (l.take j).contains (i : Int)
    · rfl
    · show (⟨(A i).p, o8 (o8 (A i).t 128) 128⟩ : Act) = ⟨(A i).p, o8 (A i).t 128⟩
      rw [o8_idem _ (ht i).1 (ht i).2]
  · rw [if_neg e]
    have : ((i : Int) == (k : Int)) = false := by simp; omega
    rw [this, Bool.or_false]
theorem leadA_miss (l : List Int) (m : Nat) (A : Nat → Act) (j : Nat) (x : Int) (hx : l[j]? = some x) (hn : ¬ (0 ≤ x ∧ x < (m : Int))) (i : Nat) : leadA (l.take j) m A i = leadA (l.take (j + 1)) m A i := by
  obtain ⟨hj, e⟩ := List.getElem?_eq_some_iff.1 hx
  have hT : l.take (j + 1) = l.take j ++ [x] := by rw [List.take_succ_eq_append_getElem hj, e]
  rw [hT]
  unfold leadA
  rw [contains_snoc]
  cases h : decide (i < m)
  · rfl
  · have h' : i < m := by simpa using h
    have : ((i : Int) == x) = false := by
      simp
      intro e2
      omega
    rw [this, Bool.or_false]
end W
theorem acF_congr {A B : Nat → W.Act} {n : Nat} (e : ∀ i, i < n → A i = B i) (j : Nat) (hj : j < 3 * n) : acF A j = acF B j := by
  unfold acF
  rw [e (j / 3) (by omega)]
theorem LkF.congrA {w0 : World} {d : Kd} {w : World} {A B : Nat → W.Act} (h : LkF F w0 { d with A := A } w) (e : ∀ i, i < d.n → A i = B i) : LkF F w0 { d with A := B } w :=
  { h with a := h.a.congr (acF_congr e) }
set_option maxHeartbeats 1600000 in
theorem lead_any (w0 : World) (d : Kd) (w : World) (h : LkF F w0 d w) (m : Nat) (hm : m < d.n) (hn : d.n ≤ 4096) (ht : ∀ i, 0 ≤ (d.A i).t ∧ (d.A i).t < 256) (lg lo lc : Nat) (hl : d.l = .slice (some ⟨lg, lo, none⟩) d.n lc) (z : W.Oz) (hz : OzAt lg (lo + m * 13) z w0) :
    Calls Tryd.prog 60 #[.pointer (some ⟨d.kb, 0, none⟩), .int .i64 (m : Int)] w fun e w' => e = .returned (.tuple #[]) ∧ LkF F w0 { d with A := W.leadA z.a m d.A } w' := by
  obtain ⟨kb, ab, pb, rb, gb, n, l, A, PP, R, G, B, k, H, hid⟩ := d
  dsimp only at *
  subst hl
  obtain ⟨oo, _, _, ⟨⟨sa, sn, sc⟩, a1, a2⟩, _, _⟩ := hz.below h.bl
  have gl := oo.lt
  have k0 := h.k.c 0 (by decide)
  have kl := h.k.lt
  simp only [Kd.f] at k0 kl
  have hM : (m : Int) < (n : Int) := by omega
  have sN := a2.n
  have sM := a2.m
  dsimp only at sN sM
  subst sN
  unfold slV at a1
  dsimp only at a1
  have nab : ∀ g o, 0 < z.a.length → sa = some ⟨g, o, none⟩ → g ≠ ab := by
    obtain ⟨hzo, _, _, ⟨s, b1, b2⟩, _, _⟩ := hz
    intro g o h0 e
    have q := (h.bl.cell (p := ⟨lg, lo + m * 13 + 10, none⟩) hzo.lt).trans b1
    rw [a1] at q
    unfold slV at q
    simp at q
    exact b2.old h.na g o (by rw [b2.n]; exact h0) (by rw [← q.1]; exact e)
  have HK : Hid (LkF _ _ _ _ ∧ Li _ _ _ ∧ _) := ⟨h, a2, nab⟩
  clear h hz oo a2 nab
  generalize z.a = L at *
  go_enter Tryd.func60, Tryd.ntmps60
  go_wp2
  go_loopw [15] (fun i wr => ∃ j : Nat, j ≤ L.length ∧ i = .int .i64 (j : Int) ∧ LkF F w0 ⟨kb, ab, pb, rb, gb, n, .slice (some ⟨lg, lo, none⟩) n lc, W.leadA (L.take j) m A, PP, R, G, B, k, H, hid⟩ wr ∧ Li ⟨sa, L.length, sc⟩ L wr) (fun i _ => L.length - (intOf i).toNat)
  case atStart =>
    refine ⟨0, by omega, rfl, ?_, HK.out.2.1⟩
    exact LkF.congrA (d := ⟨kb, ab, pb, rb, gb, n, .slice (some ⟨lg, lo, none⟩) n lc, A, PP, R, G, B, k, H, hid⟩) (A := A) HK.out.1 fun i hi => by rw [List.take_zero, W.leadA_nil]
  case round =>
    obtain ⟨j, hj, rfl, hL, hI⟩ := hrel
    clear k0 kl a1 gl
    by_cases hlt : j < L.length
    · obtain ⟨xb, xo, rfl, xl, xc⟩ := hI.at_ (by show 0 < L.length; omega)
      have g0 := xc j L[j] (List.getElem?_eq_getElem hlt)
      have ex : L[j]? = some L[j] := List.getElem?_eq_getElem hlt
      have hne := HK.out.2.2 xb xo (by omega) rfl
      generalize L[j] = x at *
      have k1 := hL.k.c 1 (by decide)
      have kl := hL.k.lt
      have al := hL.a.lt
      have fz := hL.a.fz
      simp only [Kd.f] at k1 kl al fz
      clear xc
      by_cases hx : 0 ≤ x ∧ x < (m : Int)
      · obtain ⟨q, rfl⟩ := Int.eq_ofNat_of_zero_le hx.1
        have hq : q < m := by omega
        obtain ⟨_, _, x2⟩ := hL.act q (by show q < n; omega)
        dsimp only at x2
        have x1 : (q : Int) < (m : Int) := by omega
        have x1' : (q : Int) < (n : Int) := by omega
        have X := LkF.congrA (d := ⟨kb, ab, pb, rb, gb, n, .slice (some ⟨lg, lo, none⟩) n lc, A, PP, R, G, B, k, H, hid⟩) (hL.setT q (W.o8 (W.leadA (L.take j) m A q).t 128)) (fun i hi => W.leadA_hit L m A j q ex hq ht i)
        have I' := hI.set ab (q * 3 + 2) (.int .u8 (W.o8 (W.leadA (L.take j) m A q).t 128)) (fun g o _ e => by cases e; exact hne)
        dsimp only at X
        unfold W.o8 at X I'
        have HX : Hid (_ ∧ _) := ⟨X, I'⟩
        clear X I' hL hI ex hx ht
        generalize W.leadA (L.take j) m A q = Y at *
        go_wp2
        go_roundw
        case rel => exact ⟨j + 1, by omega, by go_num, HX.out.1, HX.out.2⟩
        case measure => simp [intOf]; omega
      · have X := LkF.congrA (d := ⟨kb, ab, pb, rb, gb, n, .slice (some ⟨lg, lo, none⟩) n lc, A, PP, R, G, B, k, H, hid⟩) hL (fun i hi => W.leadA_miss L m A j x ex hx i)
        dsimp only at X
        have HX : Hid (_ ∧ _) := ⟨X, hI⟩
        clear X hL hI ex ht
        by_cases h0 : 0 ≤ x
        · have h1 : ¬ x < (m : Int) := fun h => hx ⟨h0, h⟩
          clear hx
          go_wp2
          go_roundw
          case rel => exact ⟨j + 1, by omega, by go_num, HX.out.1, HX.out.2⟩
          case measure => simp [intOf]; omega
        · clear hx
          go_wp2
          go_roundw
          case rel => exact ⟨j + 1, by omega, by go_num, HX.out.1, HX.out.2⟩
          case measure => simp [intOf]; omega
    · have e : j = L.length := by omega
      subst e
      rw [List.take_length] at hL
      have X : Hid _ := hL
      clear hL hI
      go_wp2
      go_end0
      exact ⟨rfl, X.out⟩
end Go.Proofs.YtibohlbkkaghkaaDoor
