/- Texts in one: PpoN, PpoP, PpoT0, PpoO0, PpoO2n, PpoO2s. -/
import Derived.BigRegion
import Derived.Test.YtibohlbkkaghkaaDoorJ09
/- pass. -/
namespace Go.Proofs.YtibohlbkkaghkaaDoor
open Go.ChangeShapes Go.WideShapes Go.ChangeAt Go.RowKit
set_option linter.unusedVariables false
set_option linter.unusedSimpArgs false
variable {F : Nat → Option Obj}

/-- Cells of one and of b, over a call. -/
theorem xb_below {w w1 w2 : World} {ab kb i : Nat} {F Z T F2 Z2 T2 : Int} (h : Below w.heap.size w w1 ∧ ab < w1.heap.size ∧ kb < w1.heap.size ∧ w1.cell? ⟨ab, i * 3, none⟩ = some (.int .u32 F) ∧ w1.cell? ⟨ab, i * 3 + 1, none⟩ = some (.int .u64 Z) ∧ w1.cell? ⟨ab, i * 3 + 2, none⟩ = some (.int .u8 T) ∧ w1.cell? ⟨kb, 5, none⟩ = some (.int .u32 F2) ∧ w1.cell? ⟨kb, 6, none⟩ = some (.int .u64 Z2) ∧ w1.cell? ⟨kb, 7, none⟩ = some (.int .u8 T2)) (hb : Below w1.heap.size w1 w2) : Below w.heap.size w w2 ∧ ab < w2.heap.size ∧ kb < w2.heap.size ∧ w2.cell? ⟨ab, i * 3, none⟩ = some (.int .u32 F) ∧ w2.cell? ⟨ab, i * 3 + 1, none⟩ = some (.int .u64 Z) ∧ w2.cell? ⟨ab, i * 3 + 2, none⟩ = some (.int .u8 T) ∧ w2.cell? ⟨kb, 5, none⟩ = some (.int .u32 F2) ∧ w2.cell? ⟨kb, 6, none⟩ = some (.int .u64 Z2) ∧ w2.cell? ⟨kb, 7, none⟩ = some (.int .u8 T2) := by
  obtain ⟨h1, h2, h3, h5, h6, h7, h8, h9, h10⟩ := h
  obtain ⟨q, _⟩ := bcell hb
  have z := hb.size
  exact ⟨h1.trans (hb.mono h1.size), by omega, by omega, (q _ _ h2).trans h5, (q _ _ h2).trans h6, (q _ _ h2).trans h7, (q _ _ h3).trans h8, (q _ _ h3).trans h9, (q _ _ h3).trans h10⟩
theorem xb_drew {w : World} {ab kb i : Nat} {F Z T F2 Z2 T2 : Int} (h2 : ab < w.heap.size) (h3 : kb < w.heap.size) (h5 : w.cell? ⟨ab, i * 3, none⟩ = some (.int .u32 F)) (h6 : w.cell? ⟨ab, i * 3 + 1, none⟩ = some (.int .u64 Z)) (h7 : w.cell? ⟨ab, i * 3 + 2, none⟩ = some (.int .u8 T)) (h8 : w.cell? ⟨kb, 5, none⟩ = some (.int .u32 F2)) (h9 : w.cell? ⟨kb, 6, none⟩ = some (.int .u64 Z2)) (h10 : w.cell? ⟨kb, 7, none⟩ = some (.int .u8 T2)) : Below w.heap.size w w.drew ∧ ab < w.drew.heap.size ∧ kb < w.drew.heap.size ∧ w.drew.cell? ⟨ab, i * 3, none⟩ = some (.int .u32 F) ∧ w.drew.cell? ⟨ab, i * 3 + 1, none⟩ = some (.int .u64 Z) ∧ w.drew.cell? ⟨ab, i * 3 + 2, none⟩ = some (.int .u8 T) ∧ w.drew.cell? ⟨kb, 5, none⟩ = some (.int .u32 F2) ∧ w.drew.cell? ⟨kb, 6, none⟩ = some (.int .u64 Z2) ∧ w.drew.cell? ⟨kb, 7, none⟩ = some (.int .u8 T2) :=
  ⟨(Below.refl _ _).drew, h2, h3, h5, h6, h7, h8, h9, h10⟩

set_option maxHeartbeats 1600000 in
theorem pass_any (w0 : World) (d : Kd) (w : World) (h : LkF F w0 d w) (i : Nat) (hi : i < d.n) (hn : d.n ≤ 4096) (hm : d.hid.length ≤ 4096) (oa : W.SpOk (d.A i).p) (ob : W.SpOk d.b.p) (g off : Nat) (z : W.Oz) (hz : OzAt g off z w0) :
    Calls Tryd.prog 70 #[.pointer (some ⟨d.kb, 0, none⟩), .pointer (some ⟨d.ab, i * 3, none⟩), .pointer (some ⟨g, off, none⟩)] w fun e w' => e = .returned (.tuple #[]) ∧ ∃ P, LkF F w0 { d with H := P, hid := (W.pass d.b (d.A i) z d.st).h, G := (W.pass d.b (d.A i) z d.st).g } w' := by
  obtain ⟨x0, x1, x2⟩ := h.act i hi
  have al := h.a.lt
  have k5 := h.k.c 5 (by decide)
  have k6 := h.k.c 6 (by decide)
  have k7 := h.k.c 7 (by decide)
  have kl := h.k.lt
  simp only [Kd.f] at k5 k6 k7
  have hM := fun w => meets_any (d.A i).p d.b.p oa ob w
  have hS := fun w' (hb : Below w.heap.size w w') => sees_any w0 d w' (h.below hb) i hi hm oa ob
  have hN := fun w' (d' : Kd) (k : LkF F w0 d' w') (hd : d'.n ≤ 4096) s l (hl : Li s l w0) => note_any w0 d' w' k hd 12 (by decide) s l (hl.below k.bl) (hl.old k.ng)
  have hH := fun w' (d' : Kd) (k : LkF F w0 d' w') (hd : d'.hid.length ≤ 4096) => hide_any w0 d' w' k (d.A i).p oa hd
  have HK : Hid (LkF F w0 d w ∧ OzAt g off z w0) := ⟨h, hz⟩
  unfold spV at hM hH
  unfold W.pass W.a8 Kd.st
  dsimp only
  obtain ⟨kb, ab, pb, rb, hb, n, l, A, PP, R, G, ⟨⟨F2, Z2⟩, T2⟩, k, H, hid⟩ := d
  dsimp only at *
  generalize hX : A i = X at *
  obtain ⟨⟨F, Z⟩, T⟩ := X
  dsimp only at *
  generalize W.meets ⟨F, Z⟩ ⟨F2, Z2⟩ = M at *
  generalize hSS : W.sees hid ⟨F, Z⟩ ⟨F2, Z2⟩ = S at *
  have HM : Hid _ := hM
  have hX' : Hid _ := hX
  have HH : Hid (_ ∧ _ ∧ _) := ⟨hS, hN, hH⟩
  clear hM hS hN hH h oa ob hz hX
  cases q2 : (bits BinOp.and IntKind.u8 T 2 == 0)
  · cases q1 : (bits BinOp.and IntKind.u8 T2 1 == 0)
    · cases M
      · skip
        go_enter Tryd.func70, Tryd.ntmps70
        go_wp2
        refine wp_region_quiet (C := fun w' => Below w.heap.size w w' ∧ ab < w'.heap.size ∧ kb < w'.heap.size ∧ w'.cell? ⟨ab, i * 3, none⟩ = some (.int .u32 F) ∧ w'.cell? ⟨ab, i * 3 + 1, none⟩ = some (.int .u64 Z) ∧ w'.cell? ⟨ab, i * 3 + 2, none⟩ = some (.int .u8 T) ∧ w'.cell? ⟨kb, 5, none⟩ = some (.int .u32 F2) ∧ w'.cell? ⟨kb, 6, none⟩ = some (.int .u64 Z2) ∧ w'.cell? ⟨kb, 7, none⟩ = some (.int .u8 T2)) (by kernel_rfl) (by kernel_rfl) (xb_drew al kl x0 x1 x2 k5 k6 k7) ?_
        clear x0 x1 x2 k5 k6 k7
        simp only [List.toList_toArray]
        repeat (first
          | go_big_quiet_skip
          | (go_big_quiet_want; go_big_quiet_op; go_big_quiet_on)
          | (go_big_quiet_want
             apply Exists.intro
             refine ⟨fun wq hw => ?_, ?_⟩
             · (try dsimp only at hw)
               go_simp
               first
                 | rfl
                 | (go_at_call 68; refine (HM.out _).mono ?_; rintro e w5 ⟨rfl, hm⟩; exact ⟨rfl, xb_below hw hm⟩)
             (try simp only [Act.put, List.setIfInBounds_toArray, List.set_cons_zero, List.set_cons_succ])
             go_big_quiet_on))
        refine wpQuiet_nil ?_
        intro w9 hS9
        go_wp2
        refine bodyPost_ret (v := .tuple #[]) (by simp [results, Tryd.results70, go_sem]) rfl ⟨rfl, H, HK.out.1.below hS9.1⟩
      · skip
        go_enter Tryd.func70, Tryd.ntmps70
        go_wp2
        refine wp_region_quiet (C := fun w' => Below w.heap.size w w' ∧ ab < w'.heap.size ∧ kb < w'.heap.size ∧ w'.cell? ⟨ab, i * 3, none⟩ = some (.int .u32 F) ∧ w'.cell? ⟨ab, i * 3 + 1, none⟩ = some (.int .u64 Z) ∧ w'.cell? ⟨ab, i * 3 + 2, none⟩ = some (.int .u8 T) ∧ w'.cell? ⟨kb, 5, none⟩ = some (.int .u32 F2) ∧ w'.cell? ⟨kb, 6, none⟩ = some (.int .u64 Z2) ∧ w'.cell? ⟨kb, 7, none⟩ = some (.int .u8 T2)) (by kernel_rfl) (by kernel_rfl) (xb_drew al kl x0 x1 x2 k5 k6 k7) ?_
        clear x0 x1 x2 k5 k6 k7
        simp only [List.toList_toArray]
        repeat (first
          | go_big_quiet_skip
          | (go_big_quiet_want; go_big_quiet_op; go_big_quiet_on)
          | (go_big_quiet_want
             apply Exists.intro
             refine ⟨fun wq hw => ?_, ?_⟩
             · (try dsimp only at hw)
               go_simp
               first
                 | rfl
                 | (go_at_call 68; refine (HM.out _).mono ?_; rintro e w5 ⟨rfl, hm⟩; exact ⟨rfl, xb_below hw hm⟩)
             (try simp only [Act.put, List.setIfInBounds_toArray, List.set_cons_zero, List.set_cons_succ])
             go_big_quiet_on))
        refine wpQuiet_nil ?_
        intro w9 hS9
        obtain ⟨B9, al9, kl9, y0, y1, _, _, _, _⟩ := hS9
        have HKO := HK.out.2
        obtain ⟨oo, _, _, ⟨s1, a1, a2⟩, ⟨s2, e1, e2⟩, _⟩ := HKO
        have gl := oo.lt
        have nk := HK.out.1.nk
        cases S
        · go_wp2_with (fail)
          refine (HH.out.1 _ B9).mono ?_
          rintro e w10 ⟨rfl, b10⟩
          have B10 := B9.trans (b10.mono B9.size)
          have L10 := HK.out.1.below B10
          have y0' := (b10.cell (p := ⟨ab, i * 3, none⟩) al9).trans y0
          have y1' := (b10.cell (p := ⟨ab, i * 3 + 1, none⟩) al9).trans y1
          have al10 : ab < w10.heap.size := Nat.lt_of_lt_of_le al9 b10.size
          have HL10 : Hid _ := L10
          clear L10 y0 y1 b10 a1 a2 e1 e2
          go_wp2_with (fail)
          refine (HH.out.2.2 _ _ HL10.out hm).mono ?_
          rintro e w11 ⟨rfl, P11, L11⟩
          have HL11 : Hid _ := L11
          clear L11 y0' y1'
          go_wp2
          go_end0
          exact ⟨rfl, P11, HL11.out⟩
        · go_wp2_with (fail)
          refine (HH.out.1 _ B9).mono ?_
          rintro e w10 ⟨rfl, b10⟩
          have B10 := B9.trans (b10.mono B9.size)
          have L10 := HK.out.1.below B10
          have c10 := (L10.bl.cell (p := ⟨g, off + 10, none⟩) gl).trans a1
          have gl10 : g < w10.heap.size := Nat.lt_of_lt_of_le gl L10.bl.size
          have HL10 : Hid _ := L10
          have HA : Hid _ := And.intro a2 (And.intro e1 e2)
          clear L10 y0 y1 b10 a1 a2 e1 e2
          obtain ⟨s1a, s1n, s1c⟩ := s1
          obtain ⟨s2a, s2n, s2c⟩ := s2
          unfold slV at c10
          dsimp only at c10
          go_wp2_with (fail)
          refine (HH.out.2.1 _ _ HL10.out hn ⟨s1a, s1n, s1c⟩ _ HA.out.1).mono ?_
          rintro e w11 ⟨rfl, L11⟩
          have c11 := (L11.bl.cell (p := ⟨g, off + 11, none⟩) gl).trans HA.out.2.1
          have gl11 : g < w11.heap.size := Nat.lt_of_lt_of_le gl L11.bl.size
          have HL11 : Hid _ := L11
          clear L11 c10 HL10
          unfold slV at c11
          dsimp only at c11
          go_wp2_with (fail)
          refine (HH.out.2.1 _ _ HL11.out hn ⟨s2a, s2n, s2c⟩ _ HA.out.2.2).mono ?_
          rintro e w12 ⟨rfl, L12⟩
          obtain ⟨y0, y1, _⟩ := L12.act i hi
          dsimp only at y0 y1
          rw [hX'.out] at y0 y1
          have al12 := L12.a.lt
          have HL12 : Hid _ := L12
          clear L12 c11 HL11
          dsimp only at y0 y1 al12
          go_wp2_with (fail)
          refine (HH.out.2.2 _ _ HL12.out hm).mono ?_
          rintro e w13 ⟨rfl, P13, L13⟩
          have HL13 : Hid _ := L13
          clear L13 y0 y1
          go_wp2
          go_end0
          exact ⟨rfl, P13, HL13.out⟩
    · skip
      go_enter Tryd.func70, Tryd.ntmps70
      go_wp2
      refine wp_region_quiet (C := fun w' => Below w.heap.size w w' ∧ ab < w'.heap.size ∧ kb < w'.heap.size ∧ w'.cell? ⟨ab, i * 3, none⟩ = some (.int .u32 F) ∧ w'.cell? ⟨ab, i * 3 + 1, none⟩ = some (.int .u64 Z) ∧ w'.cell? ⟨ab, i * 3 + 2, none⟩ = some (.int .u8 T) ∧ w'.cell? ⟨kb, 5, none⟩ = some (.int .u32 F2) ∧ w'.cell? ⟨kb, 6, none⟩ = some (.int .u64 Z2) ∧ w'.cell? ⟨kb, 7, none⟩ = some (.int .u8 T2)) (by kernel_rfl) (by kernel_rfl) (xb_drew al kl x0 x1 x2 k5 k6 k7) ?_
      clear x0 x1 x2 k5 k6 k7
      simp only [List.toList_toArray]
      repeat (first
        | go_big_quiet_skip
        | (go_big_quiet_want; go_big_quiet_op; go_big_quiet_on)
        | (go_big_quiet_want
           apply Exists.intro
           refine ⟨fun wq hw => ?_, ?_⟩
           · (try dsimp only at hw)
             go_simp
             first
               | rfl
               | (go_at_call 68; refine (HM.out _).mono ?_; rintro e w5 ⟨rfl, hm⟩; exact ⟨rfl, xb_below hw hm⟩)
           (try simp only [Act.put, List.setIfInBounds_toArray, List.set_cons_zero, List.set_cons_succ])
           go_big_quiet_on))
      refine wpQuiet_nil ?_
      intro w9 hS9
      go_wp2
      refine bodyPost_ret (v := .tuple #[]) (by simp [results, Tryd.results70, go_sem]) rfl ⟨rfl, H, HK.out.1.below hS9.1⟩
  · skip
    go_enter Tryd.func70, Tryd.ntmps70
    go_wp2
    refine wp_region_quiet (C := fun w' => Below w.heap.size w w' ∧ ab < w'.heap.size ∧ kb < w'.heap.size ∧ w'.cell? ⟨ab, i * 3, none⟩ = some (.int .u32 F) ∧ w'.cell? ⟨ab, i * 3 + 1, none⟩ = some (.int .u64 Z) ∧ w'.cell? ⟨ab, i * 3 + 2, none⟩ = some (.int .u8 T) ∧ w'.cell? ⟨kb, 5, none⟩ = some (.int .u32 F2) ∧ w'.cell? ⟨kb, 6, none⟩ = some (.int .u64 Z2) ∧ w'.cell? ⟨kb, 7, none⟩ = some (.int .u8 T2)) (by kernel_rfl) (by kernel_rfl) (xb_drew al kl x0 x1 x2 k5 k6 k7) ?_
    clear x0 x1 x2 k5 k6 k7
    simp only [List.toList_toArray]
    repeat (first
      | go_big_quiet_skip
      | (go_big_quiet_want; go_big_quiet_op; go_big_quiet_on)
      | (go_big_quiet_want
         apply Exists.intro
         refine ⟨fun wq hw => ?_, ?_⟩
         · (try dsimp only at hw)
           go_simp
           first
             | rfl
             | (go_at_call 68; refine (HM.out _).mono ?_; rintro e w5 ⟨rfl, hm⟩; exact ⟨rfl, xb_below hw hm⟩)
         (try simp only [Act.put, List.setIfInBounds_toArray, List.set_cons_zero, List.set_cons_succ])
         go_big_quiet_on))
    refine wpQuiet_nil ?_
    intro w9 hS9
    go_wp2
    refine bodyPost_ret (v := .tuple #[]) (by simp [results, Tryd.results70, go_sem]) rfl ⟨rfl, H, HK.out.1.below hS9.1⟩
end Go.Proofs.YtibohlbkkaghkaaDoor

/- lead. -/
namespace Go.Proofs.YtibohlbkkaghkaaDoor
open Go.ChangeShapes Go.WideShapes Go.ChangeAt Go.RowKit
set_option linter.unusedVariables false
set_option maxRecDepth 100000
set_option linter.unusedSimpArgs false
variable {F : Nat → Option Obj}

namespace W
theorem o8_idem (t : Int) (h0 : 0 ≤ t) (h1 : t < 256) : o8 (o8 t 128) 128 = o8 t 128 := by
  obtain ⟨n, rfl⟩ := Int.eq_ofNat_of_zero_le h0
  have : ((List.range 256).all fun n => o8 (o8 (n : Int) 128) 128 == o8 (n : Int) 128) = true := by decide +kernel
  simpa using List.all_eq_true.1 this n (List.mem_range.2 (by omega))
def ldO (b : Bool) (x : Act) : Act := ldA x b
/-- Those that m's address hangs on, marked. -/
def leadA (l : List Int) (m : Nat) (A : Nat → Act) (i : Nat) : Act := ldA (A i) (decide (i < m) && l.contains (i : Int))
theorem leadA_nil (m : Nat) (A : Nat → Act) (i : Nat) : leadA [] m A i = A i := by
  unfold leadA
  simp [ldA]
theorem contains_snoc (l : List Int) (x i : Int) : (l ++ [x]).contains i = (l.contains i || (i == x)) := by
  rw [Bool.eq_iff_iff]
  simp [List.mem_append]
theorem leadA_hit (l : List Int) (m : Nat) (A : Nat → Act) (j k : Nat) (hx : l[j]? = some (k : Int)) (hk : k < m) (ht : ∀ i, 0 ≤ (A i).t ∧ (A i).t < 256) (i : Nat) : (if i = k then ⟨(leadA (l.take j) m A i).p, o8 (leadA (l.take j) m A k).t 128⟩ else leadA (l.take j) m A i) = leadA (l.take (j + 1)) m A i := by
  obtain ⟨hj, e⟩ := List.getElem?_eq_some_iff.1 hx
  have hT : l.take (j + 1) = l.take j ++ [(k : Int)] := by rw [List.take_succ_eq_append_getElem hj, e]
  rw [hT]
  unfold leadA
  rw [contains_snoc]
  by_cases e : i = k
  · subst e
    have h1 : decide (i < m) = true := by simpa using hk
    rw [if_pos rfl, h1]
    have : ((i : Int) == (i : Int)) = true := by simp
    rw [this, Bool.or_true, Bool.and_true, Bool.true_and]
    unfold ldA
    cases (l.take j).contains (i : Int)
    · rfl
    · show (⟨(A i).p, o8 (o8 (A i).t 128) 128⟩ : Act) = ⟨(A i).p, o8 (A i).t 128⟩
      rw [o8_idem _ (ht i).1 (ht i).2]
  · rw [if_neg e]
    have : ((i : Int) == (k : Int)) = false := by simp; omega
    rw [this, Bool.or_false]
theorem leadA_miss (l : List Int) (m : Nat) (A : Nat → Act) (j : Nat) (x : Int) (hx : l[j]? = some x) (hn : ¬ (0 ≤ x ∧ x < (m : Int))) (i : Nat) : leadA (l.take j) m A i = leadA (l.take (j + 1)) m A i := by
  obtain ⟨hj, e⟩ := List.getElem?_eq_some_iff.1 hx
  have hT : l.take (j + 1) = l.take j ++ [x] := by rw [List.take_succ_eq_append_getElem hj, e]
  rw [hT]
  unfold leadA
  rw [contains_snoc]
  cases h : decide (i < m)
  · rfl
  · have h' : i < m := by simpa using h
    have : ((i : Int) == x) = false := by
      simp
      intro e2
      omega
    rw [this, Bool.or_false]
end W
theorem acF_congr {A B : Nat → W.Act} {n : Nat} (e : ∀ i, i < n → A i = B i) (j : Nat) (hj : j < 3 * n) : acF A j = acF B j := by
  unfold acF
  rw [e (j / 3) (by omega)]
theorem LkF.congrA {w0 : World} {d : Kd} {w : World} {A B : Nat → W.Act} (h : LkF F w0 { d with A := A } w) (e : ∀ i, i < d.n → A i = B i) : LkF F w0 { d with A := B } w :=
  { h with a := h.a.congr (acF_congr e) }
set_option maxHeartbeats 1600000 in
theorem lead_any (w0 : World) (d : Kd) (w : World) (h : LkF F w0 d w) (m : Nat) (hm : m < d.n) (hn : d.n ≤ 4096) (ht : ∀ i, 0 ≤ (d.A i).t ∧ (d.A i).t < 256) (lg lo lc : Nat) (hl : d.l = .slice (some ⟨lg, lo, none⟩) d.n lc) (z : W.Oz) (hz : OzAt lg (lo + m * 13) z w0) :
    Calls Tryd.prog 60 #[.pointer (some ⟨d.kb, 0, none⟩), .int .i64 (m : Int)] w fun e w' => e = .returned (.tuple #[]) ∧ LkF F w0 { d with A := W.leadA z.a m d.A } w' := by
  obtain ⟨kb, ab, pb, rb, gb, n, l, A, PP, R, G, B, k, H, hid⟩ := d
  dsimp only at *
  subst hl
  obtain ⟨oo, _, _, ⟨⟨sa, sn, sc⟩, a1, a2⟩, _, _⟩ := hz.below h.bl
  have gl := oo.lt
  have k0 := h.k.c 0 (by decide)
  have kl := h.k.lt
  simp only [Kd.f] at k0 kl
  have hM : (m : Int) < (n : Int) := by omega
  have sN := a2.n
  have sM := a2.m
  dsimp only at sN sM
  subst sN
  unfold slV at a1
  dsimp only at a1
  have nab : ∀ g o, 0 < z.a.length → sa = some ⟨g, o, none⟩ → g ≠ ab := by
    obtain ⟨hzo, _, _, ⟨s, b1, b2⟩, _, _⟩ := hz
    intro g o h0 e
    have q := (h.bl.cell (p := ⟨lg, lo + m * 13 + 10, none⟩) hzo.lt).trans b1
    rw [a1] at q
    unfold slV at q
    simp at q
    exact b2.old h.na g o (by rw [b2.n]; exact h0) (by rw [← q.1]; exact e)
  have HK : Hid (LkF _ _ _ _ ∧ Li _ _ _ ∧ _) := ⟨h, a2, nab⟩
  clear h hz oo a2 nab
  generalize z.a = L at *
  go_enter Tryd.func60, Tryd.ntmps60
  go_wp2
  go_loopw [15] (fun i wr => ∃ j : Nat, j ≤ L.length ∧ i = .int .i64 (j : Int) ∧ LkF F w0 ⟨kb, ab, pb, rb, gb, n, .slice (some ⟨lg, lo, none⟩) n lc, W.leadA (L.take j) m A, PP, R, G, B, k, H, hid⟩ wr ∧ Li ⟨sa, L.length, sc⟩ L wr) (fun i _ => L.length - (intOf i).toNat)
  case atStart =>
    refine ⟨0, by omega, rfl, ?_, HK.out.2.1⟩
    exact LkF.congrA (d := ⟨kb, ab, pb, rb, gb, n, .slice (some ⟨lg, lo, none⟩) n lc, A, PP, R, G, B, k, H, hid⟩) (A := A) HK.out.1 fun i hi => by rw [List.take_zero, W.leadA_nil]
  case round =>
    obtain ⟨j, hj, rfl, hL, hI⟩ := hrel
    clear k0 kl a1 gl
    by_cases hlt : j < L.length
    · obtain ⟨xb, xo, rfl, xl, xc⟩ := hI.at_ (by show 0 < L.length; omega)
      have g0 := xc j L[j] (List.getElem?_eq_getElem hlt)
      have ex : L[j]? = some L[j] := List.getElem?_eq_getElem hlt
      have hne := HK.out.2.2 xb xo (by omega) rfl
      generalize L[j] = x at *
      have k1 := hL.k.c 1 (by decide)
      have kl := hL.k.lt
      have al := hL.a.lt
      have fz := hL.a.fz
      simp only [Kd.f] at k1 kl al fz
      clear xc
      by_cases hx : 0 ≤ x ∧ x < (m : Int)
      · obtain ⟨q, rfl⟩ := Int.eq_ofNat_of_zero_le hx.1
        have hq : q < m := by omega
        obtain ⟨_, _, x2⟩ := hL.act q (by show q < n; omega)
        dsimp only at x2
        have x1 : (q : Int) < (m : Int) := by omega
        have x1' : (q : Int) < (n : Int) := by omega
        have X := LkF.congrA (d := ⟨kb, ab, pb, rb, gb, n, .slice (some ⟨lg, lo, none⟩) n lc, A, PP, R, G, B, k, H, hid⟩) (hL.setT q (W.o8 (W.leadA (L.take j) m A q).t 128)) (fun i hi => W.leadA_hit L m A j q ex hq ht i)
        have I' := hI.set ab (q * 3 + 2) (.int .u8 (W.o8 (W.leadA (L.take j) m A q).t 128)) (fun g o _ e => by cases e; exact hne)
        dsimp only at X
        unfold W.o8 at X I'
        have HX : Hid (_ ∧ _) := ⟨X, I'⟩
        clear X I' hL hI ex hx ht
        generalize W.leadA (L.take j) m A q = Y at *
        go_wp2
        go_roundw
        case rel => exact ⟨j + 1, by omega, by go_num, HX.out.1, HX.out.2⟩
        case measure => simp [intOf]; omega
      · have X := LkF.congrA (d := ⟨kb, ab, pb, rb, gb, n, .slice (some ⟨lg, lo, none⟩) n lc, A, PP, R, G, B, k, H, hid⟩) hL (fun i hi => W.leadA_miss L m A j x ex hx i)
        dsimp only at X
        have HX : Hid (_ ∧ _) := ⟨X, hI⟩
        clear X hL hI ex ht
        by_cases h0 : 0 ≤ x
        · have h1 : ¬ x < (m : Int) := fun h => hx ⟨h0, h⟩
          clear hx
          go_wp2
          go_roundw
          case rel => exact ⟨j + 1, by omega, by go_num, HX.out.1, HX.out.2⟩
          case measure => simp [intOf]; omega
        · clear hx
          go_wp2
          go_roundw
          case rel => exact ⟨j + 1, by omega, by go_num, HX.out.1, HX.out.2⟩
          case measure => simp [intOf]; omega
    · have e : j = L.length := by omega
      subst e
      rw [List.take_length] at hL
      have X : Hid _ := hL
      clear hL hI
      go_wp2
      go_end0
      exact ⟨rfl, X.out⟩
end Go.Proofs.YtibohlbkkaghkaaDoor

/- Why: laws without Go. -/
namespace Go.Proofs.YtibohlbkkaghkaaDoor
open Go.RowKit
set_option linter.unusedVariables false
set_option linter.unusedSimpArgs false

namespace W
theorem o8_rg (t : Int) (h0 : 0 ≤ t) (h1 : t < 256) : 0 ≤ o8 t 128 ∧ o8 t 128 < 256 := by
  obtain ⟨n, rfl⟩ := Int.eq_ofNat_of_zero_le h0
  have : ((List.range 256).all fun n => decide (0 ≤ o8 (n : Int) 128) && decide (o8 (n : Int) 128 < 256)) = true := by decide +kernel
  have := List.all_eq_true.1 this n (List.mem_range.2 (by omega))
  simpa using this
theorem actO_rg (o : Opr) : 0 ≤ (actO o).t ∧ (actO o).t < 256 := by
  unfold actO
  cases (o.k == 4)
  · show 0 ≤ trt o ∧ trt o < 256
    unfold trt
    cases (o.k == 1) <;> cases (o.k == 2) <;> cases (o.k == 3) <;> cases o.pr <;> cases o.aq <;> cases o.rl <;> exact ⟨by decide, by decide⟩
  · exact ⟨(by decide : (0 : Int) ≤ 4), (by decide : (4 : Int) < 256)⟩
theorem ldA_rg (x : Act) (b : Bool) (h : 0 ≤ x.t ∧ x.t < 256) : 0 ≤ (ldA x b).t ∧ (ldA x b).t < 256 := by
  unfold ldA
  cases b
  · exact h
  · exact o8_rg _ h.1 h.2
theorem ldA_two (x : Act) (b c : Bool) (h : 0 ≤ x.t ∧ x.t < 256) : ldA (ldA x b) c = ldA x (b || c) := by
  unfold ldA
  cases b <;> cases c
  · rfl
  · rfl
  · rfl
  · show (⟨x.p, o8 (o8 x.t 128) 128⟩ : Act) = ⟨x.p, o8 x.t 128⟩
    rw [o8_idem _ h.1 h.2]
theorem led_succ (x : Nat → Oz) (m i : Nat) : led x (m + 1) i = (led x m i || (decide (i < m) && (x m).a.contains (i : Int))) := by
  unfold led
  rw [List.range_succ, List.any_append]
  simp
theorem acts_zero (x : Nat → Oz) (i : Nat) : acts x 0 i = actO (x i).o := by
  unfold acts led ldA
  simp
theorem acts_succ (x : Nat → Oz) (m i : Nat) : leadA (x m).a m (acts x m) i = acts x (m + 1) i := by
  unfold leadA acts
  rw [ldA_two _ _ _ (actO_rg _), led_succ]
theorem acts_rg (x : Nat → Oz) (m i : Nat) : 0 ≤ (acts x m i).t ∧ (acts x m i).t < 256 := ldA_rg _ _ (actO_rg _)
/-- Small numbers. -/
def Sm (v : Int) : Prop := 0 ≤ v ∧ v < 14
theorem sm0 : Sm 0 := ⟨by decide, by decide⟩
theorem sm1 : Sm 1 := ⟨by decide, by decide⟩
theorem sm2 : Sm 2 := ⟨by decide, by decide⟩
theorem sm3 : Sm 3 := ⟨by decide, by decide⟩
theorem sm4 : Sm 4 := ⟨by decide, by decide⟩
theorem sm5 : Sm 5 := ⟨by decide, by decide⟩
theorem sm6 : Sm 6 := ⟨by decide, by decide⟩
theorem sm7 : Sm 7 := ⟨by decide, by decide⟩
theorem sm13 : Sm 13 := ⟨by decide, by decide⟩
theorem note_sm (r : Int) (l : List Int) (h : Nat → Int) (j : Nat) (hr : Sm r) (hh : Sm (h j)) : Sm (note r l h j) := by
  unfold note
  cases ((h j == 0) && l.contains (j : Int))
  · exact hh
  · exact hr
theorem hang0_sm (t pb : Int) (o : Oz) (j : Nat) : Sm (hang0 t pb o j) := by
  unfold hang0
  have h := note_sm 10 o.d _ j ⟨by decide, by decide⟩ (note_sm 9 o.a _ j ⟨by decide, by decide⟩ (note_sm 8 [pb] (fun _ => 0) j ⟨by decide, by decide⟩ ⟨by decide, by decide⟩))
  cases (a8 t 2 != 0)
  · exact h
  · exact note_sm 11 o.c _ j ⟨by decide, by decide⟩ h
theorem bk_sm (A : Nat → Act) (x : Nat → Oz) (b : Nat) (pb : Int) : ∀ i j, Sm ((bk A x b pb i).g j)
  | 0, j => hang0_sm _ _ _ j
  | i + 1, j => by
    have ih := bk_sm A x b pb i
    unfold bk step
    cases (a8 (A (b - 1 - i)).t 4 != 0)
    · cases (goes (A b) (A (b - 1 - i)) (bk A x b pb i) ((bk A x b pb i).g (b - 1 - i)))
      · exact ih j
      · show Sm ((pass _ _ _ _).g j)
        unfold pass
        cases ((a8 (A (b - 1 - i)).t 2 == 0) || (a8 (A b).t 1 == 0) || !meets (A (b - 1 - i)).p (A b).p)
        · show Sm ((bif sees _ _ _ then _ else _ : Nat → Int) j)
          cases (sees (bk A x b pb i).h (A (b - 1 - i)).p (A b).p)
          · exact ih j
          · exact note_sm _ _ _ j ⟨by decide, by decide⟩ (note_sm _ _ _ j ⟨by decide, by decide⟩ (ih j))
        · exact ih j
    · show Sm ((fence _ _ _).g j)
      unfold fence
      cases (a8 (a8 (A b).t ((x (b - 1 - i)).o.sc % 256)) 3 != 0)
      · exact ih j
      · exact ih j
theorem whyK_sm (h g : Int) (hg : Sm g) : Sm (whyK h g) := by
  unfold whyK
  cases (a8 h 3 != 0) <;> cases (a8 h 32 != 0) <;> cases (a8 h 8 != 0) <;> cases (a8 h 64 != 0) <;> cases (g != 0) <;> cases (a8 h 128 != 0) <;> first | exact hg | exact sm0 | exact sm4 | exact sm5 | exact sm6 | exact sm7 | exact sm13
theorem whyM_sm (h : List Sp) (b x : Act) : Sm (whyM h b x) := by
  unfold whyM
  cases (!meets x.p b.p) <;> cases (a8 b.t 2 != 0) <;> cases (a8 b.t 1 == 0) <;> cases ((a8 x.t 1 != 0) && sees h x.p b.p) <;> cases (a8 x.t 16 != 0) <;> first | exact sm0 | exact sm1 | exact sm2 | exact sm3
theorem rulA_sm (A : Nat → Act) (x : Nat → Oz) (b : Nat) (pb : Int) (a : Nat) : Sm (rulA A x b pb a) := by
  unfold rulA rul
  cases (a8 (A a).t 4 != 0)
  · show Sm (bif goes _ _ _ _ then _ else _)
    cases (goes (A b) (A a) (bk A x b pb (b - 1 - a)) ((bk A x b pb (b - 1 - a)).g a))
    · exact sm0
    · show Sm (why _ _ _ _)
      unfold why
      cases (whyM (bk A x b pb (b - 1 - a)).h (A b) (A a) != 0)
      · exact whyK_sm _ _ (bk_sm A x b pb _ _)
      · exact whyM_sm _ _ _
  · exact sm0
theorem whyO_sm (x : Nat → Oz) (a b : Nat) : Sm (whyO x a b) := by
  unfold whyO
  cases (a8 (acts x b b).t 4 != 0)
  · exact rulA_sm _ _ _ _ _
  · exact sm0
/-- Why, of any places. -/
def whyI (x : Nat → Oz) (n : Nat) (i k : Int) : Int := if 0 ≤ i ∧ i < k ∧ k < (n : Int) then whyO x i.toNat k.toNat else 0
end W
end Go.Proofs.YtibohlbkkaghkaaDoor

/- Clearing. -/
namespace Go.Proofs.YtibohlbkkaghkaaDoor
open Go.ChangeShapes Go.WideShapes Go.ChangeAt Go.RowKit
set_option linter.unusedVariables false
set_option maxRecDepth 100000
set_option linter.unusedSimpArgs false
variable {Φ : Nat → Option Obj}

theorem gsetCs (b : Nat) : ∀ (vs : List Value) (o : Nat) (w : World), w.grownBy (w.setCells b o vs) (some b)
  | [], o, w => ⟨rfl, rfl, rfl, Nat.le_refl _, fun _ _ _ => rfl⟩
  | v :: r, o, w => gtrans (gsetCell w b o v) (gsetCs b r (o + 1) _)
theorem Bc.many {b n : Nat} {f : Nat → Value} {w : World} (h : Bc b n f w) (k : Nat) (hk : k ≤ n) (v : Value) : Bc b n (fun j => if j < k then v else f j) (w.setCells b 0 (List.replicate k v)) := by
  refine ⟨Nat.lt_of_lt_of_le h.lt (gsetCs b _ 0 w).size, fun j hj => ?_, fun j => by rw [World.frozen?_setCells]; exact h.fz j⟩
  by_cases e : j < k
  · rw [if_pos e]
    have := World.cell?_setCells_in b (List.replicate k v) 0 w (fun i hi => by
      rw [Nat.zero_add, h.c i (by simp at hi; omega)]; rfl) j (by simpa using e)
    rw [Nat.zero_add] at this
    rw [this]
    simp
  · rw [if_neg e, World.cell?_setCells_out _ _ _ _ _ (by intro _ _; right; simp; omega)]
    exact h.c j hj
theorem LkF.clearR {w0 : World} {d : Kd} {w : World} (h : LkF Φ w0 d w) (k : Nat) (hk : k ≤ d.n) : LkF Φ w0 { d with R := fun j => if j < k then 0 else d.R j } (w.setCells d.rb 0 (List.replicate k (.int .u8 0))) :=
  h.onR (gsetCs _ _ _ _) _ ((h.r.many k hk (.int .u8 0)).congr fun j hj => by (try dsimp only); split <;> rfl)
theorem LkF.clearG {w0 : World} {d : Kd} {w : World} (h : LkF Φ w0 d w) (k : Nat) (hk : k ≤ d.n) : LkF Φ w0 { d with G := fun j => if j < k then 0 else d.G j } (w.setCells d.hb 0 (List.replicate k (.int .u8 0))) :=
  h.onG (gsetCs _ _ _ _) _ ((h.g.many k hk (.int .u8 0)).congr fun j hj => by (try dsimp only); split <;> rfl)
theorem zero46 (w : World) : (zeroValue 121).run Tryd.prog w = .ok (.int .u8 0) w := by kernel_rfl
theorem Bc.clears {b n : Nat} {f : Nat → Value} {w : World} (h : Bc b n f w) (k : Nat) (k0 : 0 < k) (hk : k ≤ n) (c : Nat) (ty : TypeId) : (Builtin.clear_ #[110] ty #[.slice (some ⟨b, 0, none⟩) k c]).run Tryd.prog w = .ok (.tuple #[]) (w.setCells b 0 (List.replicate k (.int .u8 0))) :=
  Lib.run_clear_slice w _ _ ty (.int .u8 0) Tryd.underlying110 zero46 rfl rfl b 0 k c k0 (fun j hj => by rw [Nat.zero_add, h.c j (by omega)]; rfl) (fun j hj => h.fz _)
theorem li_one (w : World) (T : TypeId) (x : Int) : Li ⟨some ⟨w.heap.size, 0, none⟩, 1, 1⟩ [x] (w.alloc (.cells #[.int .i64 x] T)) :=
  li_some rfl (by decide) (Nat.le_refl _) (by simp) (fun j y hy => by
    match j, hy with
    | 0, hy => simp at hy; subst hy; exact cell_of_row _ _ 0 _ T (0, 0) (heap_alloc_last w _))

theorem clear_none (b c : Nat) (w : World) (ty : TypeId) : (Builtin.clear_ #[110] ty #[.slice (some ⟨b, 0, none⟩) 0 c]).run Tryd.prog w = .ok (.tuple #[]) w := by kernel_rfl
theorem Bc.clears0 {b n : Nat} {f : Nat → Value} {w : World} (h : Bc b n f w) (k : Nat) (hk : k ≤ n) (c : Nat) (ty : TypeId) : (Builtin.clear_ #[110] ty #[.slice (some ⟨b, 0, none⟩) k c]).run Tryd.prog w = .ok (.tuple #[]) (w.setCells b 0 (List.replicate k (.int .u8 0))) := by
  cases k with
  | zero => exact clear_none b c w ty
  | succ k => exact h.clears (k + 1) (by omega) hk c ty
namespace W
/-- What hangs, over what was noted ahead. -/
def hangG (G : Nat → Int) (t pb : Int) (o : Oz) : Nat → Int :=
  let h := note 10 o.d (note 9 o.a (note 8 [pb] G))
  bif a8 t 2 != 0 then note 11 o.c h else h
def cl (b : Nat) (G : Nat → Int) (j : Nat) : Int := if j < b then 0 else G j
end W
theorem own_cut {w : World} {base : Nat} {e : TypeId} {size n hg hc : Nat} {xs : List Value} (h : w.ownsRow base e size (.slice (some ⟨hg, 0, none⟩) n hc) n xs) : w.ownsRow base e size (.slice (some ⟨hg, 0, none⟩) 0 hc) 0 [] := by
  obtain ⟨h1, h2⟩ := h
  refine ⟨by simp, Or.inr ?_⟩
  rcases h2 with ⟨h2, _⟩ | ⟨g, cap, cur, h2, h3, h4, h5, h6, h7, h8⟩
  · cases h2
  · cases h2
    exact ⟨hg, hc, cur, rfl, h3, h4, by omega, h6, h7, by simp⟩
end Go.Proofs.YtibohlbkkaghkaaDoor

/- begin, from a used look: nothing was hidden. -/
namespace Go.Proofs.YtibohlbkkaghkaaDoor
open Go.ChangeShapes Go.WideShapes Go.ChangeAt Go.RowKit
set_option linter.unusedVariables false
set_option maxRecDepth 100000
set_option linter.unusedSimpArgs false
variable {Φ : Nat → Option Obj}
set_option maxHeartbeats 1600000 in
theorem begin_n (w0 : World) (d : Kd) (w : World) (h : LkF Φ w0 d w) (b : Nat) (hb : b < d.n) (hn : d.n ≤ 4096) (hH : d.H = W.Sl.nil) (hh : d.hid = []) (lg lo lc : Nat) (hl : d.l = .slice (some ⟨lg, lo, none⟩) d.n lc) (z : W.Oz) (hz : OzAt lg (lo + b * 13) z w0) :
    Calls Tryd.prog 66 #[.pointer (some ⟨d.kb, 0, none⟩), .int .i64 (b : Int)] w fun e w' => e = .returned (.tuple #[]) ∧ LkF Φ w0 { d with b := d.A b, k := W.keep0 (d.A b).t, G := W.hangG (W.cl b d.G) (d.A b).t (d.P b) z } w' := by
  obtain ⟨kb, ab, pb, rb, gb, n, l, A, PP, R, G, B, k, H, hid⟩ := d
  dsimp only at *
  subst hH hh hl
  obtain ⟨x0, x1, x2⟩ := h.act b hb
  have al := h.a.lt
  have pc := h.p.c b hb
  have pl := h.p.lt
  have k0 := h.k.c 0 (by decide)
  have k1 := h.k.c 1 (by decide)
  have k2 := h.k.c 2 (by decide)
  have k4 := h.k.c 4 (by decide)
  have k5 := h.k.c 5 (by decide)
  have k6 := h.k.c 6 (by decide)
  have k7 := h.k.c 7 (by decide)
  have k8 := h.k.c 8 (by decide)
  have k9 := h.k.c 9 (by decide)
  have kl := h.k.lt
  have fz := h.k.fz
  have ka := h.ka
  simp only [Kd.f] at k0 k1 k2 k4 k5 k6 k7 k8 k9
  unfold slV W.Sl.nil at k9
  dsimp only at *
  have hB : (b : Int) < (n : Int) := by omega
  have HK : Hid (LkF _ _ _ _ ∧ OzAt _ _ _ _) := ⟨h, hz⟩
  clear h hz
  generalize hX : A b = X at *
  obtain ⟨⟨F, Z⟩, T⟩ := X
  dsimp only at *
  have L1 : LkF Φ w0 ⟨kb, ab, pb, rb, gb, n, .slice (some ⟨lg, lo, none⟩) n lc, A, PP, R, G, ⟨⟨F, Z⟩, T⟩, 32, W.Sl.nil, []⟩ (((((w.setCell ⟨kb, 5, none⟩ (.int .u32 F)).setCell ⟨kb, 6, none⟩ (.int .u64 Z)).setCell ⟨kb, 7, none⟩ (.int .u8 T)).setCell ⟨kb, 8, none⟩ (.int .u8 32)).setCell ⟨kb, 9, none⟩ (.slice none 0 0)).drew := by
    have q := (HK.out.1.setB ⟨⟨F, Z⟩, T⟩).setK 32
    have q2 := q.setH W.Sl.nil [] (fun s hs => by cases hs) ⟨rfl, rfl, rfl, Nat.le_refl _, fun _ _ _ => rfl⟩ q.h (fun b hb => Or.inl hb)
    exact q2.below (Below.refl _ _).drew
  have HL1 : Hid _ := L1
  clear L1
  unfold W.keep0 W.hangG W.a8 W.o8
  dsimp only
  cases q64 : (bits BinOp.and IntKind.u8 T 64 != 0) <;> cases q96 : (bits BinOp.and IntKind.u8 T 96 != 0) <;> cases q2 : (bits BinOp.and IntKind.u8 T 2 != 0)
  · go_enter Tryd.func66, Tryd.ntmps66
    go_wp2
    go_region
    have L1 := HL1.out
    clear HL1 x0 x1 x2 k0 k1 k2 k4 k5 k6 k7 k8 k9 kl fz pc pl al
    generalize World.drew _ = W1 at *
    have k7 := L1.k.c 7 (by decide)
    have k8 := L1.k.c 8 (by decide)
    have k4 := L1.k.c 4 (by decide)
    have kl := L1.k.lt
    have fz := L1.k.fz
    simp only [Kd.f] at k7 k8 k4 kl fz
    have L2 := L1
    try dsimp only at L2
    have HL2 : Hid _ := L2
    clear L1 L2
    go_wp2
    have L2 := HL2.out
    clear HL2 k7 k8 k4 kl fz
    try generalize World.setCell _ _ _ = W2 at *
    have hcl := fun ty => L2.g.clears0 b (Nat.le_of_lt hb) n ty
    have L3 := L2.clearG b (Nat.le_of_lt hb)
    dsimp only at hcl L3
    generalize hW3 : World.setCells _ gb 0 _ = W3 at *
    clear hW3
    have k0 := L3.k.c 0 (by decide)
    have k2 := L3.k.c 2 (by decide)
    have kl := L3.k.lt
    have pc := L3.p.c b hb
    have pl := L3.p.lt
    simp only [Kd.f] at k0 k2 kl pc pl
    change LkF Φ w0 ⟨kb, ab, pb, rb, gb, n, .slice (some ⟨lg, lo, none⟩) n lc, A, PP, R, W.cl b G, _, _, _, _⟩ W3 at L3
    have N1 := fun W4 (hb4 : Below W3.heap.size W3 W4) s hs hF => note_any w0 _ W4 (L3.below hb4) hn 8 (by decide) s [PP b] hs hF
    have HN1 : Hid _ := N1
    have gl3 := L3.g.lt
    dsimp only at gl3
    clear L2 L3 N1
    go_wp2_with (fail)
    refine (HN1.out _ ((Below.refl _ _).alloc (Nat.le_refl _) _) ⟨some ⟨W3.heap.size, 0, none⟩, 1, 1⟩ (li_one W3 _ (PP b)) (fun g o _ e => by cases e; omega)).mono ?_
    rintro e w4 ⟨rfl, L4⟩
    have HKO := HK.out.2
    obtain ⟨oo, _, _, ⟨s1, a1, a2⟩, ⟨s2, e1, e2⟩, ⟨s3, f1, f2⟩⟩ := HKO
    have gl := oo.lt
    clear oo HN1 k0 k2 kl pc pl gl3 hcl
    have c5 := (L4.bl.cell (p := ⟨lg, lo + b * 13 + 10, none⟩) gl).trans a1
    have gl5 : lg < w4.heap.size := Nat.lt_of_lt_of_le gl L4.bl.size
    have k0 := L4.k.c 0 (by decide)
    have k7 := L4.k.c 7 (by decide)
    have kl := L4.k.lt
    simp only [Kd.f] at k0 k7 kl
    have N5 := note_any w0 _ w4 L4 hn 9 (by decide) s1 _ (a2.below L4.bl) (a2.old L4.ng)
    have HN5 : Hid (Calls _ _ _ _ _) := N5
    clear N5 L4
    obtain ⟨s1a, s1n, s1c⟩ := s1
    unfold slV at c5 HN5
    dsimp only at c5 HN5
    go_wp2_with (fail)
    refine HN5.out.mono ?_
    rintro e w5 ⟨rfl, L5⟩
    clear c5 gl5 k0 k7 kl HN5
    have c6 := (L5.bl.cell (p := ⟨lg, lo + b * 13 + 11, none⟩) gl).trans e1
    have gl6 : lg < w5.heap.size := Nat.lt_of_lt_of_le gl L5.bl.size
    have k0 := L5.k.c 0 (by decide)
    have k7 := L5.k.c 7 (by decide)
    have kl := L5.k.lt
    simp only [Kd.f] at k0 k7 kl
    have N6 := note_any w0 _ w5 L5 hn 10 (by decide) s2 _ (e2.below L5.bl) (e2.old L5.ng)
    have HN6 : Hid (Calls _ _ _ _ _) := N6
    clear N6 L5
    obtain ⟨s2a, s2n, s2c⟩ := s2
    unfold slV at c6 HN6
    dsimp only at c6 HN6
    go_wp2_with (fail)
    refine HN6.out.mono ?_
    rintro e w6 ⟨rfl, L6⟩
    clear c6 gl6 k0 k7 kl HN6
    have k7 := L6.k.c 7 (by decide)
    have kl := L6.k.lt
    simp only [Kd.f] at k7 kl
    have HF : Hid _ := L6
    clear L6
    go_wp2
    go_end0
    exact ⟨rfl, HF.out⟩
  · go_enter Tryd.func66, Tryd.ntmps66
    go_wp2
    go_region
    have L1 := HL1.out
    clear HL1 x0 x1 x2 k0 k1 k2 k4 k5 k6 k7 k8 k9 kl fz pc pl al
    generalize World.drew _ = W1 at *
    have k7 := L1.k.c 7 (by decide)
    have k8 := L1.k.c 8 (by decide)
    have k4 := L1.k.c 4 (by decide)
    have kl := L1.k.lt
    have fz := L1.k.fz
    simp only [Kd.f] at k7 k8 k4 kl fz
    have L2 := (L1.setK (bits BinOp.or IntKind.u8 32 128))
    try dsimp only at L2
    have HL2 : Hid _ := L2
    clear L1 L2
    go_wp2
    have L2 := HL2.out
    clear HL2 k7 k8 k4 kl fz
    try generalize World.setCell _ _ _ = W2 at *
    have hcl := fun ty => L2.g.clears0 b (Nat.le_of_lt hb) n ty
    have L3 := L2.clearG b (Nat.le_of_lt hb)
    dsimp only at hcl L3
    generalize hW3 : World.setCells _ gb 0 _ = W3 at *
    clear hW3
    have k0 := L3.k.c 0 (by decide)
    have k2 := L3.k.c 2 (by decide)
    have kl := L3.k.lt
    have pc := L3.p.c b hb
    have pl := L3.p.lt
    simp only [Kd.f] at k0 k2 kl pc pl
    change LkF Φ w0 ⟨kb, ab, pb, rb, gb, n, .slice (some ⟨lg, lo, none⟩) n lc, A, PP, R, W.cl b G, _, _, _, _⟩ W3 at L3
    have N1 := fun W4 (hb4 : Below W3.heap.size W3 W4) s hs hF => note_any w0 _ W4 (L3.below hb4) hn 8 (by decide) s [PP b] hs hF
    have HN1 : Hid _ := N1
    have gl3 := L3.g.lt
    dsimp only at gl3
    clear L2 L3 N1
    go_wp2_with (fail)
    refine (HN1.out _ ((Below.refl _ _).alloc (Nat.le_refl _) _) ⟨some ⟨W3.heap.size, 0, none⟩, 1, 1⟩ (li_one W3 _ (PP b)) (fun g o _ e => by cases e; omega)).mono ?_
    rintro e w4 ⟨rfl, L4⟩
    have HKO := HK.out.2
    obtain ⟨oo, _, _, ⟨s1, a1, a2⟩, ⟨s2, e1, e2⟩, ⟨s3, f1, f2⟩⟩ := HKO
    have gl := oo.lt
    clear oo HN1 k0 k2 kl pc pl gl3 hcl
    have c5 := (L4.bl.cell (p := ⟨lg, lo + b * 13 + 10, none⟩) gl).trans a1
    have gl5 : lg < w4.heap.size := Nat.lt_of_lt_of_le gl L4.bl.size
    have k0 := L4.k.c 0 (by decide)
    have k7 := L4.k.c 7 (by decide)
    have kl := L4.k.lt
    simp only [Kd.f] at k0 k7 kl
    have N5 := note_any w0 _ w4 L4 hn 9 (by decide) s1 _ (a2.below L4.bl) (a2.old L4.ng)
    have HN5 : Hid (Calls _ _ _ _ _) := N5
    clear N5 L4
    obtain ⟨s1a, s1n, s1c⟩ := s1
    unfold slV at c5 HN5
    dsimp only at c5 HN5
    go_wp2_with (fail)
    refine HN5.out.mono ?_
    rintro e w5 ⟨rfl, L5⟩
    clear c5 gl5 k0 k7 kl HN5
    have c6 := (L5.bl.cell (p := ⟨lg, lo + b * 13 + 11, none⟩) gl).trans e1
    have gl6 : lg < w5.heap.size := Nat.lt_of_lt_of_le gl L5.bl.size
    have k0 := L5.k.c 0 (by decide)
    have k7 := L5.k.c 7 (by decide)
    have kl := L5.k.lt
    simp only [Kd.f] at k0 k7 kl
    have N6 := note_any w0 _ w5 L5 hn 10 (by decide) s2 _ (e2.below L5.bl) (e2.old L5.ng)
    have HN6 : Hid (Calls _ _ _ _ _) := N6
    clear N6 L5
    obtain ⟨s2a, s2n, s2c⟩ := s2
    unfold slV at c6 HN6
    dsimp only at c6 HN6
    go_wp2_with (fail)
    refine HN6.out.mono ?_
    rintro e w6 ⟨rfl, L6⟩
    clear c6 gl6 k0 k7 kl HN6
    have c7 := (L6.bl.cell (p := ⟨lg, lo + b * 13 + 12, none⟩) gl).trans f1
    have gl7 : lg < w6.heap.size := Nat.lt_of_lt_of_le gl L6.bl.size
    have k0 := L6.k.c 0 (by decide)
    have k7 := L6.k.c 7 (by decide)
    have kl := L6.k.lt
    simp only [Kd.f] at k0 k7 kl
    have N7 := note_any w0 _ w6 L6 hn 11 (by decide) s3 _ (f2.below L6.bl) (f2.old L6.ng)
    have HN7 : Hid (Calls _ _ _ _ _) := N7
    clear N7 L6
    obtain ⟨s3a, s3n, s3c⟩ := s3
    unfold slV at c7 HN7
    dsimp only at c7 HN7
    go_wp2_with (fail)
    refine HN7.out.mono ?_
    rintro e w7 ⟨rfl, L7⟩
    clear c7 gl7 k0 k7 kl HN7
    have k7 := L7.k.c 7 (by decide)
    have kl := L7.k.lt
    simp only [Kd.f] at k7 kl
    have HF : Hid _ := L7
    clear L7
    go_wp2
    go_end0
    exact ⟨rfl, HF.out⟩
  · go_enter Tryd.func66, Tryd.ntmps66
    go_wp2
    go_region
    have L1 := HL1.out
    clear HL1 x0 x1 x2 k0 k1 k2 k4 k5 k6 k7 k8 k9 kl fz pc pl al
    generalize World.drew _ = W1 at *
    have k7 := L1.k.c 7 (by decide)
    have k8 := L1.k.c 8 (by decide)
    have k4 := L1.k.c 4 (by decide)
    have kl := L1.k.lt
    have fz := L1.k.fz
    simp only [Kd.f] at k7 k8 k4 kl fz
    have L2 := (L1.setK (bits BinOp.or IntKind.u8 32 64))
    try dsimp only at L2
    have HL2 : Hid _ := L2
    clear L1 L2
    go_wp2
    have L2 := HL2.out
    clear HL2 k7 k8 k4 kl fz
    try generalize World.setCell _ _ _ = W2 at *
    have hcl := fun ty => L2.g.clears0 b (Nat.le_of_lt hb) n ty
    have L3 := L2.clearG b (Nat.le_of_lt hb)
    dsimp only at hcl L3
    generalize hW3 : World.setCells _ gb 0 _ = W3 at *
    clear hW3
    have k0 := L3.k.c 0 (by decide)
    have k2 := L3.k.c 2 (by decide)
    have kl := L3.k.lt
    have pc := L3.p.c b hb
    have pl := L3.p.lt
    simp only [Kd.f] at k0 k2 kl pc pl
    change LkF Φ w0 ⟨kb, ab, pb, rb, gb, n, .slice (some ⟨lg, lo, none⟩) n lc, A, PP, R, W.cl b G, _, _, _, _⟩ W3 at L3
    have N1 := fun W4 (hb4 : Below W3.heap.size W3 W4) s hs hF => note_any w0 _ W4 (L3.below hb4) hn 8 (by decide) s [PP b] hs hF
    have HN1 : Hid _ := N1
    have gl3 := L3.g.lt
    dsimp only at gl3
    clear L2 L3 N1
    go_wp2_with (fail)
    refine (HN1.out _ ((Below.refl _ _).alloc (Nat.le_refl _) _) ⟨some ⟨W3.heap.size, 0, none⟩, 1, 1⟩ (li_one W3 _ (PP b)) (fun g o _ e => by cases e; omega)).mono ?_
    rintro e w4 ⟨rfl, L4⟩
    have HKO := HK.out.2
    obtain ⟨oo, _, _, ⟨s1, a1, a2⟩, ⟨s2, e1, e2⟩, ⟨s3, f1, f2⟩⟩ := HKO
    have gl := oo.lt
    clear oo HN1 k0 k2 kl pc pl gl3 hcl
    have c5 := (L4.bl.cell (p := ⟨lg, lo + b * 13 + 10, none⟩) gl).trans a1
    have gl5 : lg < w4.heap.size := Nat.lt_of_lt_of_le gl L4.bl.size
    have k0 := L4.k.c 0 (by decide)
    have k7 := L4.k.c 7 (by decide)
    have kl := L4.k.lt
    simp only [Kd.f] at k0 k7 kl
    have N5 := note_any w0 _ w4 L4 hn 9 (by decide) s1 _ (a2.below L4.bl) (a2.old L4.ng)
    have HN5 : Hid (Calls _ _ _ _ _) := N5
    clear N5 L4
    obtain ⟨s1a, s1n, s1c⟩ := s1
    unfold slV at c5 HN5
    dsimp only at c5 HN5
    go_wp2_with (fail)
    refine HN5.out.mono ?_
    rintro e w5 ⟨rfl, L5⟩
    clear c5 gl5 k0 k7 kl HN5
    have c6 := (L5.bl.cell (p := ⟨lg, lo + b * 13 + 11, none⟩) gl).trans e1
    have gl6 : lg < w5.heap.size := Nat.lt_of_lt_of_le gl L5.bl.size
    have k0 := L5.k.c 0 (by decide)
    have k7 := L5.k.c 7 (by decide)
    have kl := L5.k.lt
    simp only [Kd.f] at k0 k7 kl
    have N6 := note_any w0 _ w5 L5 hn 10 (by decide) s2 _ (e2.below L5.bl) (e2.old L5.ng)
    have HN6 : Hid (Calls _ _ _ _ _) := N6
    clear N6 L5
    obtain ⟨s2a, s2n, s2c⟩ := s2
    unfold slV at c6 HN6
    dsimp only at c6 HN6
    go_wp2_with (fail)
    refine HN6.out.mono ?_
    rintro e w6 ⟨rfl, L6⟩
    clear c6 gl6 k0 k7 kl HN6
    have k7 := L6.k.c 7 (by decide)
    have kl := L6.k.lt
    simp only [Kd.f] at k7 kl
    have HF : Hid _ := L6
    clear L6
    go_wp2
    go_end0
    exact ⟨rfl, HF.out⟩
  · go_enter Tryd.func66, Tryd.ntmps66
    go_wp2
    go_region
    have L1 := HL1.out
    clear HL1 x0 x1 x2 k0 k1 k2 k4 k5 k6 k7 k8 k9 kl fz pc pl al
    generalize World.drew _ = W1 at *
    have k7 := L1.k.c 7 (by decide)
    have k8 := L1.k.c 8 (by decide)
    have k4 := L1.k.c 4 (by decide)
    have kl := L1.k.lt
    have fz := L1.k.fz
    simp only [Kd.f] at k7 k8 k4 kl fz
    have L2 := ((L1.setK (bits BinOp.or IntKind.u8 32 64)).setK (bits BinOp.or IntKind.u8 (bits BinOp.or IntKind.u8 32 64) 128))
    try dsimp only at L2
    have HL2 : Hid _ := L2
    clear L1 L2
    go_wp2
    have L2 := HL2.out
    clear HL2 k7 k8 k4 kl fz
    try generalize World.setCell _ _ _ = W2 at *
    have hcl := fun ty => L2.g.clears0 b (Nat.le_of_lt hb) n ty
    have L3 := L2.clearG b (Nat.le_of_lt hb)
    dsimp only at hcl L3
    generalize hW3 : World.setCells _ gb 0 _ = W3 at *
    clear hW3
    have k0 := L3.k.c 0 (by decide)
    have k2 := L3.k.c 2 (by decide)
    have kl := L3.k.lt
    have pc := L3.p.c b hb
    have pl := L3.p.lt
    simp only [Kd.f] at k0 k2 kl pc pl
    change LkF Φ w0 ⟨kb, ab, pb, rb, gb, n, .slice (some ⟨lg, lo, none⟩) n lc, A, PP, R, W.cl b G, _, _, _, _⟩ W3 at L3
    have N1 := fun W4 (hb4 : Below W3.heap.size W3 W4) s hs hF => note_any w0 _ W4 (L3.below hb4) hn 8 (by decide) s [PP b] hs hF
    have HN1 : Hid _ := N1
    have gl3 := L3.g.lt
    dsimp only at gl3
    clear L2 L3 N1
    go_wp2_with (fail)
    refine (HN1.out _ ((Below.refl _ _).alloc (Nat.le_refl _) _) ⟨some ⟨W3.heap.size, 0, none⟩, 1, 1⟩ (li_one W3 _ (PP b)) (fun g o _ e => by cases e; omega)).mono ?_
    rintro e w4 ⟨rfl, L4⟩
    have HKO := HK.out.2
    obtain ⟨oo, _, _, ⟨s1, a1, a2⟩, ⟨s2, e1, e2⟩, ⟨s3, f1, f2⟩⟩ := HKO
    have gl := oo.lt
    clear oo HN1 k0 k2 kl pc pl gl3 hcl
    have c5 := (L4.bl.cell (p := ⟨lg, lo + b * 13 + 10, none⟩) gl).trans a1
    have gl5 : lg < w4.heap.size := Nat.lt_of_lt_of_le gl L4.bl.size
    have k0 := L4.k.c 0 (by decide)
    have k7 := L4.k.c 7 (by decide)
    have kl := L4.k.lt
    simp only [Kd.f] at k0 k7 kl
    have N5 := note_any w0 _ w4 L4 hn 9 (by decide) s1 _ (a2.below L4.bl) (a2.old L4.ng)
    have HN5 : Hid (Calls _ _ _ _ _) := N5
    clear N5 L4
    obtain ⟨s1a, s1n, s1c⟩ := s1
    unfold slV at c5 HN5
    dsimp only at c5 HN5
    go_wp2_with (fail)
    refine HN5.out.mono ?_
    rintro e w5 ⟨rfl, L5⟩
    clear c5 gl5 k0 k7 kl HN5
    have c6 := (L5.bl.cell (p := ⟨lg, lo + b * 13 + 11, none⟩) gl).trans e1
    have gl6 : lg < w5.heap.size := Nat.lt_of_lt_of_le gl L5.bl.size
    have k0 := L5.k.c 0 (by decide)
    have k7 := L5.k.c 7 (by decide)
    have kl := L5.k.lt
    simp only [Kd.f] at k0 k7 kl
    have N6 := note_any w0 _ w5 L5 hn 10 (by decide) s2 _ (e2.below L5.bl) (e2.old L5.ng)
    have HN6 : Hid (Calls _ _ _ _ _) := N6
    clear N6 L5
    obtain ⟨s2a, s2n, s2c⟩ := s2
    unfold slV at c6 HN6
    dsimp only at c6 HN6
    go_wp2_with (fail)
    refine HN6.out.mono ?_
    rintro e w6 ⟨rfl, L6⟩
    clear c6 gl6 k0 k7 kl HN6
    have c7 := (L6.bl.cell (p := ⟨lg, lo + b * 13 + 12, none⟩) gl).trans f1
    have gl7 : lg < w6.heap.size := Nat.lt_of_lt_of_le gl L6.bl.size
    have k0 := L6.k.c 0 (by decide)
    have k7 := L6.k.c 7 (by decide)
    have kl := L6.k.lt
    simp only [Kd.f] at k0 k7 kl
    have N7 := note_any w0 _ w6 L6 hn 11 (by decide) s3 _ (f2.below L6.bl) (f2.old L6.ng)
    have HN7 : Hid (Calls _ _ _ _ _) := N7
    clear N7 L6
    obtain ⟨s3a, s3n, s3c⟩ := s3
    unfold slV at c7 HN7
    dsimp only at c7 HN7
    go_wp2_with (fail)
    refine HN7.out.mono ?_
    rintro e w7 ⟨rfl, L7⟩
    clear c7 gl7 k0 k7 kl HN7
    have k7 := L7.k.c 7 (by decide)
    have kl := L7.k.lt
    simp only [Kd.f] at k7 kl
    have HF : Hid _ := L7
    clear L7
    go_wp2
    go_end0
    exact ⟨rfl, HF.out⟩
  · go_enter Tryd.func66, Tryd.ntmps66
    go_wp2
    go_region
    have L1 := HL1.out
    clear HL1 x0 x1 x2 k0 k1 k2 k4 k5 k6 k7 k8 k9 kl fz pc pl al
    generalize World.drew _ = W1 at *
    have k7 := L1.k.c 7 (by decide)
    have k8 := L1.k.c 8 (by decide)
    have k4 := L1.k.c 4 (by decide)
    have kl := L1.k.lt
    have fz := L1.k.fz
    simp only [Kd.f] at k7 k8 k4 kl fz
    have L2 := (L1.setK (bits BinOp.or IntKind.u8 32 8))
    try dsimp only at L2
    have HL2 : Hid _ := L2
    clear L1 L2
    go_wp2
    have L2 := HL2.out
    clear HL2 k7 k8 k4 kl fz
    try generalize World.setCell _ _ _ = W2 at *
    have hcl := fun ty => L2.g.clears0 b (Nat.le_of_lt hb) n ty
    have L3 := L2.clearG b (Nat.le_of_lt hb)
    dsimp only at hcl L3
    generalize hW3 : World.setCells _ gb 0 _ = W3 at *
    clear hW3
    have k0 := L3.k.c 0 (by decide)
    have k2 := L3.k.c 2 (by decide)
    have kl := L3.k.lt
    have pc := L3.p.c b hb
    have pl := L3.p.lt
    simp only [Kd.f] at k0 k2 kl pc pl
    change LkF Φ w0 ⟨kb, ab, pb, rb, gb, n, .slice (some ⟨lg, lo, none⟩) n lc, A, PP, R, W.cl b G, _, _, _, _⟩ W3 at L3
    have N1 := fun W4 (hb4 : Below W3.heap.size W3 W4) s hs hF => note_any w0 _ W4 (L3.below hb4) hn 8 (by decide) s [PP b] hs hF
    have HN1 : Hid _ := N1
    have gl3 := L3.g.lt
    dsimp only at gl3
    clear L2 L3 N1
    go_wp2_with (fail)
    refine (HN1.out _ ((Below.refl _ _).alloc (Nat.le_refl _) _) ⟨some ⟨W3.heap.size, 0, none⟩, 1, 1⟩ (li_one W3 _ (PP b)) (fun g o _ e => by cases e; omega)).mono ?_
    rintro e w4 ⟨rfl, L4⟩
    have HKO := HK.out.2
    obtain ⟨oo, _, _, ⟨s1, a1, a2⟩, ⟨s2, e1, e2⟩, ⟨s3, f1, f2⟩⟩ := HKO
    have gl := oo.lt
    clear oo HN1 k0 k2 kl pc pl gl3 hcl
    have c5 := (L4.bl.cell (p := ⟨lg, lo + b * 13 + 10, none⟩) gl).trans a1
    have gl5 : lg < w4.heap.size := Nat.lt_of_lt_of_le gl L4.bl.size
    have k0 := L4.k.c 0 (by decide)
    have k7 := L4.k.c 7 (by decide)
    have kl := L4.k.lt
    simp only [Kd.f] at k0 k7 kl
    have N5 := note_any w0 _ w4 L4 hn 9 (by decide) s1 _ (a2.below L4.bl) (a2.old L4.ng)
    have HN5 : Hid (Calls _ _ _ _ _) := N5
    clear N5 L4
    obtain ⟨s1a, s1n, s1c⟩ := s1
    unfold slV at c5 HN5
    dsimp only at c5 HN5
    go_wp2_with (fail)
    refine HN5.out.mono ?_
    rintro e w5 ⟨rfl, L5⟩
    clear c5 gl5 k0 k7 kl HN5
    have c6 := (L5.bl.cell (p := ⟨lg, lo + b * 13 + 11, none⟩) gl).trans e1
    have gl6 : lg < w5.heap.size := Nat.lt_of_lt_of_le gl L5.bl.size
    have k0 := L5.k.c 0 (by decide)
    have k7 := L5.k.c 7 (by decide)
    have kl := L5.k.lt
    simp only [Kd.f] at k0 k7 kl
    have N6 := note_any w0 _ w5 L5 hn 10 (by decide) s2 _ (e2.below L5.bl) (e2.old L5.ng)
    have HN6 : Hid (Calls _ _ _ _ _) := N6
    clear N6 L5
    obtain ⟨s2a, s2n, s2c⟩ := s2
    unfold slV at c6 HN6
    dsimp only at c6 HN6
    go_wp2_with (fail)
    refine HN6.out.mono ?_
    rintro e w6 ⟨rfl, L6⟩
    clear c6 gl6 k0 k7 kl HN6
    have k7 := L6.k.c 7 (by decide)
    have kl := L6.k.lt
    simp only [Kd.f] at k7 kl
    have HF : Hid _ := L6
    clear L6
    go_wp2
    go_end0
    exact ⟨rfl, HF.out⟩
  · go_enter Tryd.func66, Tryd.ntmps66
    go_wp2
    go_region
    have L1 := HL1.out
    clear HL1 x0 x1 x2 k0 k1 k2 k4 k5 k6 k7 k8 k9 kl fz pc pl al
    generalize World.drew _ = W1 at *
    have k7 := L1.k.c 7 (by decide)
    have k8 := L1.k.c 8 (by decide)
    have k4 := L1.k.c 4 (by decide)
    have kl := L1.k.lt
    have fz := L1.k.fz
    simp only [Kd.f] at k7 k8 k4 kl fz
    have L2 := ((L1.setK (bits BinOp.or IntKind.u8 32 8)).setK (bits BinOp.or IntKind.u8 (bits BinOp.or IntKind.u8 32 8) 128))
    try dsimp only at L2
    have HL2 : Hid _ := L2
    clear L1 L2
    go_wp2
    have L2 := HL2.out
    clear HL2 k7 k8 k4 kl fz
    try generalize World.setCell _ _ _ = W2 at *
    have hcl := fun ty => L2.g.clears0 b (Nat.le_of_lt hb) n ty
    have L3 := L2.clearG b (Nat.le_of_lt hb)
    dsimp only at hcl L3
    generalize hW3 : World.setCells _ gb 0 _ = W3 at *
    clear hW3
    have k0 := L3.k.c 0 (by decide)
    have k2 := L3.k.c 2 (by decide)
    have kl := L3.k.lt
    have pc := L3.p.c b hb
    have pl := L3.p.lt
    simp only [Kd.f] at k0 k2 kl pc pl
    change LkF Φ w0 ⟨kb, ab, pb, rb, gb, n, .slice (some ⟨lg, lo, none⟩) n lc, A, PP, R, W.cl b G, _, _, _, _⟩ W3 at L3
    have N1 := fun W4 (hb4 : Below W3.heap.size W3 W4) s hs hF => note_any w0 _ W4 (L3.below hb4) hn 8 (by decide) s [PP b] hs hF
    have HN1 : Hid _ := N1
    have gl3 := L3.g.lt
    dsimp only at gl3
    clear L2 L3 N1
    go_wp2_with (fail)
    refine (HN1.out _ ((Below.refl _ _).alloc (Nat.le_refl _) _) ⟨some ⟨W3.heap.size, 0, none⟩, 1, 1⟩ (li_one W3 _ (PP b)) (fun g o _ e => by cases e; omega)).mono ?_
    rintro e w4 ⟨rfl, L4⟩
    have HKO := HK.out.2
    obtain ⟨oo, _, _, ⟨s1, a1, a2⟩, ⟨s2, e1, e2⟩, ⟨s3, f1, f2⟩⟩ := HKO
    have gl := oo.lt
    clear oo HN1 k0 k2 kl pc pl gl3 hcl
    have c5 := (L4.bl.cell (p := ⟨lg, lo + b * 13 + 10, none⟩) gl).trans a1
    have gl5 : lg < w4.heap.size := Nat.lt_of_lt_of_le gl L4.bl.size
    have k0 := L4.k.c 0 (by decide)
    have k7 := L4.k.c 7 (by decide)
    have kl := L4.k.lt
    simp only [Kd.f] at k0 k7 kl
    have N5 := note_any w0 _ w4 L4 hn 9 (by decide) s1 _ (a2.below L4.bl) (a2.old L4.ng)
    have HN5 : Hid (Calls _ _ _ _ _) := N5
    clear N5 L4
    obtain ⟨s1a, s1n, s1c⟩ := s1
    unfold slV at c5 HN5
    dsimp only at c5 HN5
    go_wp2_with (fail)
    refine HN5.out.mono ?_
    rintro e w5 ⟨rfl, L5⟩
    clear c5 gl5 k0 k7 kl HN5
    have c6 := (L5.bl.cell (p := ⟨lg, lo + b * 13 + 11, none⟩) gl).trans e1
    have gl6 : lg < w5.heap.size := Nat.lt_of_lt_of_le gl L5.bl.size
    have k0 := L5.k.c 0 (by decide)
    have k7 := L5.k.c 7 (by decide)
    have kl := L5.k.lt
    simp only [Kd.f] at k0 k7 kl
    have N6 := note_any w0 _ w5 L5 hn 10 (by decide) s2 _ (e2.below L5.bl) (e2.old L5.ng)
    have HN6 : Hid (Calls _ _ _ _ _) := N6
    clear N6 L5
    obtain ⟨s2a, s2n, s2c⟩ := s2
    unfold slV at c6 HN6
    dsimp only at c6 HN6
    go_wp2_with (fail)
    refine HN6.out.mono ?_
    rintro e w6 ⟨rfl, L6⟩
    clear c6 gl6 k0 k7 kl HN6
    have c7 := (L6.bl.cell (p := ⟨lg, lo + b * 13 + 12, none⟩) gl).trans f1
    have gl7 : lg < w6.heap.size := Nat.lt_of_lt_of_le gl L6.bl.size
    have k0 := L6.k.c 0 (by decide)
    have k7 := L6.k.c 7 (by decide)
    have kl := L6.k.lt
    simp only [Kd.f] at k0 k7 kl
    have N7 := note_any w0 _ w6 L6 hn 11 (by decide) s3 _ (f2.below L6.bl) (f2.old L6.ng)
    have HN7 : Hid (Calls _ _ _ _ _) := N7
    clear N7 L6
    obtain ⟨s3a, s3n, s3c⟩ := s3
    unfold slV at c7 HN7
    dsimp only at c7 HN7
    go_wp2_with (fail)
    refine HN7.out.mono ?_
    rintro e w7 ⟨rfl, L7⟩
    clear c7 gl7 k0 k7 kl HN7
    have k7 := L7.k.c 7 (by decide)
    have kl := L7.k.lt
    simp only [Kd.f] at k7 kl
    have HF : Hid _ := L7
    clear L7
    go_wp2
    go_end0
    exact ⟨rfl, HF.out⟩
  · go_enter Tryd.func66, Tryd.ntmps66
    go_wp2
    go_region
    have L1 := HL1.out
    clear HL1 x0 x1 x2 k0 k1 k2 k4 k5 k6 k7 k8 k9 kl fz pc pl al
    generalize World.drew _ = W1 at *
    have k7 := L1.k.c 7 (by decide)
    have k8 := L1.k.c 8 (by decide)
    have k4 := L1.k.c 4 (by decide)
    have kl := L1.k.lt
    have fz := L1.k.fz
    simp only [Kd.f] at k7 k8 k4 kl fz
    have L2 := ((L1.setK (bits BinOp.or IntKind.u8 32 8)).setK (bits BinOp.or IntKind.u8 (bits BinOp.or IntKind.u8 32 8) 64))
    try dsimp only at L2
    have HL2 : Hid _ := L2
    clear L1 L2
    go_wp2
    have L2 := HL2.out
    clear HL2 k7 k8 k4 kl fz
    try generalize World.setCell _ _ _ = W2 at *
    have hcl := fun ty => L2.g.clears0 b (Nat.le_of_lt hb) n ty
    have L3 := L2.clearG b (Nat.le_of_lt hb)
    dsimp only at hcl L3
    generalize hW3 : World.setCells _ gb 0 _ = W3 at *
    clear hW3
    have k0 := L3.k.c 0 (by decide)
    have k2 := L3.k.c 2 (by decide)
    have kl := L3.k.lt
    have pc := L3.p.c b hb
    have pl := L3.p.lt
    simp only [Kd.f] at k0 k2 kl pc pl
    change LkF Φ w0 ⟨kb, ab, pb, rb, gb, n, .slice (some ⟨lg, lo, none⟩) n lc, A, PP, R, W.cl b G, _, _, _, _⟩ W3 at L3
    have N1 := fun W4 (hb4 : Below W3.heap.size W3 W4) s hs hF => note_any w0 _ W4 (L3.below hb4) hn 8 (by decide) s [PP b] hs hF
    have HN1 : Hid _ := N1
    have gl3 := L3.g.lt
    dsimp only at gl3
    clear L2 L3 N1
    go_wp2_with (fail)
    refine (HN1.out _ ((Below.refl _ _).alloc (Nat.le_refl _) _) ⟨some ⟨W3.heap.size, 0, none⟩, 1, 1⟩ (li_one W3 _ (PP b)) (fun g o _ e => by cases e; omega)).mono ?_
    rintro e w4 ⟨rfl, L4⟩
    have HKO := HK.out.2
    obtain ⟨oo, _, _, ⟨s1, a1, a2⟩, ⟨s2, e1, e2⟩, ⟨s3, f1, f2⟩⟩ := HKO
    have gl := oo.lt
    clear oo HN1 k0 k2 kl pc pl gl3 hcl
    have c5 := (L4.bl.cell (p := ⟨lg, lo + b * 13 + 10, none⟩) gl).trans a1
    have gl5 : lg < w4.heap.size := Nat.lt_of_lt_of_le gl L4.bl.size
    have k0 := L4.k.c 0 (by decide)
    have k7 := L4.k.c 7 (by decide)
    have kl := L4.k.lt
    simp only [Kd.f] at k0 k7 kl
    have N5 := note_any w0 _ w4 L4 hn 9 (by decide) s1 _ (a2.below L4.bl) (a2.old L4.ng)
    have HN5 : Hid (Calls _ _ _ _ _) := N5
    clear N5 L4
    obtain ⟨s1a, s1n, s1c⟩ := s1
    unfold slV at c5 HN5
    dsimp only at c5 HN5
    go_wp2_with (fail)
    refine HN5.out.mono ?_
    rintro e w5 ⟨rfl, L5⟩
    clear c5 gl5 k0 k7 kl HN5
    have c6 := (L5.bl.cell (p := ⟨lg, lo + b * 13 + 11, none⟩) gl).trans e1
    have gl6 : lg < w5.heap.size := Nat.lt_of_lt_of_le gl L5.bl.size
    have k0 := L5.k.c 0 (by decide)
    have k7 := L5.k.c 7 (by decide)
    have kl := L5.k.lt
    simp only [Kd.f] at k0 k7 kl
    have N6 := note_any w0 _ w5 L5 hn 10 (by decide) s2 _ (e2.below L5.bl) (e2.old L5.ng)
    have HN6 : Hid (Calls _ _ _ _ _) := N6
    clear N6 L5
    obtain ⟨s2a, s2n, s2c⟩ := s2
    unfold slV at c6 HN6
    dsimp only at c6 HN6
    go_wp2_with (fail)
    refine HN6.out.mono ?_
    rintro e w6 ⟨rfl, L6⟩
    clear c6 gl6 k0 k7 kl HN6
    have k7 := L6.k.c 7 (by decide)
    have kl := L6.k.lt
    simp only [Kd.f] at k7 kl
    have HF : Hid _ := L6
    clear L6
    go_wp2
    go_end0
    exact ⟨rfl, HF.out⟩
  · go_enter Tryd.func66, Tryd.ntmps66
    go_wp2
    go_region
    have L1 := HL1.out
    clear HL1 x0 x1 x2 k0 k1 k2 k4 k5 k6 k7 k8 k9 kl fz pc pl al
    generalize World.drew _ = W1 at *
    have k7 := L1.k.c 7 (by decide)
    have k8 := L1.k.c 8 (by decide)
    have k4 := L1.k.c 4 (by decide)
    have kl := L1.k.lt
    have fz := L1.k.fz
    simp only [Kd.f] at k7 k8 k4 kl fz
    have L2 := (((L1.setK (bits BinOp.or IntKind.u8 32 8)).setK (bits BinOp.or IntKind.u8 (bits BinOp.or IntKind.u8 32 8) 64)).setK (bits BinOp.or IntKind.u8 (bits BinOp.or IntKind.u8 (bits BinOp.or IntKind.u8 32 8) 64) 128))
    try dsimp only at L2
    have HL2 : Hid _ := L2
    clear L1 L2
    go_wp2
    have L2 := HL2.out
    clear HL2 k7 k8 k4 kl fz
    try generalize World.setCell _ _ _ = W2 at *
    have hcl := fun ty => L2.g.clears0 b (Nat.le_of_lt hb) n ty
    have L3 := L2.clearG b (Nat.le_of_lt hb)
    dsimp only at hcl L3
    generalize hW3 : World.setCells _ gb 0 _ = W3 at *
    clear hW3
    have k0 := L3.k.c 0 (by decide)
    have k2 := L3.k.c 2 (by decide)
    have kl := L3.k.lt
    have pc := L3.p.c b hb
    have pl := L3.p.lt
    simp only [Kd.f] at k0 k2 kl pc pl
    change LkF Φ w0 ⟨kb, ab, pb, rb, gb, n, .slice (some ⟨lg, lo, none⟩) n lc, A, PP, R, W.cl b G, _, _, _, _⟩ W3 at L3
    have N1 := fun W4 (hb4 : Below W3.heap.size W3 W4) s hs hF => note_any w0 _ W4 (L3.below hb4) hn 8 (by decide) s [PP b] hs hF
    have HN1 : Hid _ := N1
    have gl3 := L3.g.lt
    dsimp only at gl3
    clear L2 L3 N1
    go_wp2_with (fail)
    refine (HN1.out _ ((Below.refl _ _).alloc (Nat.le_refl _) _) ⟨some ⟨W3.heap.size, 0, none⟩, 1, 1⟩ (li_one W3 _ (PP b)) (fun g o _ e => by cases e; omega)).mono ?_
    rintro e w4 ⟨rfl, L4⟩
    have HKO := HK.out.2
    obtain ⟨oo, _, _, ⟨s1, a1, a2⟩, ⟨s2, e1, e2⟩, ⟨s3, f1, f2⟩⟩ := HKO
    have gl := oo.lt
    clear oo HN1 k0 k2 kl pc pl gl3 hcl
    have c5 := (L4.bl.cell (p := ⟨lg, lo + b * 13 + 10, none⟩) gl).trans a1
    have gl5 : lg < w4.heap.size := Nat.lt_of_lt_of_le gl L4.bl.size
    have k0 := L4.k.c 0 (by decide)
    have k7 := L4.k.c 7 (by decide)
    have kl := L4.k.lt
    simp only [Kd.f] at k0 k7 kl
    have N5 := note_any w0 _ w4 L4 hn 9 (by decide) s1 _ (a2.below L4.bl) (a2.old L4.ng)
    have HN5 : Hid (Calls _ _ _ _ _) := N5
    clear N5 L4
    obtain ⟨s1a, s1n, s1c⟩ := s1
    unfold slV at c5 HN5
    dsimp only at c5 HN5
    go_wp2_with (fail)
    refine HN5.out.mono ?_
    rintro e w5 ⟨rfl, L5⟩
    clear c5 gl5 k0 k7 kl HN5
    have c6 := (L5.bl.cell (p := ⟨lg, lo + b * 13 + 11, none⟩) gl).trans e1
    have gl6 : lg < w5.heap.size := Nat.lt_of_lt_of_le gl L5.bl.size
    have k0 := L5.k.c 0 (by decide)
    have k7 := L5.k.c 7 (by decide)
    have kl := L5.k.lt
    simp only [Kd.f] at k0 k7 kl
    have N6 := note_any w0 _ w5 L5 hn 10 (by decide) s2 _ (e2.below L5.bl) (e2.old L5.ng)
    have HN6 : Hid (Calls _ _ _ _ _) := N6
    clear N6 L5
    obtain ⟨s2a, s2n, s2c⟩ := s2
    unfold slV at c6 HN6
    dsimp only at c6 HN6
    go_wp2_with (fail)
    refine HN6.out.mono ?_
    rintro e w6 ⟨rfl, L6⟩
    clear c6 gl6 k0 k7 kl HN6
    have c7 := (L6.bl.cell (p := ⟨lg, lo + b * 13 + 12, none⟩) gl).trans f1
    have gl7 : lg < w6.heap.size := Nat.lt_of_lt_of_le gl L6.bl.size
    have k0 := L6.k.c 0 (by decide)
    have k7 := L6.k.c 7 (by decide)
    have kl := L6.k.lt
    simp only [Kd.f] at k0 k7 kl
    have N7 := note_any w0 _ w6 L6 hn 11 (by decide) s3 _ (f2.below L6.bl) (f2.old L6.ng)
    have HN7 : Hid (Calls _ _ _ _ _) := N7
    clear N7 L6
    obtain ⟨s3a, s3n, s3c⟩ := s3
    unfold slV at c7 HN7
    dsimp only at c7 HN7
    go_wp2_with (fail)
    refine HN7.out.mono ?_
    rintro e w7 ⟨rfl, L7⟩
    clear c7 gl7 k0 k7 kl HN7
    have k7 := L7.k.c 7 (by decide)
    have kl := L7.k.lt
    simp only [Kd.f] at k7 kl
    have HF : Hid _ := L7
    clear L7
    go_wp2
    go_end0
    exact ⟨rfl, HF.out⟩
end Go.Proofs.YtibohlbkkaghkaaDoor

/- begin, from a used look: something was. -/
namespace Go.Proofs.YtibohlbkkaghkaaDoor
open Go.ChangeShapes Go.WideShapes Go.ChangeAt Go.RowKit
set_option linter.unusedVariables false
set_option maxRecDepth 100000
set_option linter.unusedSimpArgs false
variable {Φ : Nat → Option Obj}
set_option maxHeartbeats 1600000 in
theorem begin_s (w0 : World) (d : Kd) (w : World) (h : LkF Φ w0 d w) (b : Nat) (hb : b < d.n) (hn : d.n ≤ 4096) (hg hc : Nat) (hH : d.H = ⟨some ⟨hg, 0, none⟩, d.hid.length, hc⟩) (lg lo lc : Nat) (hl : d.l = .slice (some ⟨lg, lo, none⟩) d.n lc) (z : W.Oz) (hz : OzAt lg (lo + b * 13) z w0) :
    Calls Tryd.prog 66 #[.pointer (some ⟨d.kb, 0, none⟩), .int .i64 (b : Int)] w fun e w' => e = .returned (.tuple #[]) ∧ LkF Φ w0 { d with b := d.A b, k := W.keep0 (d.A b).t, G := W.hangG (W.cl b d.G) (d.A b).t (d.P b) z, H := ⟨some ⟨hg, 0, none⟩, 0, hc⟩, hid := [] } w' := by
  obtain ⟨kb, ab, pb, rb, gb, n, l, A, PP, R, G, B, k, H, hid⟩ := d
  dsimp only at *
  subst hH hl
  obtain ⟨x0, x1, x2⟩ := h.act b hb
  have al := h.a.lt
  have pc := h.p.c b hb
  have pl := h.p.lt
  have k0 := h.k.c 0 (by decide)
  have k1 := h.k.c 1 (by decide)
  have k2 := h.k.c 2 (by decide)
  have k4 := h.k.c 4 (by decide)
  have k5 := h.k.c 5 (by decide)
  have k6 := h.k.c 6 (by decide)
  have k7 := h.k.c 7 (by decide)
  have k8 := h.k.c 8 (by decide)
  have k9 := h.k.c 9 (by decide)
  have kl := h.k.lt
  have fz := h.k.fz
  have ka := h.ka
  simp only [Kd.f] at k0 k1 k2 k4 k5 k6 k7 k8 k9
  unfold slV at k9
  dsimp only at *
  have hB : (b : Int) < (n : Int) := by omega
  have HK : Hid (LkF _ _ _ _ ∧ OzAt _ _ _ _) := ⟨h, hz⟩
  clear h hz
  generalize hX : A b = X at *
  obtain ⟨⟨F, Z⟩, T⟩ := X
  dsimp only at *
  have L1 : LkF Φ w0 ⟨kb, ab, pb, rb, gb, n, .slice (some ⟨lg, lo, none⟩) n lc, A, PP, R, G, ⟨⟨F, Z⟩, T⟩, 32, ⟨some ⟨hg, 0, none⟩, 0, hc⟩, []⟩ (((((w.setCell ⟨kb, 5, none⟩ (.int .u32 F)).setCell ⟨kb, 6, none⟩ (.int .u64 Z)).setCell ⟨kb, 7, none⟩ (.int .u8 T)).setCell ⟨kb, 8, none⟩ (.int .u8 32)).setCell ⟨kb, 9, none⟩ (.slice (some ⟨hg, 0, none⟩) 0 hc)).drew := by
    have q := (HK.out.1.setB ⟨⟨F, Z⟩, T⟩).setK 32
    have q2 := q.setH ⟨some ⟨hg, 0, none⟩, 0, hc⟩ [] (fun s hs => by cases hs) ⟨rfl, rfl, rfl, Nat.le_refl _, fun _ _ _ => rfl⟩ (own_cut q.h) (fun b hb => Or.inl hb)
    exact q2.below (Below.refl _ _).drew
  have HL1 : Hid _ := L1
  clear L1
  unfold W.keep0 W.hangG W.a8 W.o8
  dsimp only
  cases q64 : (bits BinOp.and IntKind.u8 T 64 != 0) <;> cases q96 : (bits BinOp.and IntKind.u8 T 96 != 0) <;> cases q2 : (bits BinOp.and IntKind.u8 T 2 != 0)
  · go_enter Tryd.func66, Tryd.ntmps66
    go_wp2
    go_region
    have L1 := HL1.out
    clear HL1 x0 x1 x2 k0 k1 k2 k4 k5 k6 k7 k8 k9 kl fz pc pl al
    generalize World.drew _ = W1 at *
    have k7 := L1.k.c 7 (by decide)
    have k8 := L1.k.c 8 (by decide)
    have k4 := L1.k.c 4 (by decide)
    have kl := L1.k.lt
    have fz := L1.k.fz
    simp only [Kd.f] at k7 k8 k4 kl fz
    have L2 := L1
    try dsimp only at L2
    have HL2 : Hid _ := L2
    clear L1 L2
    go_wp2
    have L2 := HL2.out
    clear HL2 k7 k8 k4 kl fz
    try generalize World.setCell _ _ _ = W2 at *
    have hcl := fun ty => L2.g.clears0 b (Nat.le_of_lt hb) n ty
    have L3 := L2.clearG b (Nat.le_of_lt hb)
    dsimp only at hcl L3
    generalize hW3 : World.setCells _ gb 0 _ = W3 at *
    clear hW3
    have k0 := L3.k.c 0 (by decide)
    have k2 := L3.k.c 2 (by decide)
    have kl := L3.k.lt
    have pc := L3.p.c b hb
    have pl := L3.p.lt
    simp only [Kd.f] at k0 k2 kl pc pl
    change LkF Φ w0 ⟨kb, ab, pb, rb, gb, n, .slice (some ⟨lg, lo, none⟩) n lc, A, PP, R, W.cl b G, _, _, _, _⟩ W3 at L3
    have N1 := fun W4 (hb4 : Below W3.heap.size W3 W4) s hs hF => note_any w0 _ W4 (L3.below hb4) hn 8 (by decide) s [PP b] hs hF
    have HN1 : Hid _ := N1
    have gl3 := L3.g.lt
    dsimp only at gl3
    clear L2 L3 N1
    go_wp2_with (fail)
    refine (HN1.out _ ((Below.refl _ _).alloc (Nat.le_refl _) _) ⟨some ⟨W3.heap.size, 0, none⟩, 1, 1⟩ (li_one W3 _ (PP b)) (fun g o _ e => by cases e; omega)).mono ?_
    rintro e w4 ⟨rfl, L4⟩
    have HKO := HK.out.2
    obtain ⟨oo, _, _, ⟨s1, a1, a2⟩, ⟨s2, e1, e2⟩, ⟨s3, f1, f2⟩⟩ := HKO
    have gl := oo.lt
    clear oo HN1 k0 k2 kl pc pl gl3 hcl
    have c5 := (L4.bl.cell (p := ⟨lg, lo + b * 13 + 10, none⟩) gl).trans a1
    have gl5 : lg < w4.heap.size := Nat.lt_of_lt_of_le gl L4.bl.size
    have k0 := L4.k.c 0 (by decide)
    have k7 := L4.k.c 7 (by decide)
    have kl := L4.k.lt
    simp only [Kd.f] at k0 k7 kl
    have N5 := note_any w0 _ w4 L4 hn 9 (by decide) s1 _ (a2.below L4.bl) (a2.old L4.ng)
    have HN5 : Hid (Calls _ _ _ _ _) := N5
    clear N5 L4
    obtain ⟨s1a, s1n, s1c⟩ := s1
    unfold slV at c5 HN5
    dsimp only at c5 HN5
    go_wp2_with (fail)
    refine HN5.out.mono ?_
    rintro e w5 ⟨rfl, L5⟩
    clear c5 gl5 k0 k7 kl HN5
    have c6 := (L5.bl.cell (p := ⟨lg, lo + b * 13 + 11, none⟩) gl).trans e1
    have gl6 : lg < w5.heap.size := Nat.lt_of_lt_of_le gl L5.bl.size
    have k0 := L5.k.c 0 (by decide)
    have k7 := L5.k.c 7 (by decide)
    have kl := L5.k.lt
    simp only [Kd.f] at k0 k7 kl
    have N6 := note_any w0 _ w5 L5 hn 10 (by decide) s2 _ (e2.below L5.bl) (e2.old L5.ng)
    have HN6 : Hid (Calls _ _ _ _ _) := N6
    clear N6 L5
    obtain ⟨s2a, s2n, s2c⟩ := s2
    unfold slV at c6 HN6
    dsimp only at c6 HN6
    go_wp2_with (fail)
    refine HN6.out.mono ?_
    rintro e w6 ⟨rfl, L6⟩
    clear c6 gl6 k0 k7 kl HN6
    have k7 := L6.k.c 7 (by decide)
    have kl := L6.k.lt
    simp only [Kd.f] at k7 kl
    have HF : Hid _ := L6
    clear L6
    go_wp2
    go_end0
    exact ⟨rfl, HF.out⟩
  · go_enter Tryd.func66, Tryd.ntmps66
    go_wp2
    go_region
    have L1 := HL1.out
    clear HL1 x0 x1 x2 k0 k1 k2 k4 k5 k6 k7 k8 k9 kl fz pc pl al
    generalize World.drew _ = W1 at *
    have k7 := L1.k.c 7 (by decide)
    have k8 := L1.k.c 8 (by decide)
    have k4 := L1.k.c 4 (by decide)
    have kl := L1.k.lt
    have fz := L1.k.fz
    simp only [Kd.f] at k7 k8 k4 kl fz
    have L2 := (L1.setK (bits BinOp.or IntKind.u8 32 128))
    try dsimp only at L2
    have HL2 : Hid _ := L2
    clear L1 L2
    go_wp2
    have L2 := HL2.out
    clear HL2 k7 k8 k4 kl fz
    try generalize World.setCell _ _ _ = W2 at *
    have hcl := fun ty => L2.g.clears0 b (Nat.le_of_lt hb) n ty
    have L3 := L2.clearG b (Nat.le_of_lt hb)
    dsimp only at hcl L3
    generalize hW3 : World.setCells _ gb 0 _ = W3 at *
    clear hW3
    have k0 := L3.k.c 0 (by decide)
    have k2 := L3.k.c 2 (by decide)
    have kl := L3.k.lt
    have pc := L3.p.c b hb
    have pl := L3.p.lt
    simp only [Kd.f] at k0 k2 kl pc pl
    change LkF Φ w0 ⟨kb, ab, pb, rb, gb, n, .slice (some ⟨lg, lo, none⟩) n lc, A, PP, R, W.cl b G, _, _, _, _⟩ W3 at L3
    have N1 := fun W4 (hb4 : Below W3.heap.size W3 W4) s hs hF => note_any w0 _ W4 (L3.below hb4) hn 8 (by decide) s [PP b] hs hF
    have HN1 : Hid _ := N1
    have gl3 := L3.g.lt
    dsimp only at gl3
    clear L2 L3 N1
    go_wp2_with (fail)
    refine (HN1.out _ ((Below.refl _ _).alloc (Nat.le_refl _) _) ⟨some ⟨W3.heap.size, 0, none⟩, 1, 1⟩ (li_one W3 _ (PP b)) (fun g o _ e => by cases e; omega)).mono ?_
    rintro e w4 ⟨rfl, L4⟩
    have HKO := HK.out.2
    obtain ⟨oo, _, _, ⟨s1, a1, a2⟩, ⟨s2, e1, e2⟩, ⟨s3, f1, f2⟩⟩ := HKO
    have gl := oo.lt
    clear oo HN1 k0 k2 kl pc pl gl3 hcl
    have c5 := (L4.bl.cell (p := ⟨lg, lo + b * 13 + 10, none⟩) gl).trans a1
    have gl5 : lg < w4.heap.size := Nat.lt_of_lt_of_le gl L4.bl.size
    have k0 := L4.k.c 0 (by decide)
    have k7 := L4.k.c 7 (by decide)
    have kl := L4.k.lt
    simp only [Kd.f] at k0 k7 kl
    have N5 := note_any w0 _ w4 L4 hn 9 (by decide) s1 _ (a2.below L4.bl) (a2.old L4.ng)
    have HN5 : Hid (Calls _ _ _ _ _) := N5
    clear N5 L4
    obtain ⟨s1a, s1n, s1c⟩ := s1
    unfold slV at c5 HN5
    dsimp only at c5 HN5
    go_wp2_with (fail)
    refine HN5.out.mono ?_
    rintro e w5 ⟨rfl, L5⟩
    clear c5 gl5 k0 k7 kl HN5
    have c6 := (L5.bl.cell (p := ⟨lg, lo + b * 13 + 11, none⟩) gl).trans e1
    have gl6 : lg < w5.heap.size := Nat.lt_of_lt_of_le gl L5.bl.size
    have k0 := L5.k.c 0 (by decide)
    have k7 := L5.k.c 7 (by decide)
    have kl := L5.k.lt
    simp only [Kd.f] at k0 k7 kl
    have N6 := note_any w0 _ w5 L5 hn 10 (by decide) s2 _ (e2.below L5.bl) (e2.old L5.ng)
    have HN6 : Hid (Calls _ _ _ _ _) := N6
    clear N6 L5
    obtain ⟨s2a, s2n, s2c⟩ := s2
    unfold slV at c6 HN6
    dsimp only at c6 HN6
    go_wp2_with (fail)
    refine HN6.out.mono ?_
    rintro e w6 ⟨rfl, L6⟩
    clear c6 gl6 k0 k7 kl HN6
    have c7 := (L6.bl.cell (p := ⟨lg, lo + b * 13 + 12, none⟩) gl).trans f1
    have gl7 : lg < w6.heap.size := Nat.lt_of_lt_of_le gl L6.bl.size
    have k0 := L6.k.c 0 (by decide)
    have k7 := L6.k.c 7 (by decide)
    have kl := L6.k.lt
    simp only [Kd.f] at k0 k7 kl
    have N7 := note_any w0 _ w6 L6 hn 11 (by decide) s3 _ (f2.below L6.bl) (f2.old L6.ng)
    have HN7 : Hid (Calls _ _ _ _ _) := N7
    clear N7 L6
    obtain ⟨s3a, s3n, s3c⟩ := s3
    unfold slV at c7 HN7
    dsimp only at c7 HN7
    go_wp2_with (fail)
    refine HN7.out.mono ?_
    rintro e w7 ⟨rfl, L7⟩
    clear c7 gl7 k0 k7 kl HN7
    have k7 := L7.k.c 7 (by decide)
    have kl := L7.k.lt
    simp only [Kd.f] at k7 kl
    have HF : Hid _ := L7
    clear L7
    go_wp2
    go_end0
    exact ⟨rfl, HF.out⟩
  · go_enter Tryd.func66, Tryd.ntmps66
    go_wp2
    go_region
    have L1 := HL1.out
    clear HL1 x0 x1 x2 k0 k1 k2 k4 k5 k6 k7 k8 k9 kl fz pc pl al
    generalize World.drew _ = W1 at *
    have k7 := L1.k.c 7 (by decide)
    have k8 := L1.k.c 8 (by decide)
    have k4 := L1.k.c 4 (by decide)
    have kl := L1.k.lt
    have fz := L1.k.fz
    simp only [Kd.f] at k7 k8 k4 kl fz
    have L2 := (L1.setK (bits BinOp.or IntKind.u8 32 64))
    try dsimp only at L2
    have HL2 : Hid _ := L2
    clear L1 L2
    go_wp2
    have L2 := HL2.out
    clear HL2 k7 k8 k4 kl fz
    try generalize World.setCell _ _ _ = W2 at *
    have hcl := fun ty => L2.g.clears0 b (Nat.le_of_lt hb) n ty
    have L3 := L2.clearG b (Nat.le_of_lt hb)
    dsimp only at hcl L3
    generalize hW3 : World.setCells _ gb 0 _ = W3 at *
    clear hW3
    have k0 := L3.k.c 0 (by decide)
    have k2 := L3.k.c 2 (by decide)
    have kl := L3.k.lt
    have pc := L3.p.c b hb
    have pl := L3.p.lt
    simp only [Kd.f] at k0 k2 kl pc pl
    change LkF Φ w0 ⟨kb, ab, pb, rb, gb, n, .slice (some ⟨lg, lo, none⟩) n lc, A, PP, R, W.cl b G, _, _, _, _⟩ W3 at L3
    have N1 := fun W4 (hb4 : Below W3.heap.size W3 W4) s hs hF => note_any w0 _ W4 (L3.below hb4) hn 8 (by decide) s [PP b] hs hF
    have HN1 : Hid _ := N1
    have gl3 := L3.g.lt
    dsimp only at gl3
    clear L2 L3 N1
    go_wp2_with (fail)
    refine (HN1.out _ ((Below.refl _ _).alloc (Nat.le_refl _) _) ⟨some ⟨W3.heap.size, 0, none⟩, 1, 1⟩ (li_one W3 _ (PP b)) (fun g o _ e => by cases e; omega)).mono ?_
    rintro e w4 ⟨rfl, L4⟩
    have HKO := HK.out.2
    obtain ⟨oo, _, _, ⟨s1, a1, a2⟩, ⟨s2, e1, e2⟩, ⟨s3, f1, f2⟩⟩ := HKO
    have gl := oo.lt
    clear oo HN1 k0 k2 kl pc pl gl3 hcl
    have c5 := (L4.bl.cell (p := ⟨lg, lo + b * 13 + 10, none⟩) gl).trans a1
    have gl5 : lg < w4.heap.size := Nat.lt_of_lt_of_le gl L4.bl.size
    have k0 := L4.k.c 0 (by decide)
    have k7 := L4.k.c 7 (by decide)
    have kl := L4.k.lt
    simp only [Kd.f] at k0 k7 kl
    have N5 := note_any w0 _ w4 L4 hn 9 (by decide) s1 _ (a2.below L4.bl) (a2.old L4.ng)
    have HN5 : Hid (Calls _ _ _ _ _) := N5
    clear N5 L4
    obtain ⟨s1a, s1n, s1c⟩ := s1
    unfold slV at c5 HN5
    dsimp only at c5 HN5
    go_wp2_with (fail)
    refine HN5.out.mono ?_
    rintro e w5 ⟨rfl, L5⟩
    clear c5 gl5 k0 k7 kl HN5
    have c6 := (L5.bl.cell (p := ⟨lg, lo + b * 13 + 11, none⟩) gl).trans e1
    have gl6 : lg < w5.heap.size := Nat.lt_of_lt_of_le gl L5.bl.size
    have k0 := L5.k.c 0 (by decide)
    have k7 := L5.k.c 7 (by decide)
    have kl := L5.k.lt
    simp only [Kd.f] at k0 k7 kl
    have N6 := note_any w0 _ w5 L5 hn 10 (by decide) s2 _ (e2.below L5.bl) (e2.old L5.ng)
    have HN6 : Hid (Calls _ _ _ _ _) := N6
    clear N6 L5
    obtain ⟨s2a, s2n, s2c⟩ := s2
    unfold slV at c6 HN6
    dsimp only at c6 HN6
    go_wp2_with (fail)
    refine HN6.out.mono ?_
    rintro e w6 ⟨rfl, L6⟩
    clear c6 gl6 k0 k7 kl HN6
    have k7 := L6.k.c 7 (by decide)
    have kl := L6.k.lt
    simp only [Kd.f] at k7 kl
    have HF : Hid _ := L6
    clear L6
    go_wp2
    go_end0
    exact ⟨rfl, HF.out⟩
  · go_enter Tryd.func66, Tryd.ntmps66
    go_wp2
    go_region
    have L1 := HL1.out
    clear HL1 x0 x1 x2 k0 k1 k2 k4 k5 k6 k7 k8 k9 kl fz pc pl al
    generalize World.drew _ = W1 at *
    have k7 := L1.k.c 7 (by decide)
    have k8 := L1.k.c 8 (by decide)
    have k4 := L1.k.c 4 (by decide)
    have kl := L1.k.lt
    have fz := L1.k.fz
    simp only [Kd.f] at k7 k8 k4 kl fz
    have L2 := ((L1.setK (bits BinOp.or IntKind.u8 32 64)).setK (bits BinOp.or IntKind.u8 (bits BinOp.or IntKind.u8 32 64) 128))
    try dsimp only at L2
    have HL2 : Hid _ := L2
    clear L1 L2
    go_wp2
    have L2 := HL2.out
    clear HL2 k7 k8 k4 kl fz
    try generalize World.setCell _ _ _ = W2 at *
    have hcl := fun ty => L2.g.clears0 b (Nat.le_of_lt hb) n ty
    have L3 := L2.clearG b (Nat.le_of_lt hb)
    dsimp only at hcl L3
    generalize hW3 : World.setCells _ gb 0 _ = W3 at *
    clear hW3
    have k0 := L3.k.c 0 (by decide)
    have k2 := L3.k.c 2 (by decide)
    have kl := L3.k.lt
    have pc := L3.p.c b hb
    have pl := L3.p.lt
    simp only [Kd.f] at k0 k2 kl pc pl
    change LkF Φ w0 ⟨kb, ab, pb, rb, gb, n, .slice (some ⟨lg, lo, none⟩) n lc, A, PP, R, W.cl b G, _, _, _, _⟩ W3 at L3
    have N1 := fun W4 (hb4 : Below W3.heap.size W3 W4) s hs hF => note_any w0 _ W4 (L3.below hb4) hn 8 (by decide) s [PP b] hs hF
    have HN1 : Hid _ := N1
    have gl3 := L3.g.lt
    dsimp only at gl3
    clear L2 L3 N1
    go_wp2_with (fail)
    refine (HN1.out _ ((Below.refl _ _).alloc (Nat.le_refl _) _) ⟨some ⟨W3.heap.size, 0, none⟩, 1, 1⟩ (li_one W3 _ (PP b)) (fun g o _ e => by cases e; omega)).mono ?_
    rintro e w4 ⟨rfl, L4⟩
    have HKO := HK.out.2
    obtain ⟨oo, _, _, ⟨s1, a1, a2⟩, ⟨s2, e1, e2⟩, ⟨s3, f1, f2⟩⟩ := HKO
    have gl := oo.lt
    clear oo HN1 k0 k2 kl pc pl gl3 hcl
    have c5 := (L4.bl.cell (p := ⟨lg, lo + b * 13 + 10, none⟩) gl).trans a1
    have gl5 : lg < w4.heap.size := Nat.lt_of_lt_of_le gl L4.bl.size
    have k0 := L4.k.c 0 (by decide)
    have k7 := L4.k.c 7 (by decide)
    have kl := L4.k.lt
    simp only [Kd.f] at k0 k7 kl
    have N5 := note_any w0 _ w4 L4 hn 9 (by decide) s1 _ (a2.below L4.bl) (a2.old L4.ng)
    have HN5 : Hid (Calls _ _ _ _ _) := N5
    clear N5 L4
    obtain ⟨s1a, s1n, s1c⟩ := s1
    unfold slV at c5 HN5
    dsimp only at c5 HN5
    go_wp2_with (fail)
    refine HN5.out.mono ?_
    rintro e w5 ⟨rfl, L5⟩
    clear c5 gl5 k0 k7 kl HN5
    have c6 := (L5.bl.cell (p := ⟨lg, lo + b * 13 + 11, none⟩) gl).trans e1
    have gl6 : lg < w5.heap.size := Nat.lt_of_lt_of_le gl L5.bl.size
    have k0 := L5.k.c 0 (by decide)
    have k7 := L5.k.c 7 (by decide)
    have kl := L5.k.lt
    simp only [Kd.f] at k0 k7 kl
    have N6 := note_any w0 _ w5 L5 hn 10 (by decide) s2 _ (e2.below L5.bl) (e2.old L5.ng)
    have HN6 : Hid (Calls _ _ _ _ _) := N6
    clear N6 L5
    obtain ⟨s2a, s2n, s2c⟩ := s2
    unfold slV at c6 HN6
    dsimp only at c6 HN6
    go_wp2_with (fail)
    refine HN6.out.mono ?_
    rintro e w6 ⟨rfl, L6⟩
    clear c6 gl6 k0 k7 kl HN6
    have c7 := (L6.bl.cell (p := ⟨lg, lo + b * 13 + 12, none⟩) gl).trans f1
    have gl7 : lg < w6.heap.size := Nat.lt_of_lt_of_le gl L6.bl.size
    have k0 := L6.k.c 0 (by decide)
    have k7 := L6.k.c 7 (by decide)
    have kl := L6.k.lt
    simp only [Kd.f] at k0 k7 kl
    have N7 := note_any w0 _ w6 L6 hn 11 (by decide) s3 _ (f2.below L6.bl) (f2.old L6.ng)
    have HN7 : Hid (Calls _ _ _ _ _) := N7
    clear N7 L6
    obtain ⟨s3a, s3n, s3c⟩ := s3
    unfold slV at c7 HN7
    dsimp only at c7 HN7
    go_wp2_with (fail)
    refine HN7.out.mono ?_
    rintro e w7 ⟨rfl, L7⟩
    clear c7 gl7 k0 k7 kl HN7
    have k7 := L7.k.c 7 (by decide)
    have kl := L7.k.lt
    simp only [Kd.f] at k7 kl
    have HF : Hid _ := L7
    clear L7
    go_wp2
    go_end0
    exact ⟨rfl, HF.out⟩
  · go_enter Tryd.func66, Tryd.ntmps66
    go_wp2
    go_region
    have L1 := HL1.out
    clear HL1 x0 x1 x2 k0 k1 k2 k4 k5 k6 k7 k8 k9 kl fz pc pl al
    generalize World.drew _ = W1 at *
    have k7 := L1.k.c 7 (by decide)
    have k8 := L1.k.c 8 (by decide)
    have k4 := L1.k.c 4 (by decide)
    have kl := L1.k.lt
    have fz := L1.k.fz
    simp only [Kd.f] at k7 k8 k4 kl fz
    have L2 := (L1.setK (bits BinOp.or IntKind.u8 32 8))
    try dsimp only at L2
    have HL2 : Hid _ := L2
    clear L1 L2
    go_wp2
    have L2 := HL2.out
    clear HL2 k7 k8 k4 kl fz
    try generalize World.setCell _ _ _ = W2 at *
    have hcl := fun ty => L2.g.clears0 b (Nat.le_of_lt hb) n ty
    have L3 := L2.clearG b (Nat.le_of_lt hb)
    dsimp only at hcl L3
    generalize hW3 : World.setCells _ gb 0 _ = W3 at *
    clear hW3
    have k0 := L3.k.c 0 (by decide)
    have k2 := L3.k.c 2 (by decide)
    have kl := L3.k.lt
    have pc := L3.p.c b hb
    have pl := L3.p.lt
    simp only [Kd.f] at k0 k2 kl pc pl
    change LkF Φ w0 ⟨kb, ab, pb, rb, gb, n, .slice (some ⟨lg, lo, none⟩) n lc, A, PP, R, W.cl b G, _, _, _, _⟩ W3 at L3
    have N1 := fun W4 (hb4 : Below W3.heap.size W3 W4) s hs hF => note_any w0 _ W4 (L3.below hb4) hn 8 (by decide) s [PP b] hs hF
    have HN1 : Hid _ := N1
    have gl3 := L3.g.lt
    dsimp only at gl3
    clear L2 L3 N1
    go_wp2_with (fail)
    refine (HN1.out _ ((Below.refl _ _).alloc (Nat.le_refl _) _) ⟨some ⟨W3.heap.size, 0, none⟩, 1, 1⟩ (li_one W3 _ (PP b)) (fun g o _ e => by cases e; omega)).mono ?_
    rintro e w4 ⟨rfl, L4⟩
    have HKO := HK.out.2
    obtain ⟨oo, _, _, ⟨s1, a1, a2⟩, ⟨s2, e1, e2⟩, ⟨s3, f1, f2⟩⟩ := HKO
    have gl := oo.lt
    clear oo HN1 k0 k2 kl pc pl gl3 hcl
    have c5 := (L4.bl.cell (p := ⟨lg, lo + b * 13 + 10, none⟩) gl).trans a1
    have gl5 : lg < w4.heap.size := Nat.lt_of_lt_of_le gl L4.bl.size
    have k0 := L4.k.c 0 (by decide)
    have k7 := L4.k.c 7 (by decide)
    have kl := L4.k.lt
    simp only [Kd.f] at k0 k7 kl
    have N5 := note_any w0 _ w4 L4 hn 9 (by decide) s1 _ (a2.below L4.bl) (a2.old L4.ng)
    have HN5 : Hid (Calls _ _ _ _ _) := N5
    clear N5 L4
    obtain ⟨s1a, s1n, s1c⟩ := s1
    unfold slV at c5 HN5
    dsimp only at c5 HN5
    go_wp2_with (fail)
    refine HN5.out.mono ?_
    rintro e w5 ⟨rfl, L5⟩
    clear c5 gl5 k0 k7 kl HN5
    have c6 := (L5.bl.cell (p := ⟨lg, lo + b * 13 + 11, none⟩) gl).trans e1
    have gl6 : lg < w5.heap.size := Nat.lt_of_lt_of_le gl L5.bl.size
    have k0 := L5.k.c 0 (by decide)
    have k7 := L5.k.c 7 (by decide)
    have kl := L5.k.lt
    simp only [Kd.f] at k0 k7 kl
    have N6 := note_any w0 _ w5 L5 hn 10 (by decide) s2 _ (e2.below L5.bl) (e2.old L5.ng)
    have HN6 : Hid (Calls _ _ _ _ _) := N6
    clear N6 L5
    obtain ⟨s2a, s2n, s2c⟩ := s2
    unfold slV at c6 HN6
    dsimp only at c6 HN6
    go_wp2_with (fail)
    refine HN6.out.mono ?_
    rintro e w6 ⟨rfl, L6⟩
    clear c6 gl6 k0 k7 kl HN6
    have k7 := L6.k.c 7 (by decide)
    have kl := L6.k.lt
    simp only [Kd.f] at k7 kl
    have HF : Hid _ := L6
    clear L6
    go_wp2
    go_end0
    exact ⟨rfl, HF.out⟩
  · go_enter Tryd.func66, Tryd.ntmps66
    go_wp2
    go_region
    have L1 := HL1.out
    clear HL1 x0 x1 x2 k0 k1 k2 k4 k5 k6 k7 k8 k9 kl fz pc pl al
    generalize World.drew _ = W1 at *
    have k7 := L1.k.c 7 (by decide)
    have k8 := L1.k.c 8 (by decide)
    have k4 := L1.k.c 4 (by decide)
    have kl := L1.k.lt
    have fz := L1.k.fz
    simp only [Kd.f] at k7 k8 k4 kl fz
    have L2 := ((L1.setK (bits BinOp.or IntKind.u8 32 8)).setK (bits BinOp.or IntKind.u8 (bits BinOp.or IntKind.u8 32 8) 128))
    try dsimp only at L2
    have HL2 : Hid _ := L2
    clear L1 L2
    go_wp2
    have L2 := HL2.out
    clear HL2 k7 k8 k4 kl fz
    try generalize World.setCell _ _ _ = W2 at *
    have hcl := fun ty => L2.g.clears0 b (Nat.le_of_lt hb) n ty
    have L3 := L2.clearG b (Nat.le_of_lt hb)
    dsimp only at hcl L3
    generalize hW3 : World.setCells _ gb 0 _ = W3 at *
    clear hW3
    have k0 := L3.k.c 0 (by decide)
    have k2 := L3.k.c 2 (by decide)
    have kl := L3.k.lt
    have pc := L3.p.c b hb
    have pl := L3.p.lt
    simp only [Kd.f] at k0 k2 kl pc pl
    change LkF Φ w0 ⟨kb, ab, pb, rb, gb, n, .slice (some ⟨lg, lo, none⟩) n lc, A, PP, R, W.cl b G, _, _, _, _⟩ W3 at L3
    have N1 := fun W4 (hb4 : Below W3.heap.size W3 W4) s hs hF => note_any w0 _ W4 (L3.below hb4) hn 8 (by decide) s [PP b] hs hF
    have HN1 : Hid _ := N1
    have gl3 := L3.g.lt
    dsimp only at gl3
    clear L2 L3 N1
    go_wp2_with (fail)
    refine (HN1.out _ ((Below.refl _ _).alloc (Nat.le_refl _) _) ⟨some ⟨W3.heap.size, 0, none⟩, 1, 1⟩ (li_one W3 _ (PP b)) (fun g o _ e => by cases e; omega)).mono ?_
    rintro e w4 ⟨rfl, L4⟩
    have HKO := HK.out.2
    obtain ⟨oo, _, _, ⟨s1, a1, a2⟩, ⟨s2, e1, e2⟩, ⟨s3, f1, f2⟩⟩ := HKO
    have gl := oo.lt
    clear oo HN1 k0 k2 kl pc pl gl3 hcl
    have c5 := (L4.bl.cell (p := ⟨lg, lo + b * 13 + 10, none⟩) gl).trans a1
    have gl5 : lg < w4.heap.size := Nat.lt_of_lt_of_le gl L4.bl.size
    have k0 := L4.k.c 0 (by decide)
    have k7 := L4.k.c 7 (by decide)
    have kl := L4.k.lt
    simp only [Kd.f] at k0 k7 kl
    have N5 := note_any w0 _ w4 L4 hn 9 (by decide) s1 _ (a2.below L4.bl) (a2.old L4.ng)
    have HN5 : Hid (Calls _ _ _ _ _) := N5
    clear N5 L4
    obtain ⟨s1a, s1n, s1c⟩ := s1
    unfold slV at c5 HN5
    dsimp only at c5 HN5
    go_wp2_with (fail)
    refine HN5.out.mono ?_
    rintro e w5 ⟨rfl, L5⟩
    clear c5 gl5 k0 k7 kl HN5
    have c6 := (L5.bl.cell (p := ⟨lg, lo + b * 13 + 11, none⟩) gl).trans e1
    have gl6 : lg < w5.heap.size := Nat.lt_of_lt_of_le gl L5.bl.size
    have k0 := L5.k.c 0 (by decide)
    have k7 := L5.k.c 7 (by decide)
    have kl := L5.k.lt
    simp only [Kd.f] at k0 k7 kl
    have N6 := note_any w0 _ w5 L5 hn 10 (by decide) s2 _ (e2.below L5.bl) (e2.old L5.ng)
    have HN6 : Hid (Calls _ _ _ _ _) := N6
    clear N6 L5
    obtain ⟨s2a, s2n, s2c⟩ := s2
    unfold slV at c6 HN6
    dsimp only at c6 HN6
    go_wp2_with (fail)
    refine HN6.out.mono ?_
    rintro e w6 ⟨rfl, L6⟩
    clear c6 gl6 k0 k7 kl HN6
    have c7 := (L6.bl.cell (p := ⟨lg, lo + b * 13 + 12, none⟩) gl).trans f1
    have gl7 : lg < w6.heap.size := Nat.lt_of_lt_of_le gl L6.bl.size
    have k0 := L6.k.c 0 (by decide)
    have k7 := L6.k.c 7 (by decide)
    have kl := L6.k.lt
    simp only [Kd.f] at k0 k7 kl
    have N7 := note_any w0 _ w6 L6 hn 11 (by decide) s3 _ (f2.below L6.bl) (f2.old L6.ng)
    have HN7 : Hid (Calls _ _ _ _ _) := N7
    clear N7 L6
    obtain ⟨s3a, s3n, s3c⟩ := s3
    unfold slV at c7 HN7
    dsimp only at c7 HN7
    go_wp2_with (fail)
    refine HN7.out.mono ?_
    rintro e w7 ⟨rfl, L7⟩
    clear c7 gl7 k0 k7 kl HN7
    have k7 := L7.k.c 7 (by decide)
    have kl := L7.k.lt
    simp only [Kd.f] at k7 kl
    have HF : Hid _ := L7
    clear L7
    go_wp2
    go_end0
    exact ⟨rfl, HF.out⟩
  · go_enter Tryd.func66, Tryd.ntmps66
    go_wp2
    go_region
    have L1 := HL1.out
    clear HL1 x0 x1 x2 k0 k1 k2 k4 k5 k6 k7 k8 k9 kl fz pc pl al
    generalize World.drew _ = W1 at *
    have k7 := L1.k.c 7 (by decide)
    have k8 := L1.k.c 8 (by decide)
    have k4 := L1.k.c 4 (by decide)
    have kl := L1.k.lt
    have fz := L1.k.fz
    simp only [Kd.f] at k7 k8 k4 kl fz
    have L2 := ((L1.setK (bits BinOp.or IntKind.u8 32 8)).setK (bits BinOp.or IntKind.u8 (bits BinOp.or IntKind.u8 32 8) 64))
    try dsimp only at L2
    have HL2 : Hid _ := L2
    clear L1 L2
    go_wp2
    have L2 := HL2.out
    clear HL2 k7 k8 k4 kl fz
    try generalize World.setCell _ _ _ = W2 at *
    have hcl := fun ty => L2.g.clears0 b (Nat.le_of_lt hb) n ty
    have L3 := L2.clearG b (Nat.le_of_lt hb)
    dsimp only at hcl L3
    generalize hW3 : World.setCells _ gb 0 _ = W3 at *
    clear hW3
    have k0 := L3.k.c 0 (by decide)
    have k2 := L3.k.c 2 (by decide)
    have kl := L3.k.lt
    have pc := L3.p.c b hb
    have pl := L3.p.lt
    simp only [Kd.f] at k0 k2 kl pc pl
    change LkF Φ w0 ⟨kb, ab, pb, rb, gb, n, .slice (some ⟨lg, lo, none⟩) n lc, A, PP, R, W.cl b G, _, _, _, _⟩ W3 at L3
    have N1 := fun W4 (hb4 : Below W3.heap.size W3 W4) s hs hF => note_any w0 _ W4 (L3.below hb4) hn 8 (by decide) s [PP b] hs hF
    have HN1 : Hid _ := N1
    have gl3 := L3.g.lt
    dsimp only at gl3
    clear L2 L3 N1
    go_wp2_with (fail)
    refine (HN1.out _ ((Below.refl _ _).alloc (Nat.le_refl _) _) ⟨some ⟨W3.heap.size, 0, none⟩, 1, 1⟩ (li_one W3 _ (PP b)) (fun g o _ e => by cases e; omega)).mono ?_
    rintro e w4 ⟨rfl, L4⟩
    have HKO := HK.out.2
    obtain ⟨oo, _, _, ⟨s1, a1, a2⟩, ⟨s2, e1, e2⟩, ⟨s3, f1, f2⟩⟩ := HKO
    have gl := oo.lt
    clear oo HN1 k0 k2 kl pc pl gl3 hcl
    have c5 := (L4.bl.cell (p := ⟨lg, lo + b * 13 + 10, none⟩) gl).trans a1
    have gl5 : lg < w4.heap.size := Nat.lt_of_lt_of_le gl L4.bl.size
    have k0 := L4.k.c 0 (by decide)
    have k7 := L4.k.c 7 (by decide)
    have kl := L4.k.lt
    simp only [Kd.f] at k0 k7 kl
    have N5 := note_any w0 _ w4 L4 hn 9 (by decide) s1 _ (a2.below L4.bl) (a2.old L4.ng)
    have HN5 : Hid (Calls _ _ _ _ _) := N5
    clear N5 L4
    obtain ⟨s1a, s1n, s1c⟩ := s1
    unfold slV at c5 HN5
    dsimp only at c5 HN5
    go_wp2_with (fail)
    refine HN5.out.mono ?_
    rintro e w5 ⟨rfl, L5⟩
    clear c5 gl5 k0 k7 kl HN5
    have c6 := (L5.bl.cell (p := ⟨lg, lo + b * 13 + 11, none⟩) gl).trans e1
    have gl6 : lg < w5.heap.size := Nat.lt_of_lt_of_le gl L5.bl.size
    have k0 := L5.k.c 0 (by decide)
    have k7 := L5.k.c 7 (by decide)
    have kl := L5.k.lt
    simp only [Kd.f] at k0 k7 kl
    have N6 := note_any w0 _ w5 L5 hn 10 (by decide) s2 _ (e2.below L5.bl) (e2.old L5.ng)
    have HN6 : Hid (Calls _ _ _ _ _) := N6
    clear N6 L5
    obtain ⟨s2a, s2n, s2c⟩ := s2
    unfold slV at c6 HN6
    dsimp only at c6 HN6
    go_wp2_with (fail)
    refine HN6.out.mono ?_
    rintro e w6 ⟨rfl, L6⟩
    clear c6 gl6 k0 k7 kl HN6
    have k7 := L6.k.c 7 (by decide)
    have kl := L6.k.lt
    simp only [Kd.f] at k7 kl
    have HF : Hid _ := L6
    clear L6
    go_wp2
    go_end0
    exact ⟨rfl, HF.out⟩
  · go_enter Tryd.func66, Tryd.ntmps66
    go_wp2
    go_region
    have L1 := HL1.out
    clear HL1 x0 x1 x2 k0 k1 k2 k4 k5 k6 k7 k8 k9 kl fz pc pl al
    generalize World.drew _ = W1 at *
    have k7 := L1.k.c 7 (by decide)
    have k8 := L1.k.c 8 (by decide)
    have k4 := L1.k.c 4 (by decide)
    have kl := L1.k.lt
    have fz := L1.k.fz
    simp only [Kd.f] at k7 k8 k4 kl fz
    have L2 := (((L1.setK (bits BinOp.or IntKind.u8 32 8)).setK (bits BinOp.or IntKind.u8 (bits BinOp.or IntKind.u8 32 8) 64)).setK (bits BinOp.or IntKind.u8 (bits BinOp.or IntKind.u8 (bits BinOp.or IntKind.u8 32 8) 64) 128))
    try dsimp only at L2
    have HL2 : Hid _ := L2
    clear L1 L2
    go_wp2
    have L2 := HL2.out
    clear HL2 k7 k8 k4 kl fz
    try generalize World.setCell _ _ _ = W2 at *
    have hcl := fun ty => L2.g.clears0 b (Nat.le_of_lt hb) n ty
    have L3 := L2.clearG b (Nat.le_of_lt hb)
    dsimp only at hcl L3
    generalize hW3 : World.setCells _ gb 0 _ = W3 at *
    clear hW3
    have k0 := L3.k.c 0 (by decide)
    have k2 := L3.k.c 2 (by decide)
    have kl := L3.k.lt
    have pc := L3.p.c b hb
    have pl := L3.p.lt
    simp only [Kd.f] at k0 k2 kl pc pl
    change LkF Φ w0 ⟨kb, ab, pb, rb, gb, n, .slice (some ⟨lg, lo, none⟩) n lc, A, PP, R, W.cl b G, _, _, _, _⟩ W3 at L3
    have N1 := fun W4 (hb4 : Below W3.heap.size W3 W4) s hs hF => note_any w0 _ W4 (L3.below hb4) hn 8 (by decide) s [PP b] hs hF
    have HN1 : Hid _ := N1
    have gl3 := L3.g.lt
    dsimp only at gl3
    clear L2 L3 N1
    go_wp2_with (fail)
    refine (HN1.out _ ((Below.refl _ _).alloc (Nat.le_refl _) _) ⟨some ⟨W3.heap.size, 0, none⟩, 1, 1⟩ (li_one W3 _ (PP b)) (fun g o _ e => by cases e; omega)).mono ?_
    rintro e w4 ⟨rfl, L4⟩
    have HKO := HK.out.2
    obtain ⟨oo, _, _, ⟨s1, a1, a2⟩, ⟨s2, e1, e2⟩, ⟨s3, f1, f2⟩⟩ := HKO
    have gl := oo.lt
    clear oo HN1 k0 k2 kl pc pl gl3 hcl
    have c5 := (L4.bl.cell (p := ⟨lg, lo + b * 13 + 10, none⟩) gl).trans a1
    have gl5 : lg < w4.heap.size := Nat.lt_of_lt_of_le gl L4.bl.size
    have k0 := L4.k.c 0 (by decide)
    have k7 := L4.k.c 7 (by decide)
    have kl := L4.k.lt
    simp only [Kd.f] at k0 k7 kl
    have N5 := note_any w0 _ w4 L4 hn 9 (by decide) s1 _ (a2.below L4.bl) (a2.old L4.ng)
    have HN5 : Hid (Calls _ _ _ _ _) := N5
    clear N5 L4
    obtain ⟨s1a, s1n, s1c⟩ := s1
    unfold slV at c5 HN5
    dsimp only at c5 HN5
    go_wp2_with (fail)
    refine HN5.out.mono ?_
    rintro e w5 ⟨rfl, L5⟩
    clear c5 gl5 k0 k7 kl HN5
    have c6 := (L5.bl.cell (p := ⟨lg, lo + b * 13 + 11, none⟩) gl).trans e1
    have gl6 : lg < w5.heap.size := Nat.lt_of_lt_of_le gl L5.bl.size
    have k0 := L5.k.c 0 (by decide)
    have k7 := L5.k.c 7 (by decide)
    have kl := L5.k.lt
    simp only [Kd.f] at k0 k7 kl
    have N6 := note_any w0 _ w5 L5 hn 10 (by decide) s2 _ (e2.below L5.bl) (e2.old L5.ng)
    have HN6 : Hid (Calls _ _ _ _ _) := N6
    clear N6 L5
    obtain ⟨s2a, s2n, s2c⟩ := s2
    unfold slV at c6 HN6
    dsimp only at c6 HN6
    go_wp2_with (fail)
    refine HN6.out.mono ?_
    rintro e w6 ⟨rfl, L6⟩
    clear c6 gl6 k0 k7 kl HN6
    have c7 := (L6.bl.cell (p := ⟨lg, lo + b * 13 + 12, none⟩) gl).trans f1
    have gl7 : lg < w6.heap.size := Nat.lt_of_lt_of_le gl L6.bl.size
    have k0 := L6.k.c 0 (by decide)
    have k7 := L6.k.c 7 (by decide)
    have kl := L6.k.lt
    simp only [Kd.f] at k0 k7 kl
    have N7 := note_any w0 _ w6 L6 hn 11 (by decide) s3 _ (f2.below L6.bl) (f2.old L6.ng)
    have HN7 : Hid (Calls _ _ _ _ _) := N7
    clear N7 L6
    obtain ⟨s3a, s3n, s3c⟩ := s3
    unfold slV at c7 HN7
    dsimp only at c7 HN7
    go_wp2_with (fail)
    refine HN7.out.mono ?_
    rintro e w7 ⟨rfl, L7⟩
    clear c7 gl7 k0 k7 kl HN7
    have k7 := L7.k.c 7 (by decide)
    have kl := L7.k.lt
    simp only [Kd.f] at k7 kl
    have HF : Hid _ := L7
    clear L7
    go_wp2
    go_end0
    exact ⟨rfl, HF.out⟩
end Go.Proofs.YtibohlbkkaghkaaDoor
