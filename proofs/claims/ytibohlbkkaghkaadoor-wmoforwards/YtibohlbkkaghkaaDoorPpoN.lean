/- pass. -/
import Derived.Test.YtibohlbkkaghkaaDoorPpoL
namespace Go.Proofs.YtibohlbkkaghkaaDoor
open Go.ChangeShapes Go.WideShapes Go.ChangeAt Go.RowKit
set_option linter.unusedVariables false
set_option linter.unusedSimpArgs false
variable {F : Nat → Option Obj}

/-- Cells of one and of b, over a call. -/
theorem xb_below {w w1 w2 : World} {ab kb i : Nat} {F Z T F2 Z2 T2 : Int} (h : Below w.heap.size w w1 ∧ ab < w1.heap.size ∧ kb < w1.heap.size ∧ w1.cell? ⟨ab, i * 3, none⟩ = some (.int .u32 F) ∧ w1.cell? ⟨ab, i * 3 + 1, none⟩ = some (.int .u64 Z) ∧ w1.cell? ⟨ab, i * 3 + 2, none⟩ = some (.int .u8 T) ∧ w1.cell? ⟨kb, 5, none⟩ = some (.int .u32 F2) ∧ w1.cell? ⟨kb, 6, none⟩ = some (.int .u64 Z2) ∧ w1.cell? ⟨kb, 7, none⟩ = some (.int .u8 T2)) (hb : Below w1.heap.size w1 w2) : Below w.heap.size w w2 ∧ ab < w2.heap.size ∧ kb < w2.heap.size ∧ w2.cell? ⟨ab, i * 3, none⟩ = some (.int .u32 F) ∧ w2.cell? ⟨ab, i * 3 + 1, none⟩ = some (.int .u64 Z) ∧ w2.cell? ⟨ab, i * 3 + 2, none⟩ = some (.int .u8 T) ∧ w2.cell? ⟨kb, 5, none⟩ = some (.int .u32 F2) ∧ w2.cell? ⟨kb, 6, none⟩ = some (.int .u64 Z2) ∧ w2.cell? ⟨kb, 7, none⟩ = some (.int .u8 T2) := by
  obtain ⟨h1, h2, h3, h5, h6, h7, h8, h9, h10⟩ := h
  obtain ⟨q, _⟩ := bcell hb
  have z := hb.size
  exact ⟨h1.trans (hb.mono h1.size), by omega, by omega, (q _ _ h2).trans h5, (q _ _ h2).trans h6, (q _ _ h2).trans h7, (q _ _ h3).trans h8, (q _ _ h3).trans h9, (q _ _ h3).trans h10⟩
theorem xb_drew {w : World} {ab kb i : Nat} {F Z T F2 Z2 T2 : Int} (h2 : ab < w.heap.size) (h3 : kb < w.heap.size) (h5 : w.cell? ⟨ab, i * 3, none⟩ = some (.int .u32 F)) (h6 : w.cell? ⟨ab, i * 3 + 1, none⟩ = some (.int .u64 Z)) (h7 : w.cell? ⟨ab, i * 3 + 2, none⟩ = some (.int .u8 T)) (h8 : w.cell? ⟨kb, 5, none⟩ = some (.int .u32 F2)) (h9 : w.cell? ⟨kb, 6, none⟩ = some (.int .u64 Z2)) (h10 : w.cell? ⟨kb, 7, none⟩ = some (.int .u8 T2)) : Below w.heap.size w w.drew ∧ ab < w.drew.heap.size ∧ kb < w.drew.heap.size ∧ w.drew.cell? ⟨ab, i * 3, none⟩ = some (.int .u32 F) ∧ w.drew.cell? ⟨ab, i * 3 + 1, none⟩ = some (.int .u64 Z) ∧ w.drew.cell? ⟨ab, i * 3 + 2, none⟩ = some (.int .u8 T) ∧ w.drew.cell? ⟨kb, 5, none⟩ = some (.int .u32 F2) ∧ w.drew.cell? ⟨kb, 6, none⟩ = some (.int .u64 Z2) ∧ w.drew.cell? ⟨kb, 7, none⟩ = some (.int .u8 T2) :=
  ⟨(Below.refl _ _).drew, h2, h3, h5, h6, h7, h8, h9, h10⟩

set_option maxHeartbeats 1600000 in
theorem pass_any (w0 : World) (d : Kd) (w : World) (h : LkF F w0 d w) (i : Nat) (hi : i < d.n) (hn : d.n ≤ 4096) (hm : d.hid.length ≤ 4096) (oa : W.SpOk (d.A i).p) (ob : W.SpOk d.b.p) (g off : Nat) (z : W.Oz) (hz : OzAt g off z w0) :
    Calls Tryd.prog 70 #[.pointer (some ⟨d.kb, 0, none⟩), .pointer (some ⟨d.ab, i * 3, none⟩), .pointer (some ⟨g, off, none⟩)] w fun e w' => e = .returned (.tuple #[]) ∧ ∃ P, LkF F w0 { d with H := P, hid := (W.pass d.b (d.A i) z d.st).h, G := (W.pass d.b (d.A i) z d.st).g } w' := by
  obtain ⟨x0, x1, x2⟩ := h.act i hi
  have al := h.a.lt
  have k5 := h.k.c 5 (by decide)
  have k6 := h.k.c 6 (by decide)
  have k7 := h.k.c 7 (by decide)
  have kl := h.k.lt
  simp only [Kd.f] at k5 k6 k7
  have hM := fun w => meets_any (d.A i).p d.b.p oa ob w
  have hS := fun w' (hb : Below w.heap.size w w') => sees_any w0 d w' (h.below hb) i hi hm oa ob
  have hN := fun w' (d' : Kd) (k : LkF F w0 d' w') (hd : d'.n ≤ 4096) s l (hl : Li s l w0) => note_any w0 d' w' k hd 12 (by decide) s l (hl.below k.bl) (hl.old k.ng)
  have hH := fun w' (d' : Kd) (k : LkF F w0 d' w') (hd : d'.hid.length ≤ 4096) => hide_any w0 d' w' k (d.A i).p oa hd
  have HK : Hid (LkF F w0 d w ∧ OzAt g off z w0) := ⟨h, hz⟩
  unfold spV at hM hH
  unfold W.pass W.a8 Kd.st
  dsimp only
  obtain ⟨kb, ab, pb, rb, hb, n, l, A, PP, R, G, ⟨⟨F2, Z2⟩, T2⟩, k, H, hid⟩ := d
  dsimp only at *
  generalize hX : A i = X at *
  obtain ⟨⟨F, Z⟩, T⟩ := X
  dsimp only at *
  generalize W.meets ⟨F, Z⟩ ⟨F2, Z2⟩ = M at *
  generalize hSS : W.sees hid ⟨F, Z⟩ ⟨F2, Z2⟩ = S at *
  have HM : Hid _ := hM
  have hX' : Hid _ := hX
  have HH : Hid (_ ∧ _ ∧ _) := ⟨hS, hN, hH⟩
  clear hM hS hN hH h oa ob hz hX
  cases q2 : (bits BinOp.and IntKind.u8 T 2 == 0)
  · cases q1 : (bits BinOp.and IntKind.u8 T2 1 == 0)
    · cases M
      · skip
        go_enter Tryd.func70, Tryd.ntmps70
        go_wp2
        refine wp_region_quiet (C := fun w' => Below w.heap.size w w' ∧ ab < w'.heap.size ∧ kb < w'.heap.size ∧ w'.cell? ⟨ab, i * 3, none⟩ = some (.int .u32 F) ∧ w'.cell? ⟨ab, i * 3 + 1, none⟩ = some (.int .u64 Z) ∧ w'.cell? ⟨ab, i * 3 + 2, none⟩ = some (.int .u8 T) ∧ w'.cell? ⟨kb, 5, none⟩ = some (.int .u32 F2) ∧ w'.cell? ⟨kb, 6, none⟩ = some (.int .u64 Z2) ∧ w'.cell? ⟨kb, 7, none⟩ = some (.int .u8 T2)) (by kernel_rfl) (by kernel_rfl) (xb_drew al kl x0 x1 x2 k5 k6 k7) ?_
        clear x0 x1 x2 k5 k6 k7
        simp only [List.toList_toArray]
        repeat (first
          | go_big_quiet_skip
          | (go_big_quiet_want; go_big_quiet_op; go_big_quiet_on)
          | (go_big_quiet_want
             apply Exists.intro
             refine ⟨fun wq hw => ?_, ?_⟩
             · (try dsimp only at hw)
               go_simp
               first
                 | rfl
                 | (go_at_call 68; refine (HM.out _).mono ?_; rintro e w5 ⟨rfl, hm⟩; exact ⟨rfl, xb_below hw hm⟩)
             (try simp only [Act.put, List.setIfInBounds_toArray, List.set_cons_zero, List.set_cons_succ])
             go_big_quiet_on))
        refine wpQuiet_nil ?_
        intro w9 hS9
        go_wp2
        refine bodyPost_ret (v := .tuple #[]) (by simp [results, Tryd.results70, go_sem]) rfl ⟨rfl, H, HK.out.1.below hS9.1⟩
      · skip
        go_enter Tryd.func70, Tryd.ntmps70
        go_wp2
        refine wp_region_quiet (C := fun w' => Below w.heap.size w w' ∧ ab < w'.heap.size ∧ kb < w'.heap.size ∧ w'.cell? ⟨ab, i * 3, none⟩ = some (.int .u32 F) ∧ w'.cell? ⟨ab, i * 3 + 1, none⟩ = some (.int .u64 Z) ∧ w'.cell? ⟨ab, i * 3 + 2, none⟩ = some (.int .u8 T) ∧ w'.cell? ⟨kb, 5, none⟩ = some (.int .u32 F2) ∧ w'.cell? ⟨kb, 6, none⟩ = some (.int .u64 Z2) ∧ w'.cell? ⟨kb, 7, none⟩ = some (.int .u8 T2)) (by kernel_rfl) (by kernel_rfl) (xb_drew al kl x0 x1 x2 k5 k6 k7) ?_
        clear x0 x1 x2 k5 k6 k7
        simp only [List.toList_toArray]
        repeat (first
          | go_big_quiet_skip
          | (go_big_quiet_want; go_big_quiet_op; go_big_quiet_on)
          | (go_big_quiet_want
             apply Exists.intro
             refine ⟨fun wq hw => ?_, ?_⟩
             · (try dsimp only at hw)
               go_simp
               first
                 | rfl
                 | (go_at_call 68; refine (HM.out _).mono ?_; rintro e w5 ⟨rfl, hm⟩; exact ⟨rfl, xb_below hw hm⟩)
             (try simp only [Act.put, List.setIfInBounds_toArray, List.set_cons_zero, List.set_cons_succ])
             go_big_quiet_on))
        refine wpQuiet_nil ?_
        intro w9 hS9
        obtain ⟨B9, al9, kl9, y0, y1, _, _, _, _⟩ := hS9
        have HKO := HK.out.2
        obtain ⟨oo, _, _, ⟨s1, a1, a2⟩, ⟨s2, e1, e2⟩, _⟩ := HKO
        have gl := oo.lt
        have nk := HK.out.1.nk
        cases S
        · go_wp2_with (fail)
          refine (HH.out.1 _ B9).mono ?_
          rintro e w10 ⟨rfl, b10⟩
          have B10 := B9.trans (b10.mono B9.size)
          have L10 := HK.out.1.below B10
          have y0' := (b10.cell (p := ⟨ab, i * 3, none⟩) al9).trans y0
          have y1' := (b10.cell (p := ⟨ab, i * 3 + 1, none⟩) al9).trans y1
          have al10 : ab < w10.heap.size := Nat.lt_of_lt_of_le al9 b10.size
          have HL10 : Hid _ := L10
          clear L10 y0 y1 b10 a1 a2 e1 e2
          go_wp2_with (fail)
          refine (HH.out.2.2 _ _ HL10.out hm).mono ?_
          rintro e w11 ⟨rfl, P11, L11⟩
          have HL11 : Hid _ := L11
          clear L11 y0' y1'
          go_wp2
          go_end0
          exact ⟨rfl, P11, HL11.out⟩
        · go_wp2_with (fail)
          refine (HH.out.1 _ B9).mono ?_
          rintro e w10 ⟨rfl, b10⟩
          have B10 := B9.trans (b10.mono B9.size)
          have L10 := HK.out.1.below B10
          have c10 := (L10.bl.cell (p := ⟨g, off + 10, none⟩) gl).trans a1
          have gl10 : g < w10.heap.size := Nat.lt_of_lt_of_le gl L10.bl.size
          have HL10 : Hid _ := L10
          have HA : Hid _ := And.intro a2 (And.intro e1 e2)
          clear L10 y0 y1 b10 a1 a2 e1 e2
          obtain ⟨s1a, s1n, s1c⟩ := s1
          obtain ⟨s2a, s2n, s2c⟩ := s2
          unfold slV at c10
          dsimp only at c10
          go_wp2_with (fail)
          refine (HH.out.2.1 _ _ HL10.out hn ⟨s1a, s1n, s1c⟩ _ HA.out.1).mono ?_
          rintro e w11 ⟨rfl, L11⟩
          have c11 := (L11.bl.cell (p := ⟨g, off + 11, none⟩) gl).trans HA.out.2.1
          have gl11 : g < w11.heap.size := Nat.lt_of_lt_of_le gl L11.bl.size
          have HL11 : Hid _ := L11
          clear L11 c10 HL10
          unfold slV at c11
          dsimp only at c11
          go_wp2_with (fail)
          refine (HH.out.2.1 _ _ HL11.out hn ⟨s2a, s2n, s2c⟩ _ HA.out.2.2).mono ?_
          rintro e w12 ⟨rfl, L12⟩
          obtain ⟨y0, y1, _⟩ := L12.act i hi
          dsimp only at y0 y1
          rw [hX'.out] at y0 y1
          have al12 := L12.a.lt
          have HL12 : Hid _ := L12
          clear L12 c11 HL11
          dsimp only at y0 y1 al12
          go_wp2_with (fail)
          refine (HH.out.2.2 _ _ HL12.out hm).mono ?_
          rintro e w13 ⟨rfl, P13, L13⟩
          have HL13 : Hid _ := L13
          clear L13 y0 y1
          go_wp2
          go_end0
          exact ⟨rfl, P13, HL13.out⟩
    · skip
      go_enter Tryd.func70, Tryd.ntmps70
      go_wp2
      refine wp_region_quiet (C := fun w' => Below w.heap.size w w' ∧ ab < w'.heap.size ∧ kb < w'.heap.size ∧ w'.cell? ⟨ab, i * 3, none⟩ = some (.int .u32 F) ∧ w'.cell? ⟨ab, i * 3 + 1, none⟩ = some (.int .u64 Z) ∧ w'.cell? ⟨ab, i * 3 + 2, none⟩ = some (.int .u8 T) ∧ w'.cell? ⟨kb, 5, none⟩ = some (.int .u32 F2) ∧ w'.cell? ⟨kb, 6, none⟩ = some (.int .u64 Z2) ∧ w'.cell? ⟨kb, 7, none⟩ = some (.int .u8 T2)) (by kernel_rfl) (by kernel_rfl) (xb_drew al kl x0 x1 x2 k5 k6 k7) ?_
      clear x0 x1 x2 k5 k6 k7
      simp only [List.toList_toArray]
      repeat (first
        | go_big_quiet_skip
        | (go_big_quiet_want; go_big_quiet_op; go_big_quiet_on)
        | (go_big_quiet_want
           apply Exists.intro
           refine ⟨fun wq hw => ?_, ?_⟩
           · (try dsimp only at hw)
             go_simp
             first
               | rfl
               | (go_at_call 68; refine (HM.out _).mono ?_; rintro e w5 ⟨rfl, hm⟩; exact ⟨rfl, xb_below hw hm⟩)
           (try simp only [Act.put, List.setIfInBounds_toArray, List.set_cons_zero, List.set_cons_succ])
           go_big_quiet_on))
      refine wpQuiet_nil ?_
      intro w9 hS9
      go_wp2
      refine bodyPost_ret (v := .tuple #[]) (by simp [results, Tryd.results70, go_sem]) rfl ⟨rfl, H, HK.out.1.below hS9.1⟩
  · skip
    go_enter Tryd.func70, Tryd.ntmps70
    go_wp2
    refine wp_region_quiet (C := fun w' => Below w.heap.size w w' ∧ ab < w'.heap.size ∧ kb < w'.heap.size ∧ w'.cell? ⟨ab, i * 3, none⟩ = some (.int .u32 F) ∧ w'.cell? ⟨ab, i * 3 + 1, none⟩ = some (.int .u64 Z) ∧ w'.cell? ⟨ab, i * 3 + 2, none⟩ = some (.int .u8 T) ∧ w'.cell? ⟨kb, 5, none⟩ = some (.int .u32 F2) ∧ w'.cell? ⟨kb, 6, none⟩ = some (.int .u64 Z2) ∧ w'.cell? ⟨kb, 7, none⟩ = some (.int .u8 T2)) (by kernel_rfl) (by kernel_rfl) (xb_drew al kl x0 x1 x2 k5 k6 k7) ?_
    clear x0 x1 x2 k5 k6 k7
    simp only [List.toList_toArray]
    repeat (first
      | go_big_quiet_skip
      | (go_big_quiet_want; go_big_quiet_op; go_big_quiet_on)
      | (go_big_quiet_want
         apply Exists.intro
         refine ⟨fun wq hw => ?_, ?_⟩
         · (try dsimp only at hw)
           go_simp
           first
             | rfl
             | (go_at_call 68; refine (HM.out _).mono ?_; rintro e w5 ⟨rfl, hm⟩; exact ⟨rfl, xb_below hw hm⟩)
         (try simp only [Act.put, List.setIfInBounds_toArray, List.set_cons_zero, List.set_cons_succ])
         go_big_quiet_on))
    refine wpQuiet_nil ?_
    intro w9 hS9
    go_wp2
    refine bodyPost_ret (v := .tuple #[]) (by simp [results, Tryd.results70, go_sem]) rfl ⟨rfl, H, HK.out.1.below hS9.1⟩
end Go.Proofs.YtibohlbkkaghkaaDoor
