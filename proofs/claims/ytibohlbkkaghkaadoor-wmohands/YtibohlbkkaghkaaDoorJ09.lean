/- Texts in one: PpoL. -/
import Derived.Test.YtibohlbkkaghkaaDoorJ08
/- whyMeeting, why. -/
namespace Go.Proofs.YtibohlbkkaghkaaDoor
open Go.ChangeShapes Go.WideShapes Go.ChangeAt Go.RowKit
set_option linter.unusedVariables false
set_option linter.unusedSimpArgs false
variable {F : Nat → Option Obj}

/-- Four cells, over a call. -/
theorem four_below {w w1 w2 : World} {ab kb i : Nat} {F Z F2 Z2 : Int} (h : Below w.heap.size w w1 ∧ ab < w1.heap.size ∧ kb < w1.heap.size ∧ w1.cell? ⟨ab, i * 3, none⟩ = some (.int .u32 F) ∧ w1.cell? ⟨ab, i * 3 + 1, none⟩ = some (.int .u64 Z) ∧ w1.cell? ⟨kb, 5, none⟩ = some (.int .u32 F2) ∧ w1.cell? ⟨kb, 6, none⟩ = some (.int .u64 Z2)) (hb : Below w1.heap.size w1 w2) : Below w.heap.size w w2 ∧ ab < w2.heap.size ∧ kb < w2.heap.size ∧ w2.cell? ⟨ab, i * 3, none⟩ = some (.int .u32 F) ∧ w2.cell? ⟨ab, i * 3 + 1, none⟩ = some (.int .u64 Z) ∧ w2.cell? ⟨kb, 5, none⟩ = some (.int .u32 F2) ∧ w2.cell? ⟨kb, 6, none⟩ = some (.int .u64 Z2) := by
  obtain ⟨h1, h2, h3, h5, h6, h7, h8⟩ := h
  obtain ⟨q, _⟩ := bcell hb
  have z := hb.size
  exact ⟨h1.trans (hb.mono h1.size), by omega, by omega, (q _ _ h2).trans h5, (q _ _ h2).trans h6, (q _ _ h3).trans h7, (q _ _ h3).trans h8⟩
theorem four_drew {w : World} {ab kb i : Nat} {F Z F2 Z2 : Int} (h2 : ab < w.heap.size) (h3 : kb < w.heap.size) (h5 : w.cell? ⟨ab, i * 3, none⟩ = some (.int .u32 F)) (h6 : w.cell? ⟨ab, i * 3 + 1, none⟩ = some (.int .u64 Z)) (h7 : w.cell? ⟨kb, 5, none⟩ = some (.int .u32 F2)) (h8 : w.cell? ⟨kb, 6, none⟩ = some (.int .u64 Z2)) : Below w.heap.size w w.drew ∧ ab < w.drew.heap.size ∧ kb < w.drew.heap.size ∧ w.drew.cell? ⟨ab, i * 3, none⟩ = some (.int .u32 F) ∧ w.drew.cell? ⟨ab, i * 3 + 1, none⟩ = some (.int .u64 Z) ∧ w.drew.cell? ⟨kb, 5, none⟩ = some (.int .u32 F2) ∧ w.drew.cell? ⟨kb, 6, none⟩ = some (.int .u64 Z2) :=
  ⟨(Below.refl _ _).drew, h2, h3, h5, h6, h7, h8⟩
set_option maxHeartbeats 1600000 in
theorem whyMeeting_any (w0 : World) (d : Kd) (w : World) (h : LkF F w0 d w) (i : Nat) (hi : i < d.n) (hm : d.hid.length ≤ 4096) (oa : W.SpOk (d.A i).p) (ob : W.SpOk d.b.p) :
    Calls Tryd.prog 75 #[.pointer (some ⟨d.kb, 0, none⟩), .pointer (some ⟨d.ab, i * 3, none⟩)] w fun e w' => e = .returned (.int .u8 (W.whyM d.hid d.b (d.A i))) ∧ Below w.heap.size w w' := by
  obtain ⟨x0, x1, x2⟩ := h.act i hi
  have al := h.a.lt
  have k5 := h.k.c 5 (by decide)
  have k6 := h.k.c 6 (by decide)
  have k7 := h.k.c 7 (by decide)
  have kl := h.k.lt
  simp only [Kd.f] at k5 k6 k7
  have hM := fun w => meets_any (d.A i).p d.b.p oa ob w
  have hS := fun w' (hb : Below w.heap.size w w') => sees_any w0 d w' (h.below hb) i hi hm oa ob
  unfold spV at hM
  unfold W.whyM W.a8
  generalize d.A i = X at *
  generalize d.b = B at *
  generalize d.kb = kb at *
  generalize d.ab = ab at *
  obtain ⟨⟨F, Z⟩, T⟩ := X
  obtain ⟨⟨F2, Z2⟩, T2⟩ := B
  dsimp only at *
  generalize W.meets ⟨F, Z⟩ ⟨F2, Z2⟩ = M at *
  generalize W.sees d.hid ⟨F, Z⟩ ⟨F2, Z2⟩ = S at *
  have HH : Hid (_ ∧ _) := ⟨hM, hS⟩
  clear hM hS h oa ob
  cases M
  · skip
    go_enter Tryd.func75, Tryd.ntmps75
    go_wp2
    refine wp_region_quiet (C := fun w' => Below w.heap.size w w' ∧ ab < w'.heap.size ∧ kb < w'.heap.size ∧ w'.cell? ⟨ab, i * 3, none⟩ = some (.int .u32 F) ∧ w'.cell? ⟨ab, i * 3 + 1, none⟩ = some (.int .u64 Z) ∧ w'.cell? ⟨kb, 5, none⟩ = some (.int .u32 F2) ∧ w'.cell? ⟨kb, 6, none⟩ = some (.int .u64 Z2)) (by kernel_rfl) (by kernel_rfl) (four_drew al kl x0 x1 k5 k6) ?_
    clear x0 x1 k5 k6
    simp only [List.toList_toArray]
    repeat (first
      | go_big_quiet_skip
      | (go_big_quiet_want; go_big_quiet_op; go_big_quiet_on)
      | (go_big_quiet_want
         apply Exists.intro
         refine ⟨fun wq hw => ?_, ?_⟩
         · (try dsimp only at hw)
           go_simp
           first
             | rfl
             | (go_at_call 68; refine (HH.out.1 _).mono ?_; rintro e w5 ⟨rfl, hm⟩; exact ⟨rfl, four_below hw hm⟩)
         (try simp only [Act.put, List.setIfInBounds_toArray, List.set_cons_zero, List.set_cons_succ])
         go_big_quiet_on))
    refine wpQuiet_nil ?_
    intro w9 hS9
    obtain ⟨B9, al9, kl9, _, _, _, _⟩ := hS9
    have x2' := (B9.cell (p := ⟨ab, i * 3 + 2, none⟩) al).trans x2
    have k7' := (B9.cell (p := ⟨kb, 7, none⟩) kl).trans k7
    clear x2 k7
    go_wp2
    go_ret
    exact ⟨rfl, B9⟩
  · cases q2 : (bits BinOp.and IntKind.u8 T2 2 != 0)
    · cases q1 : (bits BinOp.and IntKind.u8 T2 1 == 0)
      · cases p1 : (bits BinOp.and IntKind.u8 T 1 != 0)
        · cases p16 : (bits BinOp.and IntKind.u8 T 16 != 0)
          · skip
            go_enter Tryd.func75, Tryd.ntmps75
            go_wp2
            refine wp_region_quiet (C := fun w' => Below w.heap.size w w' ∧ ab < w'.heap.size ∧ kb < w'.heap.size ∧ w'.cell? ⟨ab, i * 3, none⟩ = some (.int .u32 F) ∧ w'.cell? ⟨ab, i * 3 + 1, none⟩ = some (.int .u64 Z) ∧ w'.cell? ⟨kb, 5, none⟩ = some (.int .u32 F2) ∧ w'.cell? ⟨kb, 6, none⟩ = some (.int .u64 Z2)) (by kernel_rfl) (by kernel_rfl) (four_drew al kl x0 x1 k5 k6) ?_
            clear x0 x1 k5 k6
            simp only [List.toList_toArray]
            repeat (first
              | go_big_quiet_skip
              | (go_big_quiet_want; go_big_quiet_op; go_big_quiet_on)
              | (go_big_quiet_want
                 apply Exists.intro
                 refine ⟨fun wq hw => ?_, ?_⟩
                 · (try dsimp only at hw)
                   go_simp
                   first
                     | rfl
                     | (go_at_call 68; refine (HH.out.1 _).mono ?_; rintro e w5 ⟨rfl, hm⟩; exact ⟨rfl, four_below hw hm⟩)
                 (try simp only [Act.put, List.setIfInBounds_toArray, List.set_cons_zero, List.set_cons_succ])
                 go_big_quiet_on))
            refine wpQuiet_nil ?_
            intro w9 hS9
            obtain ⟨B9, al9, kl9, _, _, _, _⟩ := hS9
            have x2' := (B9.cell (p := ⟨ab, i * 3 + 2, none⟩) al).trans x2
            have k7' := (B9.cell (p := ⟨kb, 7, none⟩) kl).trans k7
            clear x2 k7
            go_wp2
            go_ret
            exact ⟨rfl, B9⟩
          · skip
            go_enter Tryd.func75, Tryd.ntmps75
            go_wp2
            refine wp_region_quiet (C := fun w' => Below w.heap.size w w' ∧ ab < w'.heap.size ∧ kb < w'.heap.size ∧ w'.cell? ⟨ab, i * 3, none⟩ = some (.int .u32 F) ∧ w'.cell? ⟨ab, i * 3 + 1, none⟩ = some (.int .u64 Z) ∧ w'.cell? ⟨kb, 5, none⟩ = some (.int .u32 F2) ∧ w'.cell? ⟨kb, 6, none⟩ = some (.int .u64 Z2)) (by kernel_rfl) (by kernel_rfl) (four_drew al kl x0 x1 k5 k6) ?_
            clear x0 x1 k5 k6
            simp only [List.toList_toArray]
            repeat (first
              | go_big_quiet_skip
              | (go_big_quiet_want; go_big_quiet_op; go_big_quiet_on)
              | (go_big_quiet_want
                 apply Exists.intro
                 refine ⟨fun wq hw => ?_, ?_⟩
                 · (try dsimp only at hw)
                   go_simp
                   first
                     | rfl
                     | (go_at_call 68; refine (HH.out.1 _).mono ?_; rintro e w5 ⟨rfl, hm⟩; exact ⟨rfl, four_below hw hm⟩)
                 (try simp only [Act.put, List.setIfInBounds_toArray, List.set_cons_zero, List.set_cons_succ])
                 go_big_quiet_on))
            refine wpQuiet_nil ?_
            intro w9 hS9
            obtain ⟨B9, al9, kl9, _, _, _, _⟩ := hS9
            have x2' := (B9.cell (p := ⟨ab, i * 3 + 2, none⟩) al).trans x2
            have k7' := (B9.cell (p := ⟨kb, 7, none⟩) kl).trans k7
            clear x2 k7
            go_wp2
            go_ret
            exact ⟨rfl, B9⟩
        · cases S
          · cases p16 : (bits BinOp.and IntKind.u8 T 16 != 0)
            · skip
              go_enter Tryd.func75, Tryd.ntmps75
              go_wp2
              refine wp_region_quiet (C := fun w' => Below w.heap.size w w' ∧ ab < w'.heap.size ∧ kb < w'.heap.size ∧ w'.cell? ⟨ab, i * 3, none⟩ = some (.int .u32 F) ∧ w'.cell? ⟨ab, i * 3 + 1, none⟩ = some (.int .u64 Z) ∧ w'.cell? ⟨kb, 5, none⟩ = some (.int .u32 F2) ∧ w'.cell? ⟨kb, 6, none⟩ = some (.int .u64 Z2)) (by kernel_rfl) (by kernel_rfl) (four_drew al kl x0 x1 k5 k6) ?_
              clear x0 x1 k5 k6
              simp only [List.toList_toArray]
              repeat (first
                | go_big_quiet_skip
                | (go_big_quiet_want; go_big_quiet_op; go_big_quiet_on)
                | (go_big_quiet_want
                   apply Exists.intro
                   refine ⟨fun wq hw => ?_, ?_⟩
                   · (try dsimp only at hw)
                     go_simp
                     first
                       | rfl
                       | (go_at_call 68; refine (HH.out.1 _).mono ?_; rintro e w5 ⟨rfl, hm⟩; exact ⟨rfl, four_below hw hm⟩)
                   (try simp only [Act.put, List.setIfInBounds_toArray, List.set_cons_zero, List.set_cons_succ])
                   go_big_quiet_on))
              refine wpQuiet_nil ?_
              intro w9 hS9
              obtain ⟨B9, al9, kl9, _, _, _, _⟩ := hS9
              have x2' := (B9.cell (p := ⟨ab, i * 3 + 2, none⟩) al).trans x2
              have k7' := (B9.cell (p := ⟨kb, 7, none⟩) kl).trans k7
              clear x2 k7
              go_wp2_with (fail)
              refine (HH.out.2 _ B9).mono ?_
              rintro e w6 ⟨rfl, b6⟩
              have x3 := (b6.cell (p := ⟨ab, i * 3 + 2, none⟩) al9).trans x2'
              have al6 : ab < w6.heap.size := Nat.lt_of_lt_of_le al9 b6.size
              clear x2' k7'
              go_wp2
              go_ret
              exact ⟨rfl, B9.trans (b6.mono B9.size)⟩
            · skip
              go_enter Tryd.func75, Tryd.ntmps75
              go_wp2
              refine wp_region_quiet (C := fun w' => Below w.heap.size w w' ∧ ab < w'.heap.size ∧ kb < w'.heap.size ∧ w'.cell? ⟨ab, i * 3, none⟩ = some (.int .u32 F) ∧ w'.cell? ⟨ab, i * 3 + 1, none⟩ = some (.int .u64 Z) ∧ w'.cell? ⟨kb, 5, none⟩ = some (.int .u32 F2) ∧ w'.cell? ⟨kb, 6, none⟩ = some (.int .u64 Z2)) (by kernel_rfl) (by kernel_rfl) (four_drew al kl x0 x1 k5 k6) ?_
              clear x0 x1 k5 k6
              simp only [List.toList_toArray]
              repeat (first
                | go_big_quiet_skip
                | (go_big_quiet_want; go_big_quiet_op; go_big_quiet_on)
                | (go_big_quiet_want
                   apply Exists.intro
                   refine ⟨fun wq hw => ?_, ?_⟩
                   · (try dsimp only at hw)
                     go_simp
                     first
                       | rfl
                       | (go_at_call 68; refine (HH.out.1 _).mono ?_; rintro e w5 ⟨rfl, hm⟩; exact ⟨rfl, four_below hw hm⟩)
                   (try simp only [Act.put, List.setIfInBounds_toArray, List.set_cons_zero, List.set_cons_succ])
                   go_big_quiet_on))
              refine wpQuiet_nil ?_
              intro w9 hS9
              obtain ⟨B9, al9, kl9, _, _, _, _⟩ := hS9
              have x2' := (B9.cell (p := ⟨ab, i * 3 + 2, none⟩) al).trans x2
              have k7' := (B9.cell (p := ⟨kb, 7, none⟩) kl).trans k7
              clear x2 k7
              go_wp2_with (fail)
              refine (HH.out.2 _ B9).mono ?_
              rintro e w6 ⟨rfl, b6⟩
              have x3 := (b6.cell (p := ⟨ab, i * 3 + 2, none⟩) al9).trans x2'
              have al6 : ab < w6.heap.size := Nat.lt_of_lt_of_le al9 b6.size
              clear x2' k7'
              go_wp2
              go_ret
              exact ⟨rfl, B9.trans (b6.mono B9.size)⟩
          · skip
            go_enter Tryd.func75, Tryd.ntmps75
            go_wp2
            refine wp_region_quiet (C := fun w' => Below w.heap.size w w' ∧ ab < w'.heap.size ∧ kb < w'.heap.size ∧ w'.cell? ⟨ab, i * 3, none⟩ = some (.int .u32 F) ∧ w'.cell? ⟨ab, i * 3 + 1, none⟩ = some (.int .u64 Z) ∧ w'.cell? ⟨kb, 5, none⟩ = some (.int .u32 F2) ∧ w'.cell? ⟨kb, 6, none⟩ = some (.int .u64 Z2)) (by kernel_rfl) (by kernel_rfl) (four_drew al kl x0 x1 k5 k6) ?_
            clear x0 x1 k5 k6
            simp only [List.toList_toArray]
            repeat (first
              | go_big_quiet_skip
              | (go_big_quiet_want; go_big_quiet_op; go_big_quiet_on)
              | (go_big_quiet_want
                 apply Exists.intro
                 refine ⟨fun wq hw => ?_, ?_⟩
                 · (try dsimp only at hw)
                   go_simp
                   first
                     | rfl
                     | (go_at_call 68; refine (HH.out.1 _).mono ?_; rintro e w5 ⟨rfl, hm⟩; exact ⟨rfl, four_below hw hm⟩)
                 (try simp only [Act.put, List.setIfInBounds_toArray, List.set_cons_zero, List.set_cons_succ])
                 go_big_quiet_on))
            refine wpQuiet_nil ?_
            intro w9 hS9
            obtain ⟨B9, al9, kl9, _, _, _, _⟩ := hS9
            have x2' := (B9.cell (p := ⟨ab, i * 3 + 2, none⟩) al).trans x2
            have k7' := (B9.cell (p := ⟨kb, 7, none⟩) kl).trans k7
            clear x2 k7
            go_wp2_with (fail)
            refine (HH.out.2 _ B9).mono ?_
            rintro e w6 ⟨rfl, b6⟩
            have x3 := (b6.cell (p := ⟨ab, i * 3 + 2, none⟩) al9).trans x2'
            have al6 : ab < w6.heap.size := Nat.lt_of_lt_of_le al9 b6.size
            clear x2' k7'
            go_wp2
            go_ret
            exact ⟨rfl, B9.trans (b6.mono B9.size)⟩
      · skip
        go_enter Tryd.func75, Tryd.ntmps75
        go_wp2
        refine wp_region_quiet (C := fun w' => Below w.heap.size w w' ∧ ab < w'.heap.size ∧ kb < w'.heap.size ∧ w'.cell? ⟨ab, i * 3, none⟩ = some (.int .u32 F) ∧ w'.cell? ⟨ab, i * 3 + 1, none⟩ = some (.int .u64 Z) ∧ w'.cell? ⟨kb, 5, none⟩ = some (.int .u32 F2) ∧ w'.cell? ⟨kb, 6, none⟩ = some (.int .u64 Z2)) (by kernel_rfl) (by kernel_rfl) (four_drew al kl x0 x1 k5 k6) ?_
        clear x0 x1 k5 k6
        simp only [List.toList_toArray]
        repeat (first
          | go_big_quiet_skip
          | (go_big_quiet_want; go_big_quiet_op; go_big_quiet_on)
          | (go_big_quiet_want
             apply Exists.intro
             refine ⟨fun wq hw => ?_, ?_⟩
             · (try dsimp only at hw)
               go_simp
               first
                 | rfl
                 | (go_at_call 68; refine (HH.out.1 _).mono ?_; rintro e w5 ⟨rfl, hm⟩; exact ⟨rfl, four_below hw hm⟩)
             (try simp only [Act.put, List.setIfInBounds_toArray, List.set_cons_zero, List.set_cons_succ])
             go_big_quiet_on))
        refine wpQuiet_nil ?_
        intro w9 hS9
        obtain ⟨B9, al9, kl9, _, _, _, _⟩ := hS9
        have x2' := (B9.cell (p := ⟨ab, i * 3 + 2, none⟩) al).trans x2
        have k7' := (B9.cell (p := ⟨kb, 7, none⟩) kl).trans k7
        clear x2 k7
        go_wp2
        go_ret
        exact ⟨rfl, B9⟩
    · skip
      go_enter Tryd.func75, Tryd.ntmps75
      go_wp2
      refine wp_region_quiet (C := fun w' => Below w.heap.size w w' ∧ ab < w'.heap.size ∧ kb < w'.heap.size ∧ w'.cell? ⟨ab, i * 3, none⟩ = some (.int .u32 F) ∧ w'.cell? ⟨ab, i * 3 + 1, none⟩ = some (.int .u64 Z) ∧ w'.cell? ⟨kb, 5, none⟩ = some (.int .u32 F2) ∧ w'.cell? ⟨kb, 6, none⟩ = some (.int .u64 Z2)) (by kernel_rfl) (by kernel_rfl) (four_drew al kl x0 x1 k5 k6) ?_
      clear x0 x1 k5 k6
      simp only [List.toList_toArray]
      repeat (first
        | go_big_quiet_skip
        | (go_big_quiet_want; go_big_quiet_op; go_big_quiet_on)
        | (go_big_quiet_want
           apply Exists.intro
           refine ⟨fun wq hw => ?_, ?_⟩
           · (try dsimp only at hw)
             go_simp
             first
               | rfl
               | (go_at_call 68; refine (HH.out.1 _).mono ?_; rintro e w5 ⟨rfl, hm⟩; exact ⟨rfl, four_below hw hm⟩)
           (try simp only [Act.put, List.setIfInBounds_toArray, List.set_cons_zero, List.set_cons_succ])
           go_big_quiet_on))
      refine wpQuiet_nil ?_
      intro w9 hS9
      obtain ⟨B9, al9, kl9, _, _, _, _⟩ := hS9
      have x2' := (B9.cell (p := ⟨ab, i * 3 + 2, none⟩) al).trans x2
      have k7' := (B9.cell (p := ⟨kb, 7, none⟩) kl).trans k7
      clear x2 k7
      go_wp2
      go_ret
      exact ⟨rfl, B9⟩
set_option maxHeartbeats 1600000 in
theorem why_any (w0 : World) (d : Kd) (w : World) (h : LkF F w0 d w) (i : Nat) (hi : i < d.n) (hm : d.hid.length ≤ 4096) (oa : W.SpOk (d.A i).p) (ob : W.SpOk d.b.p) (hg : Int) :
    Calls Tryd.prog 69 #[.pointer (some ⟨d.kb, 0, none⟩), .pointer (some ⟨d.ab, i * 3, none⟩), .int .u8 hg] w fun e w' => e = .returned (.int .u8 (W.why d.st d.b (d.A i) hg)) ∧ Below w.heap.size w w' := by
  obtain ⟨x0, x1, x2⟩ := h.act i hi
  have al := h.a.lt
  have k8 := h.k.c 8 (by decide)
  have kl := h.k.lt
  simp only [Kd.f] at k8
  have hW := whyMeeting_any w0 d w h i hi hm oa ob
  unfold W.why W.whyK Kd.st
  dsimp only
  generalize W.whyM d.hid d.b (d.A i) = M at *
  unfold W.a8
  generalize (d.A i).t = T at *
  generalize d.k = K at *
  generalize d.kb = kb at *
  generalize d.ab = ab at *
  have HH : Hid (Calls _ _ _ _ _) := hW
  clear hW h oa ob x0 x1
  cases q0 : (M != 0)
  case' false => cases q1 : (bits BinOp.and IntKind.u8 (bits BinOp.and IntKind.u8 T K) 3 != 0)
  case' false.false => cases q2 : (bits BinOp.and IntKind.u8 (bits BinOp.and IntKind.u8 T K) 32 != 0)
  case' false.false.false => cases q3 : (bits BinOp.and IntKind.u8 (bits BinOp.and IntKind.u8 T K) 8 != 0)
  case' false.false.false.false => cases q4 : (bits BinOp.and IntKind.u8 (bits BinOp.and IntKind.u8 T K) 64 != 0)
  case' false.false.false.false.false => cases q5 : (hg != 0)
  case' false.false.false.false.false.false => cases q6 : (bits BinOp.and IntKind.u8 (bits BinOp.and IntKind.u8 T K) 128 != 0)
  all_goals
    go_enter Tryd.func69, Tryd.ntmps69
    go_wp2_with (fail)
    refine HH.out.mono ?_
    rintro e w1 ⟨rfl, b1⟩
    obtain ⟨q, _⟩ := bcell b1
    have y2 := (q _ _ al).trans x2
    have y8 := (q _ _ kl).trans k8
    have al1 : ab < w1.heap.size := Nat.lt_of_lt_of_le al b1.size
    have kl1 : kb < w1.heap.size := Nat.lt_of_lt_of_le kl b1.size
    clear q x2 k8
    go_wp2
    first
    | (go_ret
       exact ⟨rfl, b1⟩)
    | (go_region
       go_wp2
       go_ret
       exact ⟨rfl, b1.drew⟩)
end Go.Proofs.YtibohlbkkaghkaaDoor
