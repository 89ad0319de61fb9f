/- HomeShares: the walk, its first loop. -/
import Derived.Test.YthkielaicnmaeaaHomS
import Derived.Test.YthkielaicnmaeaaHomPutsWalk
import Derived.Test.YthkielaicnmaeaaHomSharesL
import Derived.Deep.CutRange
namespace Go.Proofs.Ythkielaicnmaeaa
open Go.ChangeShapes Go.WideShapes Go.ChangeAt Go.RowKit
set_option linter.unusedVariables false
set_option linter.unusedSimpArgs false
attribute [local go_sem ↓] ldM_eq stM_eq bdM_eq bsM_eq
variable {n0 hb : Nat} {s s' : W.Hm} {sv av sv' av' sv'' av'' : Value} {w w' w'' : World}
theorem bdM_back (x0 x1 x2 x3 : Int) (w : World) : (bdM #[(0, .int .i64 11), (2, .int .i64 0), (3, .int .i64 (-1)), (5, .bool true), (4, .agg #[.int .u32 x0, .int .u32 x1, .int .u32 x2, .int .u32 x3])]).run Try.prog w = .ok (mgV ⟨11, 0, 0, -1, x0, x1, x2, x3, true, false, false⟩) w := by kernel_rfl

set_option maxRecDepth 10000 in
set_option maxHeartbeats 3200000 in
theorem shares_any (mask wr0 x0 x1 x2 x3 : Int) (m0 : -9223372036854775808 ≤ mask) (m1 : mask ≤ 9223372036854775807) (r0 : -9223372036854775808 ≤ wr0) (r1 : wr0 ≤ 9223372036854775807) (w : World) :
    Calls Try.prog 6 #[.int .i64 mask, .int .i64 wr0, .agg #[.int .u32 x0, .int .u32 x1, .int .u32 x2, .int .u32 x3]] w fun e w' => e = .returned (.bool true) ∧ Below w.heap.size w w' := by
  have hb1 := below_alloc w (.cells #[.int .u32 x0, .int .u32 x1, .int .u32 x2, .int .u32 x3] 24)
  have la := lnAt_new w x0 x1 x2 x3
  have HB : Hid (_ ∧ _) := ⟨la, hb1⟩
  clear hb1 la
  go_enter Try.func6, Try.ntmps6
  go_wp2_with (fail)
  generalize World.alloc w _ = W1 at *
  refine (first18_any W1).mono ?_
  rintro e w1 ⟨rfl, hb1⟩
  have HB1 : Hid (LnAt w.heap.size x0 x1 x2 x3 w1 ∧ Below w.heap.size w w1) := ⟨HB.out.1.below hb1, HB.out.2.trans (hb1.mono HB.out.2.size)⟩
  clear hb1 HB
  have q0 := HB1.out.1.c0
  have q1 := HB1.out.1.c1
  have q2 := HB1.out.1.c2
  have q3 := HB1.out.1.c3
  go_wp2_with (fail)
  refine (new_any 0 4 x0 x1 x2 x3 w1).mono ?_
  rintro e w2 ⟨rfl, hH, hb⟩
  have HH0 : Hid (_) := Hq.new 0 4 x0 x1 x2 x3 w1 w2 (by decide) (by decide) hH hb
  clear hH hb q0 q1 q2 q3
  generalize w1.heap.size + 1 = hb at *
  go_wp2_with (fail)
  rw [and3i]
  obtain ⟨M, hM, eM⟩ := odd_mask mask
  rw [eM]
  clear eM m0 m1
  have v0 : 0 ≤ wr0 % 4 := by omega
  have v1 : wr0 % 4 < 4 := by omega
  obtain ⟨V, hV, eV⟩ : ∃ V : Nat, V < 4 ∧ wr0 % 4 = V := ⟨(wr0 % 4).toNat, by omega, by omega⟩
  rw [eV]
  clear eV v0 v1 r0 r1
  obtain ⟨mk, emk⟩ : ∃ mk : Int, 2 * (M : Int) + 1 = mk := ⟨_, rfl⟩
  rw [emk]
  have HMV : Hid (M < 8 ∧ V < 4 ∧ 2 * (M : Int) + 1 = mk) := ⟨hM, hV, emk⟩
  clear hM hV emk
  go_loopw [9, 10] (fun n i wr => ∃ j : Nat, j ≤ 4 ∧ i = .int .i64 j ∧ n = .int .i64 ((W.slof M j).length : Nat) ∧ Hq w1.heap.size hb (W.St x0 x1 x2 x3 (W.slof M j)) (fun _ => False) w1 wr) (fun n i _ => 4 - (intOf i).toNat)
  case atStart => exact ⟨0, by omega, rfl, rfl, HH0.out⟩
  case round =>
    obtain ⟨j, hj, rfl, rfl, hH⟩ := hrel
    have HH : Hid (_) := hH
    clear hH HH0
    by_cases hlt : j < 4
    · have hjn : (j : Int) < 4 := by omega
      have hj0 : (0 : Int) ≤ j := by omega
      cases hbt : W.sbit M j
      · have HBt : Hid (W.slof M (j + 1) = W.slof M j) := W.slof_3 M j hbt
        have hz : (bits .and .i64 (mk / 2 ^ j) 1 == 0) = true := by rw [← HMV.out.2.2, W.sbit_and M HMV.out.1 j hlt, hbt]; rfl
        clear hbt
        go_wp2_with (fail)
        go_roundw
        case rel => exact ⟨j + 1, by omega, by go_num, by rw [HBt.out], by rw [HBt.out]; exact HH.out⟩
        case measure => simp [intOf]; omega
      · have hz : (bits .and .i64 (mk / 2 ^ j) 1 == 0) = false := by rw [← HMV.out.2.2, W.sbit_and M HMV.out.1 j hlt, hbt]; rfl
        have HJ : Hid (j < 4 ∧ W.sbit M j = true) := ⟨hlt, hbt⟩
        have hn2 := W.slof_2 M j hbt
        have hn4z := W.slof_len M j (by omega)
        clear hbt
        rcases (by omega : (W.slof M j).length = 0 ∨ (W.slof M j).length = 1 ∨ 2 ≤ (W.slof M j).length) with hn | hn | hn
        · obtain rfl := W.slof_1 M HMV.out.1 j HJ.out.1 HJ.out.2 hn
          have HD : Hid (_) := W.st_0d x0 x1 x2 x3 M HMV.out.1
          have HN : Hid ((W.slof M (0 + 1)).length = 1) := (by rw [hn2, hn] : (W.slof M (0 + 1)).length = 1)
          have hz0 : (bits .and .i64 mk 1 == 0) = false := by
            have e : mk / 2 ^ 0 = mk := by simp
            rw [e] at hz
            exact hz
          clear hn hn2 hjn hj0
          have bd := bdM_up0
          have hn : ((W.slof M 0).length : Nat) = 0 := rfl
          rw [hn]
          clear hn
          go_wp2_with (fail)
          refine (HH.out.take (W.up 1 0 0) (by decide)).mono ?_
          rintro e w8 ⟨sl8, rfl, hm, h1, _⟩
          rw [show W.St x0 x1 x2 x3 (W.slof M 0) = W.hm0 0 4 x0 x1 x2 x3 from rfl, W.st_0] at h1 hm
          have HH : Hid (_) := h1.sub (fun b (hp : False) => Or.inl hp)
          clear h1 bd
          obtain ⟨b8, o8, c8, rfl, hc8, hl8, hr8⟩ := ms_1 hm
          have LT8 : Hid (b8 < w8.heap.size ∧ 1 ≤ c8) := ⟨hl8, hc8⟩
          have la := HB1.out.1.low HH.out.b HB1.out.1.lt
          have HK : Hid (∀ w', Below w8.heap.size w8 w' → w'.cell? ⟨b8, o8, none⟩ = some (.int .i64 7) ∧ w'.cell? ⟨b8, o8 + 3, none⟩ = some (.int .i64 0) ∧ w'.cell? ⟨b8, o8 + 10, none⟩ = some (.bool true) ∧ w'.cell? ⟨b8, o8 + 4, none⟩ = some (.int .u32 x0) ∧ w'.cell? ⟨b8, o8 + 5, none⟩ = some (.int .u32 x1) ∧ w'.cell? ⟨b8, o8 + 6, none⟩ = some (.int .u32 x2) ∧ w'.cell? ⟨b8, o8 + 7, none⟩ = some (.int .u32 x3) ∧ w'.cell? ⟨w.heap.size, 0, none⟩ = some (.int .u32 x0) ∧ w'.cell? ⟨w.heap.size, 1, none⟩ = some (.int .u32 x1) ∧ w'.cell? ⟨w.heap.size, 2, none⟩ = some (.int .u32 x2) ∧ w'.cell? ⟨w.heap.size, 3, none⟩ = some (.int .u32 x3)) := fun w' hb => by
            have r := range_below hr8 hb hl8
            have l := la.below hb
            exact ⟨r 0 _ rfl, r 3 _ rfl, r 10 _ rfl, r 4 _ rfl, r 5 _ rfl, r 6 _ rfl, r 7 _ rfl, l.c0, l.c1, l.c2, l.c3⟩
          clear hm hr8 la hl8 hc8
          unfold slV
          dsimp only
          have ej : ((0 : Int) != (0 : Int)) = false := by simp
          have hbd : Below w8.heap.size w8 w8.drew := (Below.refl _ _).drew
          go_wp2_with (fail)
          go_region_held3 (fun w' => w'.cell? ⟨b8, o8, none⟩ = some (.int .i64 7) ∧ w'.cell? ⟨b8, o8 + 3, none⟩ = some (.int .i64 0) ∧ w'.cell? ⟨b8, o8 + 10, none⟩ = some (.bool true) ∧ w'.cell? ⟨b8, o8 + 4, none⟩ = some (.int .u32 x0) ∧ w'.cell? ⟨b8, o8 + 5, none⟩ = some (.int .u32 x1) ∧ w'.cell? ⟨b8, o8 + 6, none⟩ = some (.int .u32 x2) ∧ w'.cell? ⟨b8, o8 + 7, none⟩ = some (.int .u32 x3) ∧ w'.cell? ⟨w.heap.size, 0, none⟩ = some (.int .u32 x0) ∧ w'.cell? ⟨w.heap.size, 1, none⟩ = some (.int .u32 x1) ∧ w'.cell? ⟨w.heap.size, 2, none⟩ = some (.int .u32 x2) ∧ w'.cell? ⟨w.heap.size, 3, none⟩ = some (.int .u32 x3))
            (first
              | exact HK.out _ hbd
              | exact HK.out _ hbA2)
            (first
              | (go_at_call 21; refine (sameline_self x0 x1 x2 x3 _).mono ?_; rintro e wA ⟨rfl, hbA⟩; have hbA2 := hbd.trans hbA))
          all_goals
            have HH9 : Hid (_) := HH.out.below hbA2
            clear hbA2 hbA hbd HK HH
            have bd := bdM_up0
            go_wp2_with (fail)
            refine (HH9.out.take (W.up 12 0 0) (by constructor <;> (dsimp only [W.up]; decide))).mono ?_
            rintro e w10 ⟨sl10, rfl, _, h1, _⟩
            rw [HD.out] at h1
            have HH : Hid (_) := h1.sub (fun b (hp : False) => Or.inl hp)
            clear h1
            go_wp2
            go_roundw
            case rel => exact ⟨0 + 1, by omega, by go_num, by first | (rw [HN.out]; done) | (rw [HN.out]; rfl), HH.out⟩
            case measure => first | (simp [intOf]; done) | (simp [intOf]; omega)
        · have HL : Hid (_ ∧ _) := (W.st_1 x0 x1 x2 x3 M j HMV.out.1 HJ.out.1 HJ.out.2 hn).imp_right And.left
          have HD : Hid (_) := (W.st_1 x0 x1 x2 x3 M j HMV.out.1 HJ.out.1 HJ.out.2 hn).2.2
          have HN : Hid ((W.slof M (j + 1)).length = 2) := (by rw [hn2, hn] : (W.slof M (j + 1)).length = 2)
          rw [hn]
          clear hn hn2
          have bd := bdM_up0
          have bdb := bdM_back
          go_wp2_with (fail)
          refine (HH.out.take (W.up 1 0 j) (by constructor <;> (dsimp only [W.up]; decide))).mono ?_
          rintro e w7 ⟨sl7, rfl, hm, h1, _⟩
          rw [HL.out.1] at h1 hm
          obtain ⟨b7, o7, c7, rfl, hc7, hl7, hr7⟩ := ms_1 hm
          have k0 : w7.cell? ⟨b7, o7, none⟩ = some (.int .i64 5) := hr7 0 _ rfl
          have k3 : w7.cell? ⟨b7, o7 + 3, none⟩ = some (.int .i64 0) := hr7 3 _ rfl
          have HH : Hid (_) := h1.sub (fun b (hp : False) => Or.inl hp)
          have la := HB1.out.1.low HH.out.b HB1.out.1.lt
          have q0 := la.c0
          have q1 := la.c1
          have q2 := la.c2
          have q3 := la.c3
          clear h1 hm hr7 la
          unfold slV
          dsimp only
          go_wp2_with (fail)
          refine (HH.out.take ⟨11, 0, 0, -1, x0, x1, x2, x3, true, false, false⟩ (by constructor <;> (dsimp only; decide))).mono ?_
          rintro e w8 ⟨sl8, rfl, hm, h1, _⟩
          rw [HL.out.2] at h1 hm
          have HH : Hid (_) := h1.sub (fun b (hp : False) => Or.inl hp)
          clear h1 bd bdb k0 k3 q0 q1 q2 q3 hc7 hl7
          obtain ⟨b8, o8, c8, rfl, hc8, hl8, hr8⟩ := ms_1 hm
          have LT8 : Hid (b8 < w8.heap.size ∧ 1 ≤ c8) := ⟨hl8, hc8⟩
          have la := HB1.out.1.low HH.out.b HB1.out.1.lt
          have HK : Hid (∀ w', Below w8.heap.size w8 w' → w'.cell? ⟨b8, o8, none⟩ = some (.int .i64 7) ∧ w'.cell? ⟨b8, o8 + 3, none⟩ = some (.int .i64 (j : Int)) ∧ w'.cell? ⟨b8, o8 + 10, none⟩ = some (.bool false) ∧ w'.cell? ⟨b8, o8 + 4, none⟩ = some (.int .u32 x0) ∧ w'.cell? ⟨b8, o8 + 5, none⟩ = some (.int .u32 x1) ∧ w'.cell? ⟨b8, o8 + 6, none⟩ = some (.int .u32 x2) ∧ w'.cell? ⟨b8, o8 + 7, none⟩ = some (.int .u32 x3) ∧ w'.cell? ⟨w.heap.size, 0, none⟩ = some (.int .u32 x0) ∧ w'.cell? ⟨w.heap.size, 1, none⟩ = some (.int .u32 x1) ∧ w'.cell? ⟨w.heap.size, 2, none⟩ = some (.int .u32 x2) ∧ w'.cell? ⟨w.heap.size, 3, none⟩ = some (.int .u32 x3)) := fun w' hb => by
            have r := range_below hr8 hb hl8
            have l := la.below hb
            exact ⟨r 0 _ rfl, r 3 _ rfl, r 10 _ rfl, r 4 _ rfl, r 5 _ rfl, r 6 _ rfl, r 7 _ rfl, l.c0, l.c1, l.c2, l.c3⟩
          clear hm hr8 la hl8 hc8
          unfold slV
          dsimp only
          have ej : (((j : Int) : Int) != ((j : Int) : Int)) = false := by simp
          have hbd : Below w8.heap.size w8 w8.drew := (Below.refl _ _).drew
          go_wp2_with (fail)
          go_region_held3 (fun w' => w'.cell? ⟨b8, o8, none⟩ = some (.int .i64 7) ∧ w'.cell? ⟨b8, o8 + 3, none⟩ = some (.int .i64 (j : Int)) ∧ w'.cell? ⟨b8, o8 + 10, none⟩ = some (.bool false) ∧ w'.cell? ⟨b8, o8 + 4, none⟩ = some (.int .u32 x0) ∧ w'.cell? ⟨b8, o8 + 5, none⟩ = some (.int .u32 x1) ∧ w'.cell? ⟨b8, o8 + 6, none⟩ = some (.int .u32 x2) ∧ w'.cell? ⟨b8, o8 + 7, none⟩ = some (.int .u32 x3) ∧ w'.cell? ⟨w.heap.size, 0, none⟩ = some (.int .u32 x0) ∧ w'.cell? ⟨w.heap.size, 1, none⟩ = some (.int .u32 x1) ∧ w'.cell? ⟨w.heap.size, 2, none⟩ = some (.int .u32 x2) ∧ w'.cell? ⟨w.heap.size, 3, none⟩ = some (.int .u32 x3))
            (first
              | exact HK.out _ hbd
              | exact HK.out _ hbA2)
            (first
              | (go_at_call 21; refine (sameline_self x0 x1 x2 x3 _).mono ?_; rintro e wA ⟨rfl, hbA⟩; have hbA2 := hbd.trans hbA))
          all_goals
            have HH9 : Hid (_) := HH.out.below hbA2
            clear hbA2 hbA hbd HK HH
            have bd := bdM_up0
            go_wp2_with (fail)
            refine (HH9.out.take (W.up 12 0 (j : Int)) (by constructor <;> (dsimp only [W.up]; decide))).mono ?_
            rintro e w10 ⟨sl10, rfl, _, h1, _⟩
            rw [HD.out] at h1
            have HH : Hid (_) := h1.sub (fun b (hp : False) => Or.inl hp)
            clear h1
            go_wp2
            go_roundw
            case rel => exact ⟨j + 1, by omega, by go_num, by first | (rw [HN.out]; done) | (rw [HN.out]; rfl), HH.out⟩
            case measure => first | (simp [intOf]; done) | (simp [intOf]; omega)
        · have HL : Hid (_) := (W.st_2 x0 x1 x2 x3 M j HMV.out.1 HJ.out.1 HJ.out.2 hn).1
          have HD : Hid (_) := (W.st_2 x0 x1 x2 x3 M j HMV.out.1 HJ.out.1 HJ.out.2 hn).2
          generalize hN : (W.slof M j).length = n at *
          have hn' : (2 : Int) ≤ n := by omega
          have hn4 : n ≤ 4 := hn4z
          have hn4' : (n : Int) ≤ 4 := by omega
          have e0 : ((n : Int) == 0) = false := by simp; omega
          have e1 : ((n : Int) == 1) = false := by simp; omega
          have HN : Hid ((W.slof M (j + 1)).length = n + 1) := hn2
          clear hn hn2 hN
          have bd := bdM_up0
          go_wp2_with (fail)
          refine (HH.out.take (W.up 1 0 j) (by constructor <;> (dsimp only [W.up]; decide))).mono ?_
          rintro e w8 ⟨sl8, rfl, hm, h1, _⟩
          rw [HL.out] at h1 hm
          have HH : Hid (_) := h1.sub (fun b (hp : False) => Or.inl hp)
          clear h1 bd
          obtain ⟨b8, o8, c8, rfl, hc8, hl8, hr8⟩ := ms_1 hm
          have LT8 : Hid (b8 < w8.heap.size ∧ 1 ≤ c8) := ⟨hl8, hc8⟩
          have la := HB1.out.1.low HH.out.b HB1.out.1.lt
          have HK : Hid (∀ w', Below w8.heap.size w8 w' → w'.cell? ⟨b8, o8, none⟩ = some (.int .i64 7) ∧ w'.cell? ⟨b8, o8 + 3, none⟩ = some (.int .i64 (j : Int)) ∧ w'.cell? ⟨b8, o8 + 10, none⟩ = some (.bool false) ∧ w'.cell? ⟨b8, o8 + 4, none⟩ = some (.int .u32 x0) ∧ w'.cell? ⟨b8, o8 + 5, none⟩ = some (.int .u32 x1) ∧ w'.cell? ⟨b8, o8 + 6, none⟩ = some (.int .u32 x2) ∧ w'.cell? ⟨b8, o8 + 7, none⟩ = some (.int .u32 x3) ∧ w'.cell? ⟨w.heap.size, 0, none⟩ = some (.int .u32 x0) ∧ w'.cell? ⟨w.heap.size, 1, none⟩ = some (.int .u32 x1) ∧ w'.cell? ⟨w.heap.size, 2, none⟩ = some (.int .u32 x2) ∧ w'.cell? ⟨w.heap.size, 3, none⟩ = some (.int .u32 x3)) := fun w' hb => by
            have r := range_below hr8 hb hl8
            have l := la.below hb
            exact ⟨r 0 _ rfl, r 3 _ rfl, r 10 _ rfl, r 4 _ rfl, r 5 _ rfl, r 6 _ rfl, r 7 _ rfl, l.c0, l.c1, l.c2, l.c3⟩
          clear hm hr8 la hl8 hc8
          unfold slV
          dsimp only
          have ej : (((j : Int) : Int) != ((j : Int) : Int)) = false := by simp
          have hbd : Below w8.heap.size w8 w8.drew := (Below.refl _ _).drew
          go_wp2_with (fail)
          go_region_held3 (fun w' => w'.cell? ⟨b8, o8, none⟩ = some (.int .i64 7) ∧ w'.cell? ⟨b8, o8 + 3, none⟩ = some (.int .i64 (j : Int)) ∧ w'.cell? ⟨b8, o8 + 10, none⟩ = some (.bool false) ∧ w'.cell? ⟨b8, o8 + 4, none⟩ = some (.int .u32 x0) ∧ w'.cell? ⟨b8, o8 + 5, none⟩ = some (.int .u32 x1) ∧ w'.cell? ⟨b8, o8 + 6, none⟩ = some (.int .u32 x2) ∧ w'.cell? ⟨b8, o8 + 7, none⟩ = some (.int .u32 x3) ∧ w'.cell? ⟨w.heap.size, 0, none⟩ = some (.int .u32 x0) ∧ w'.cell? ⟨w.heap.size, 1, none⟩ = some (.int .u32 x1) ∧ w'.cell? ⟨w.heap.size, 2, none⟩ = some (.int .u32 x2) ∧ w'.cell? ⟨w.heap.size, 3, none⟩ = some (.int .u32 x3))
            (first
              | exact HK.out _ hbd
              | exact HK.out _ hbA2)
            (first
              | (go_at_call 21; refine (sameline_self x0 x1 x2 x3 _).mono ?_; rintro e wA ⟨rfl, hbA⟩; have hbA2 := hbd.trans hbA))
          all_goals
            have HH9 : Hid (_) := HH.out.below hbA2
            clear hbA2 hbA hbd HK HH
            have bd := bdM_up0
            go_wp2_with (fail)
            refine (HH9.out.take (W.up 12 0 (j : Int)) (by constructor <;> (dsimp only [W.up]; decide))).mono ?_
            rintro e w10 ⟨sl10, rfl, _, h1, _⟩
            rw [HD.out] at h1
            have HH : Hid (_) := h1.sub (fun b (hp : False) => Or.inl hp)
            clear h1
            go_wp2
            go_roundw
            case rel => exact ⟨j + 1, by omega, by go_num, by rw [HN.out]; go_num, HH.out⟩
            case measure => first | (simp [intOf]; done) | (simp [intOf]; omega)
    · obtain rfl : j = 4 := by omega
      have HB2 : Hid (w.heap.size ≤ w1.heap.size ∧ Below w.heap.size w w1) := ⟨HB1.out.2.size, HB1.out.2⟩
      clear HB1
      by_cases hn1 : (W.slof M 4).length = 1
      · have HHs : Hid (Hq w1.heap.size hb ⟨0, 4, x0, x1, x2, x3, 0, [], -1, 1, [], -1, W.mg0⟩ (fun _ => False) w1 wr) := by
          have := HH.out
          rw [W.slof_4 M HMV.out.1 hn1] at this
          exact this
        rw [hn1]
        clear hn1 HH hj hlt
        go_wp2_with (fail)
        refine HHs.out.owner.mono ?_
        rintro e w5 ⟨rfl, rfl⟩
        dsimp only
        go_wp2_with (fail)
        refine HHs.out.sharers.mono ?_
        rintro e w6 ⟨⟨t, rfl, ho⟩, hb6⟩
        obtain ⟨⟨a6, n6, c6⟩, rfl, hL6⟩ := ho.li (Nat.zero_le _)
        obtain rfl : n6 = 0 := hL6.1
        have HX : Hid (_) := HB2.out.2.trans ((HHs.out.b.trans (hb6.mono HHs.out.b.size)).mono HB2.out.1)
        clear ho hb6 hL6
        unfold slV
        dsimp only
        go_wp2
        go_ret
        exact ⟨rfl, HX.out⟩
      · have hge : 2 ≤ (W.slof M 4).length := by have := W.slof_5 M HMV.out.1; omega
        have HE : Hid (_ ∧ _) := W.st_e x0 x1 x2 x3 (W.slof M 4) hge
        have HG : Hid (_) := W.st_g x0 x1 x2 x3 M V HMV.out.1 HMV.out.2.1 hn1
        have HS : Hid (_ ∧ _ ∧ _) := W.swa_0 M HMV.out.1 V HMV.out.2.1 hn1
        have hle := W.slof_len M 4 (Nat.le_refl _)
        have HLn : Hid (_) := hle
        generalize hnn : (W.slof M 4).length = n at *
        have HNN : Hid ((W.slof M 4).length = n) := hnn
        have hn2 : (2 : Int) ≤ n := by omega
        have hn4 : (n : Int) ≤ 4 := by omega
        have e1 : ((n : Int) == 1) = false := by simp; omega
        clear hnn hn1 hle hge hj hlt
        have HO := HH.out.owner
        rw [HE.out.1] at HO
        go_wp2_with (fail)
        refine HO.mono ?_
        rintro e w5 ⟨rfl, rfl⟩
        dsimp only
        clear HO
        have HSh := HH.out.sharers
        rw [HE.out.2] at HSh
        go_wp2_with (fail)
        refine HSh.mono ?_
        rintro e w6 ⟨⟨t, rfl, ho⟩, hb6⟩
        obtain ⟨⟨a6, n6, c6⟩, rfl, hL6⟩ := ho.li (by have := HNN.out; have := HLn.out; omega)
        obtain rfl : n6 = n := by rw [← HNN.out]; exact hL6.1
        have HH := HH.out.below hb6
        have HH : Hid (_) := HH
        have en : ((n6 : Int) != (n6 : Int)) = false := by simp
        have bd := bdM_up0
        clear ho hb6 hL6 HSh
        unfold slV
        dsimp only
        go_wp2_with (fail)
        refine (HH.out.take (W.up 2 0 V) (by constructor <;> (dsimp only [W.up]; decide))).mono ?_
        rintro e w7 ⟨sl, rfl, hm, h1, _⟩
        rw [HG.out] at h1 hm
        have HH : Hid (_) := h1.sub (fun b (hp : False) => Or.inl hp)
        obtain ⟨N, hN, hN2, hN1, hN4⟩ : ∃ N, N = (W.swa M V 0).length ∧ W.sleft M V 4 = N ∧ 1 ≤ N ∧ N ≤ 4 := ⟨_, rfl, HS.out.2.2, by
          have := HS.out.1
          cases h : W.swa M V 0 with
          | nil => exact absurd h this
          | cons x l => simp, by
          rw [HS.out.2.1]
          exact Nat.le_trans (W.wo_len _ _) (by rw [HNN.out]; exact HLn.out)⟩
        have HNA : Hid ((W.wo (W.slof M 4) V).length = N) := (by rw [hN, HS.out.2.1] : (W.wo (W.slof M 4) V).length = N)
        obtain ⟨a7, n7, c7⟩ := sl
        obtain rfl : n7 = N := by have := hm.n; rw [List.length_map, HNA.out] at this; exact this
        obtain ⟨b7, o7, ea, hl7, hr7⟩ := hm.at_ (by show 0 < n7; omega)
        dsimp only at ea
        subst ea
        have HR : Hid (∀ j x, (W.wo (W.slof M 4) V)[j]? = some x → j < n7 ∧ w7.cell? ⟨b7, o7 + j * 11, none⟩ = some (.int .i64 4) ∧ w7.cell? ⟨b7, o7 + j * 11 + 3, none⟩ = some (.int .i64 x)) := fun j x hx => by
          have r := hr7 j (W.sinv x) (by rw [List.getElem?_map, hx]; rfl)
          have hlt := (List.getElem?_eq_some_iff.1 hx).1
          rw [HNA.out] at hlt
          exact ⟨hlt, r 0 _ rfl, r 3 _ rfl⟩
        have HN : Hid (n7 = (W.swa M V 0).length ∧ W.sleft M V 4 = n7 ∧ 1 ≤ n7 ∧ n7 ≤ 4) := ⟨hN, hN2, hN1, hN4⟩
        have hN4' : (n7 : Int) ≤ 4 := by omega
        have hN1' : (1 : Int) ≤ n7 := by omega
        clear hm hl7 hr7 h1 hN hN2 hN1 hN4 hn2 hn4 e1 en HG HE HLn HNN
        unfold slV
        dsimp only
        go_wp2_with (fail)
        go_loop [13, 14] (fun l i => ∃ j : Nat, j ≤ 4 ∧ i = .int .i64 j ∧ l = .int .i64 (W.sleft M V j : Nat)) (fun l i => 4 - (intOf i).toNat)
        case atStart => exact ⟨0, by omega, rfl, rfl⟩
        case round =>
          obtain ⟨j, hj, rfl, rfl⟩ := hrel
          by_cases hlt : j < 4
          · have hjn : (j : Int) < 4 := by omega
            have hj0 : (0 : Int) ≤ j := by omega
            by_cases hjV : j = V
            · have HS2 : Hid (_) := W.sleft_n M V j HMV.out.1 HMV.out.2.1 hlt (Or.inr hjV)
              have e2 : ((j : Int) != (V : Int)) = false := by rw [hjV]; simp
              generalize hLF : W.sleft M V j = lf at *
              clear hLF hjV
              go_wp2_with (fail)
              go_round
              case rel => exact ⟨j + 1, by omega, by go_num, by rw [HS2.out]⟩
              case measure => simp [intOf]; omega
            · have e2 : ((j : Int) != (V : Int)) = true := by simp; omega
              cases hbt : W.sbit M j
              · have HS2 : Hid (_) := W.sleft_n M V j HMV.out.1 HMV.out.2.1 hlt (Or.inl hbt)
                have hz : (bits .and .i64 (mk / 2 ^ j) 1 == 1) = false := by rw [← HMV.out.2.2, W.sbit_and M HMV.out.1 j hlt, hbt]; rfl
                generalize hLF : W.sleft M V j = lf at *
                clear hLF hjV hbt
                go_wp2_with (fail)
                go_round
                case rel => exact ⟨j + 1, by omega, by go_num, by rw [HS2.out]⟩
                case measure => simp [intOf]; omega
              · have HS2 : Hid (_ ∧ _) := W.sleft_s M V j HMV.out.1 HMV.out.2.1 hlt hbt hjV
                have hz : (bits .and .i64 (mk / 2 ^ j) 1 == 1) = true := by rw [← HMV.out.2.2, W.sbit_and M HMV.out.1 j hlt, hbt]; rfl
                obtain ⟨hlf, k0, k3⟩ := HR.out _ _ HS2.out.2
                have HS3 : Hid (_) := HS2.out.1
                clear HS2
                generalize hLF : W.sleft M V j = lf at *
                have hlf' : (lf : Int) < n7 := by omega
                have ej : ((j : Int) != (j : Int)) = false := by simp
                clear hLF hjV hbt hlf
                go_wp2_with (fail)
                go_round
                case rel => exact ⟨j + 1, by omega, by go_num, by rw [HS3.out]; go_num⟩
                case measure => simp [intOf]; omega
          · obtain rfl : j = 4 := by omega
            rw [HN.out.2.1]
            have en : ((n7 : Int) != (n7 : Int)) = false := by simp
            clear hlt hj
            go_wp2_with (fail)
            have HN1 : Hid (n7 = (W.swa M V 0).length) := HN.out.1
            have HM0 : Hid (W.swa M V 0 ≠ []) := HS.out.1
            clear hN4' hN1' en HN HS HR
            go_loopw [12, 13, 15] (fun o l i wr => ∃ j : Nat, j ≤ 4 ∧ i = .int .i64 j ∧ l = .int .i64 ((W.swa M V j).length : Nat) ∧ Hq w1.heap.size hb (W.kst x0 x1 x2 x3 M V j) (fun _ => False) w1 wr ∧ ∃ sl, o = slV sl ∧ (W.swa M V j = [] → Ms sl [W.sdat x0 x1 x2 x3 V true] wr)) (fun o l i _ => 4 - (intOf i).toNat)
            case atStart => exact ⟨0, by omega, rfl, congrArg (fun n : Nat => Value.int .i64 n) HN1.out, HH.out, ⟨some ⟨b7, o7, none⟩, n7, c7⟩, rfl, fun h => absurd h HM0.out⟩
            case round =>
              obtain ⟨j, hj, rfl, rfl, hH, ⟨a8, n8, c8⟩, rfl, hO⟩ := hrel
              have HO : Hid (_) := hO
              have HJ : Hid (_) := hH
              clear hH hO HH HM0
              unfold slV
              dsimp only
              by_cases hlt : j < 4
              · have hjn : (j : Int) < 4 := by omega
                have hj0 : (0 : Int) ≤ j := by omega
                by_cases hjV : j = V
                · have HS2 : Hid (_) := W.swa_n M V j HMV.out.1 HMV.out.2.1 hlt (Or.inr hjV)
                  have HK2 : Hid (W.kst x0 x1 x2 x3 M V (j + 1) = W.kst x0 x1 x2 x3 M V j) := (by unfold W.kst; rw [HS2.out] : W.kst x0 x1 x2 x3 M V (j + 1) = W.kst x0 x1 x2 x3 M V j)
                  have e2 : ((j : Int) != (V : Int)) = false := by rw [hjV]; simp
                  have HL2 : Hid ((W.swa M V (j + 1)).length = (W.swa M V j).length) := (by rw [HS2.out] : (W.swa M V (j + 1)).length = (W.swa M V j).length)
                  generalize hLF : (W.swa M V j).length = lf at *
                  clear hLF hjV
                  go_wp2_with (fail)
                  go_roundw
                  case rel => exact ⟨j + 1, by omega, by go_num, by rw [HL2.out], by rw [HK2.out]; exact HJ.out, ⟨a8, n8, c8⟩, rfl, fun h => HO.out (by rw [← HS2.out]; exact h)⟩
                  case measure => simp [intOf]; omega
                · have e2 : ((j : Int) != (V : Int)) = true := by simp; omega
                  cases hbt : W.sbit M j
                  · have HS2 : Hid (_) := W.swa_n M V j HMV.out.1 HMV.out.2.1 hlt (Or.inl hbt)
                    have HK2 : Hid (W.kst x0 x1 x2 x3 M V (j + 1) = W.kst x0 x1 x2 x3 M V j) := (by unfold W.kst; rw [HS2.out] : W.kst x0 x1 x2 x3 M V (j + 1) = W.kst x0 x1 x2 x3 M V j)
                    have hz : (bits .and .i64 (mk / 2 ^ j) 1 == 1) = false := by rw [← HMV.out.2.2, W.sbit_and M HMV.out.1 j hlt, hbt]; rfl
                    have HL2 : Hid ((W.swa M V (j + 1)).length = (W.swa M V j).length) := (by rw [HS2.out] : (W.swa M V (j + 1)).length = (W.swa M V j).length)
                    generalize hLF : (W.swa M V j).length = lf at *
                    clear hLF hjV hbt
                    go_wp2_with (fail)
                    go_roundw
                    case rel => exact ⟨j + 1, by omega, by go_num, by rw [HL2.out], by rw [HK2.out]; exact HJ.out, ⟨a8, n8, c8⟩, rfl, fun h => HO.out (by rw [← HS2.out]; exact h)⟩
                    case measure => simp [intOf]; omega
                  · have HA : Hid (_) := W.st_a x0 x1 x2 x3 M V j HMV.out.1 HMV.out.2.1 hlt hbt hjV
                    have hS2 := W.swa_s M V j HMV.out.1 HMV.out.2.1 hlt hbt hjV
                    have hz : (bits .and .i64 (mk / 2 ^ j) 1 == 1) = true := by rw [← HMV.out.2.2, W.sbit_and M HMV.out.1 j hlt, hbt]; rfl
                    rw [hS2]
                    have hkl : (W.swa M V (j + 1)).length ≤ 4 := Nat.le_trans (List.length_filter_le _ _) (Nat.le_trans (W.wo_len _ _) (W.slof_len M 4 (Nat.le_refl _)))
                    have HLK : Hid (W.swa M V (j + 1) = [] ↔ (W.swa M V (j + 1)).length = 0) := (List.length_eq_zero_iff.symm : W.swa M V (j + 1) = [] ↔ (W.swa M V (j + 1)).length = 0)
                    generalize hLF : (W.swa M V (j + 1)).length = k at *
                    have HLF : Hid ((W.swa M V (j + 1)).length = k) := hLF
                    have hk4 : (k : Int) ≤ 4 := by omega
                    have bd := bdM_up0
                    clear hLF hjV hbt hS2 HO
                    by_cases hk0 : k = 0
                    · have HNil : Hid (W.swa M V (j + 1) = []) := HLK.out.2 hk0
                      subst hk0
                      clear hkl hk4
                      go_wp2_with (fail)
                      refine (HJ.out.take (W.up 10 0 j) (by constructor <;> (dsimp only [W.up]; decide))).mono ?_
                      rintro e w9 ⟨⟨a9, n9, c9⟩, rfl, hm, h1, _⟩
                      rw [HA.out, if_pos HNil.out] at hm
                      rw [HA.out] at h1
                      obtain rfl : n9 = 1 := hm.n
                      have HF : Hid (_ ∧ _) := ⟨h1.sub (fun b (hp : False) => Or.inl hp), hm⟩
                      clear h1 hm
                      unfold slV
                      dsimp only
                      go_wp2_with (fail)
                      go_roundw
                      case rel => exact ⟨j + 1, by omega, by go_num, by first | (rw [HLF.out]; done) | (rw [HLF.out]; rfl) | (rw [HLF.out]; go_num), HF.out.1, ⟨a9, 1, c9⟩, rfl, fun h => HF.out.2⟩
                      case measure => simp [intOf]; omega
                    · have hk1 : (0 : Int) < k := by omega
                      have hgt : (!decide (0 < k)) = false := by simp; omega
                      have hgt2 : decide (0 < k) = true := by simp; omega
                      go_wp2_with (fail)
                      refine (HJ.out.take (W.up 10 0 j) (by constructor <;> (dsimp only [W.up]; decide))).mono ?_
                      rintro e w9 ⟨⟨a9, n9, c9⟩, rfl, hm, h1, _⟩
                      rw [HA.out, if_neg (fun h => hk0 (HLK.out.1 h))] at hm
                      rw [HA.out] at h1
                      obtain rfl : n9 = 0 := hm.n
                      have HF : Hid (_) := h1.sub (fun b (hp : False) => Or.inl hp)
                      have HNE : Hid (¬ W.swa M V (j + 1) = []) := fun h => hk0 (HLK.out.1 h)
                      clear h1 hm hk0 hkl
                      unfold slV
                      dsimp only
                      go_wp2_with (fail)
                      go_roundw
                      case rel => exact ⟨j + 1, by omega, by go_num, by first | (rw [HLF.out]; done) | (rw [HLF.out]; rfl) | (rw [HLF.out]; go_num), HF.out, ⟨a9, 0, c9⟩, rfl, fun h => absurd h HNE.out⟩
                      case measure => simp [intOf]; omega
              · obtain rfl : j = 4 := by omega
                have e4 := W.swa_4 M HMV.out.1 V HMV.out.2.1
                have hm := HO.out e4
                have HF : Hid (Hq w1.heap.size hb (W.FN x0 x1 x2 x3 V) (fun _ => False) w1 wr) := by
                  have := HJ.out
                  unfold W.kst at this
                  rw [if_pos e4] at this
                  exact this
                obtain ⟨b9, o9, c9', es, _, _, hr9⟩ := ms_1 hm
                obtain ⟨rfl, rfl, rfl⟩ : a8 = some ⟨b9, o9, none⟩ ∧ n8 = 1 ∧ c8 = c9' := by
                  cases es
                  exact ⟨rfl, rfl, rfl⟩
                have k0 : wr.cell? ⟨b9, o9, none⟩ = some (.int .i64 7) := hr9 0 _ rfl
                have k3 : wr.cell? ⟨b9, o9 + 3, none⟩ = some (.int .i64 V) := hr9 3 _ rfl
                have ka : wr.cell? ⟨b9, o9 + 10, none⟩ = some (.bool true) := hr9 10 _ rfl
                have ev : ((V : Int) == (V : Int)) = true := by simp
                clear hm hr9 e4 HO HJ es
                have HO := HF.out.owner
                have HSh := HF.out.sharers
                go_wp2_with (fail)
                refine HO.mono ?_
                rintro e w5 ⟨rfl, rfl⟩
                dsimp only [W.FN]
                clear HO
                go_wp2_with (fail)
                refine HSh.mono ?_
                rintro e w6 ⟨⟨t, rfl, ho⟩, hb6⟩
                obtain ⟨⟨a6, n6, c6⟩, rfl, hL6⟩ := ho.li (Nat.zero_le _)
                obtain rfl : n6 = 0 := hL6.1
                have HX : Hid (_) := HB2.out.2.trans ((HF.out.b.trans (hb6.mono HF.out.b.size)).mono HB2.out.1)
                clear ho hb6 hL6 HSh
                unfold slV
                dsimp only
                go_wp2
                go_ret
                exact ⟨rfl, HX.out⟩
end Go.Proofs.Ythkielaicnmaeaa
