/- Texts in one: AsmNumbersWalk. -/
import Derived.Test.YtnejdkadmdelaaaGreatDoorK10
import Derived.Test.YtnejdkadmdelaaaGreatDoorK11
/- AsmNumbers. -/
namespace Go.Proofs.YtnejdkadmdelaaaGreatDoor
open Go.ChangeShapes Go.WideShapes Go.ChangeAt Go.RowKit
set_option linter.unusedVariables false
set_option linter.unusedSimpArgs false

theorem num_v (n : Int) : -1024 ≤ wrap64 ((wrap64 (n.tmod 2048 + 2048)).tmod 2048 - 1024) ∧ wrap64 ((wrap64 (n.tmod 2048 + 2048)).tmod 2048 - 1024) ≤ 1023 := by
  have h1 : -2048 < n.tmod 2048 := Int.lt_tmod_of_pos n (by decide)
  have h2 : n.tmod 2048 < 2048 := Int.tmod_lt_of_pos n (by decide)
  generalize n.tmod 2048 = x at *
  have h3 : wrap64 (x + 2048) = x + 2048 := by unfold wrap64; omega
  rw [h3]
  have h4 : 0 ≤ (x + 2048).tmod 2048 := Int.tmod_nonneg _ (by omega)
  have h5 : (x + 2048).tmod 2048 < 2048 := Int.tmod_lt_of_pos _ (by decide)
  generalize (x + 2048).tmod 2048 = y at *
  unfold wrap64
  omega

set_option maxRecDepth 100000 in
set_option maxHeartbeats 1200000 in
theorem numbers_walk (A : Nat → Addr) (n : Int) (a0 : -9223372036854775808 ≤ n) (a1 : n ≤ 9223372036854775807) (w : World) (hS : Sg A w) : Calls Tryz.prog 6 #[.int .i64 n] w fun e w' => e = .returned (.bool true) ∧ Below w.heap.size w w' := by
  have HS : Hid (Sg A w) := hS
  clear hS a0 a1
  go_enter Tryz.func6, Tryz.ntmps6
  go_wp2_with (go_at_call 8; refine (first5_any A _ HS.out).mono ?_; rintro e w1 ⟨rfl, hb1⟩)
  obtain ⟨v0, v1⟩ := num_v n
  generalize wrap64 ((wrap64 (n.tmod 2048 + 2048)).tmod 2048 - 1024) = v at *
  obtain ⟨D, hD⟩ : ∃ D : ByteArray, D = ⟨(Lib.itoa v).toArray⟩ := ⟨_, rfl⟩
  obtain ⟨B, hB⟩ : ∃ B : ByteArray, B = (⟨#[97, 100, 100, 105, 32, 120, 51, 49, 44, 32, 120, 49, 48, 44, 32]⟩ : ByteArray) ++ D := ⟨_, rfl⟩
  have hT : (⟨(W.textL (W.ia v)).toArray⟩ : ByteArray) = B := by
    rw [W.ia_text v v0 v1, hB, hD, ← ba_append]
  have HDs : D.size ≤ 30 := by
    rw [hD]
    show (Lib.itoa v).toArray.size ≤ 30
    rw [List.size_toArray]
    unfold Lib.itoa
    split
    · have := dec_len v.natAbs (by omega); rw [List.length_cons]; omega
    · have := dec_len v.toNat (by omega); omega
  have HP1 : Hid (Prints A (W.ia v) B) := by
    have := prints_of A (W.ia v) (W.ia_ok v v0 v1)
    rw [hT] at this
    exact this
  have HR1 : Hid (ParsesB A B (W.ia v) 0) := fun w hS => by
    have := parse_ok A (W.ia v) (by show 0 ≤ v % 4294967296; omega) (by show v % 4294967296 < 4294967296; omega) (W.ia_ok v v0 v1) w hS
    rw [hT] at this
    exact this
  have HD1 : Hid (∀ w : World, Calls Tryz.prog 23 #[.int .i64 v] w fun e w' => e = .returned (.string D) ∧ Below w.heap.size w w') := fun w => by
    rw [hD]; exact decimal_int v (by omega) (by omega) w
  have HB : Hid (B = (⟨#[97, 100, 100, 105, 32, 120, 51, 49, 44, 32, 120, 49, 48, 44, 32]⟩ : ByteArray) ++ D) := hB
  clear hT hB hD
  obtain ⟨E, hE⟩ : ∃ E : ByteArray, E = ⟨(Lib.itoa (W.lm v / 4096)).toArray⟩ := ⟨_, rfl⟩
  obtain ⟨C, hC⟩ : ∃ C : ByteArray, C = (⟨#[108, 117, 105, 32, 120, 49, 44, 32]⟩ : ByteArray) ++ E := ⟨_, rfl⟩
  have hT2 : (⟨(W.textL (W.il (W.lm v))).toArray⟩ : ByteArray) = C := by
    rw [W.il_text v v0 v1, hC, hE, ← ba_append]
  have hlm : 0 ≤ W.lm v / 4096 ∧ W.lm v / 4096 < 4294967296 := by unfold W.lm; omega
  have HEs : E.size ≤ 30 := by
    rw [hE]
    show (Lib.itoa (W.lm v / 4096)).toArray.size ≤ 30
    rw [List.size_toArray]
    unfold Lib.itoa
    rw [if_neg (by omega)]
    have := dec_len (W.lm v / 4096).toNat (by omega); omega
  have HP2 : Hid (Prints A (W.il (W.lm v)) C) := by
    have := prints_of A (W.il (W.lm v)) (W.il_ok v v0 v1).1
    rw [hT2] at this
    exact this
  have HD2 : Hid (∀ w : World, Calls Tryz.prog 23 #[.int .i64 (v % 4294967296 * 4096 % 4294967296 / 4096)] w fun e w' => e = .returned (.string E) ∧ Below w.heap.size w w') := fun w => by
    rw [hE]; exact decimal_int (W.lm v / 4096) (by omega) (by omega) w
  have HC : Hid (C = (⟨#[108, 117, 105, 32, 120, 49, 44, 32]⟩ : ByteArray) ++ E) := hC
  clear hT2 hC hE hlm
  obtain ⟨m, hm⟩ : ∃ m : Nat, m = v.natAbs := ⟨_, rfl⟩
  obtain ⟨G, hG⟩ : ∃ G : ByteArray, G = ⟨(Lib.decDigits m).toArray⟩ := ⟨_, rfl⟩
  have HGs : G.size ≤ 30 := by
    rw [hG]
    show (Lib.decDigits m).toArray.size ≤ 30
    rw [List.size_toArray]
    have := dec_len m (by omega); omega
  have HD3 : Hid (∀ w : World, Calls Tryz.prog 23 #[.int .i64 (m : Int)] w fun e w' => e = .returned (.string G) ∧ Below w.heap.size w w') := fun w => by
    rw [hG]; exact lawdec_any m (by omega) w
  have HR3 : Hid (ParsesB A ((⟨#[97, 100, 100, 105, 32, 120, 51, 49, 44, 32, 120, 49, 48, 44, 32, 43]⟩ : ByteArray) ++ G) ⟨0, 0, 0, 0, 0, 0, false, false⟩ 6) := fun w hS => by
    have := parse_plus A (Lib.decDigits m) (by have := dec_len m (by omega); omega) w hS
    rw [hG]
    have e : ((⟨#[97, 100, 100, 105, 32, 120, 51, 49, 44, 32, 120, 49, 48, 44, 32, 43]⟩ : ByteArray) ++ (⟨(Lib.decDigits m).toArray⟩ : ByteArray)) = ⟨([97, 100, 100, 105, 32, 120, 51, 49, 44, 32, 120, 49, 48, 44, 32] ++ 43 :: Lib.decDigits m).toArray⟩ := ba_append [97, 100, 100, 105, 32, 120, 51, 49, 44, 32, 120, 49, 48, 44, 32, 43] (Lib.decDigits m)
    rw [e]
    exact this
  have HR4 : Hid (ParsesB A ((⟨#[97, 100, 100, 105, 32, 120, 51, 49, 44, 32, 120, 49, 48, 44, 32, 48]⟩ : ByteArray) ++ G) ⟨0, 0, 0, 0, 0, 0, false, false⟩ 6) := fun w hS => by
    have := parse_zero A m (by omega) w hS
    rw [hG]
    have e : ((⟨#[97, 100, 100, 105, 32, 120, 51, 49, 44, 32, 120, 49, 48, 44, 32, 48]⟩ : ByteArray) ++ (⟨(Lib.decDigits m).toArray⟩ : ByteArray)) = ⟨([97, 100, 100, 105, 32, 120, 51, 49, 44, 32, 120, 49, 48, 44, 32] ++ 48 :: Lib.decDigits m).toArray⟩ := ba_append [97, 100, 100, 105, 32, 120, 51, 49, 44, 32, 120, 49, 48, 44, 32, 48] (Lib.decDigits m)
    rw [e]
    exact this
  clear hG
  refine (HP1.out _ (HS.out.below hb1)).mono ?_
  rintro e w2 ⟨rfl, hb2⟩
  have hbl2 : Below w.heap.size w w2 := hb1.trans (hb2.mono hb1.size)
  go_wp2_with fail
  refine (HR1.out _ (HS.out.below hbl2)).mono ?_
  rintro e w3 ⟨rfl, hb3⟩
  have hbl3 : Below w.heap.size w w3 := hbl2.trans (hb3.mono hbl2.size)
  unfold inV errV W.ia
  go_wp2_with fail
  have hbA : Below w3.heap.size w3 (w3.alloc (.cells #[.int .i64 19, .int .i64 31, .int .i64 10, .int .i64 0, .int .i64 0, .int .u32 (v % 4294967296), .bool false, .bool false] 24)) := (Below.refl _ _).alloc (Nat.le_refl _) _
  have hcA : (w3.alloc (.cells #[.int .i64 19, .int .i64 31, .int .i64 10, .int .i64 0, .int .i64 0, .int .u32 (v % 4294967296), .bool false, .bool false] 24)).cell? ⟨w3.heap.size, 5, none⟩ = some (.int .u32 (v % 4294967296)) := by simp [go_sem]
  have hsA : w3.heap.size < (w3.alloc (.cells #[.int .i64 19, .int .i64 31, .int .i64 10, .int .i64 0, .int .i64 0, .int .u32 (v % 4294967296), .bool false, .bool false] 24)).heap.size := by simp
  generalize World.alloc w3 _ = w4 at *
  have hbl4 : Below w.heap.size w w4 := hbl3.trans (hbA.mono hbl3.size)
  generalize w3.heap.size = q at *
  refine (HD1.out w4).mono ?_
  rintro e w5 ⟨rfl, hb5⟩
  have hbl5 : Below w.heap.size w w5 := hbl4.trans (hb5.mono hbl4.size)
  go_wp2_with fail
  rw [← HB.out]
  refine (HP2.out _ (HS.out.below hbl5)).mono ?_
  rintro e w6 ⟨rfl, hb6⟩
  have hbl6 : Below w.heap.size w w6 := hbl5.trans (hb6.mono hbl5.size)
  go_wp2_with fail
  have hmx : max v (-v) = (m : Int) := by omega
  clear hm
  rw [hmx]
  refine (HD3.out w6).mono ?_
  rintro e w7 ⟨rfl, hb7⟩
  have hbl7 : Below w.heap.size w w7 := hbl6.trans (hb7.mono hbl6.size)
  go_wp2_with fail
  refine (HR3.out _ (HS.out.below hbl7)).mono ?_
  rintro e w8 ⟨rfl, hb8⟩
  have hbl8 : Below w.heap.size w w8 := hbl7.trans (hb8.mono hbl7.size)
  unfold inV errV
  go_wp2_with fail
  try rw [hmx]
  have hbB : Below w8.heap.size w8 (w8.alloc (.cells #[.int .i64 0, .int .i64 0, .int .i64 0, .int .i64 0, .int .i64 0, .int .u32 0, .bool false, .bool false] 24)) := (Below.refl _ _).alloc (Nat.le_refl _) _
  generalize World.alloc w8 _ = w9 at *
  have hbl9 : Below w.heap.size w w9 := hbl8.trans (hbB.mono hbl8.size)
  refine (HD3.out w9).mono ?_
  rintro e w10 ⟨rfl, hb10⟩
  have hbl10 : Below w.heap.size w w10 := hbl9.trans (hb10.mono hbl9.size)
  go_wp2_with fail
  refine (HR4.out _ (HS.out.below hbl10)).mono ?_
  rintro e w11 ⟨rfl, hb11⟩
  have hbl11 : Below w.heap.size w w11 := hbl10.trans (hb11.mono hbl10.size)
  unfold inV errV
  have h4_11 : Below w4.heap.size w4 w11 := by
    have x1 := hb5.trans (hb6.mono hb5.size)
    have x2 := x1.trans (hb7.mono x1.size)
    have x3 := x2.trans (hb8.mono x2.size)
    have x4 := x3.trans (hbB.mono x3.size)
    have x5 := x4.trans (hb10.mono x4.size)
    exact x5.trans (hb11.mono x5.size)
  have g5 : w11.cell? ⟨q, 5, none⟩ = some (.int .u32 (v % 4294967296)) := (h4_11.cell (p := ⟨q, 5, none⟩) hsA).trans hcA
  have hl11 : q < w11.heap.size := Nat.lt_of_lt_of_le hsA h4_11.size
  have hw32 : wrap32 (v % 4294967296) = v := by unfold wrap32; omega
  have hC' := HC.out
  clear HC
  subst hC'
  go_wp2_with fail
  have hbD : Below w11.heap.size w11 (w11.alloc (.cells #[.int .i64 0, .int .i64 0, .int .i64 0, .int .i64 0, .int .i64 0, .int .u32 0, .bool false, .bool false] 24)) := (Below.refl _ _).alloc (Nat.le_refl _) _
  generalize World.alloc w11 _ = w12 at *
  have hbl12 : Below w.heap.size w w12 := hbl11.trans (hbD.mono hbl11.size)
  refine (HD2.out w12).mono ?_
  rintro e w13 ⟨rfl, hb13⟩
  have hbl13 : Below w.heap.size w w13 := hbl12.trans (hb13.mono hbl12.size)
  go_wp2_with fail
  refine (is_word A _ w13 (HS.out.below hbl13).sent).mono ?_
  rintro e w14 ⟨rfl, hb14⟩
  have hbl14 : Below w.heap.size w w14 := hbl13.trans (hb14.mono hbl13.size)
  go_wp2_with fail
  refine (is_word A _ w14 (HS.out.below hbl14).sent).mono ?_
  rintro e w15 ⟨rfl, hb15⟩
  go_wp2_with fail
  go_ret
  exact ⟨rfl, hbl14.trans (hb15.mono hbl14.size)⟩
end Go.Proofs.YtnejdkadmdelaaaGreatDoor
