/- PpoMore, one way. -/
import Derived.Test.YtbppeehhohdfiaaPpoMoS
namespace Go.Proofs.Ytbppeehhohdfiaa
open Go.ChangeShapes Go.WideShapes Go.ChangeAt Go.RowKit
set_option linter.unusedVariables false
set_option linter.unusedSimpArgs false

set_option maxRecDepth 10000 in
set_option maxHeartbeats 3200000 in
theorem more_20 (a : Option Addr) (n c : Nat) (o : Nat → W.Opr) (S : Nat → S3) (A D C : Nat → Nat → Int) (at_ what : Int) (a0 : -9223372036854775808 ≤ at_) (a1 : at_ ≤ 9223372036854775807) (b0 : -9223372036854775808 ≤ what) (b1 : what ≤ 9223372036854775807) (w : World) (h : Rs a n c o S A D C w) (n0 : 0 < n) (n30 : n ≤ 30) (P : Nat) (hP : at_ % (n : Int) = (P : Int)) (hH : what % 5 = 2) (P0 : P = 0) :
    Calls Try.prog 3 #[.slice a n c, .int .i64 at_, .int .i64 what] w fun e w' => e = .returned (.bool true) ∧ Below w.heap.size w w' := by
  subst P0
  have Pn : 0 < n := by have := Int.emod_lt_of_pos at_ (show 0 < (n : Int) by omega); omega
  have c1 := fun w => number_any at_ (n : Int) a0 a1 (by omega) (by omega) w
  have c2 := fun w => number_any what 5 b0 b1 (by decide) (by decide) w
  rw [hP] at c1
  rw [hH] at c2
  have e1 : ¬ ((n : Int) == 0) = true := by simp; omega
  have e2 : ¬ (30 : Int) < (n : Int) := by omega
  have e3 : (n == 0) = false := by simp; omega
  have HH : Hid (_ ∧ _ ∧ _ ∧ _) := ⟨first13_any w, c1, c2, h⟩
  clear c1 c2 h hP hH
  go_enter Try.func3, Try.ntmps3
  go_wp2_with (fail)
  refine HH.out.1.mono ?_
  rintro e w1 ⟨rfl, bw1⟩
  have hfit := fit_any a n c o S A D C w1 (HH.out.2.2.2.below bw1)
  have HF : Hid (Calls _ _ _ _ _) := hfit
  clear hfit
  go_wp2_with (fail)
  refine HF.out.mono ?_
  rintro e w2 ⟨he, bw2⟩
  have bw3 := bw1.trans (bw2.mono bw1.size)
  clear bw1 bw2 HF
  rcases he with rfl | ⟨rfl, hFew⟩
  · go_wp2
    go_ret
    exact ⟨rfl, bw3⟩
  have RS := HH.out.2.2.2.below bw3
  have hcp := copy_ops a n c o S A D C w2 RS hFew
  have HC : Hid (Calls _ _ _ _ _ ∧ _ ∧ _) := ⟨hcp, hFew, RS⟩
  clear hcp hFew RS
  go_wp2_with (fail)
  refine (HH.out.2.1 _).mono ?_
  rintro e w2' ⟨rfl, rfl⟩
  go_wp2_with (fail)
  refine HC.out.1.mono ?_
  rintro e w3 ⟨rfl, ⟨S', hB, hFl⟩, b3⟩
  have hOw := Ow.of hB hFl
  have hf0 := hFl 0 Pn
  have Gw : w.heap.size ≤ w2.heap.size := bw3.size
  have GL : w2.heap.size < w3.heap.size := hB.lt
  have L3 := HH.out.2.2.2.ol HC.out.2.1
  have Lk := fun j hj => HC.out.2.2.ok j hj
  have nc := HC.out.2.2.nc
  have P40 := HC.out.2.1.l 0 Pn
  have bw4 := bw3.trans (b3.mono bw3.size)
  have HO : Hid (_ ∧ _ ∧ _ ∧ _ ∧ _) := ⟨hOw, hf0, L3, Lk, bw4⟩
  clear hOw hf0 L3 Lk bw4 hB hFl b3 HC bw3
  generalize w2.heap.size = G at *
  go_wp2_with (fail)
  refine (HH.out.2.2.1 _).mono ?_
  rintro e w3' ⟨rfl, rfl⟩
  clear HH
  have O1 := HO.out.1
  have gl := O1.b.lt
  have gf := O1.b.fz
  have TT : Two a n c G (fun j => ozR (o j) (S j) (A j) (D j) (C j)) (updX (fun j => ozR (o j) (S j) (A j) (D j) (C j)) 0 (ozR (o 0) (S 0) (A 0) (D 0) (C 0))) _ := ⟨HO.out.2.2.1.below HO.out.2.2.2.2, (O1.congr (y := updX (fun j => ozR (o j) (S j) (A j) (D j) (C j)) 0 (ozR (o 0) (S 0) (A 0) (D 0) (C 0))) (fun j _ => updX_self (fun j => ozR (o j) (S j) (A j) (D j) (C j)) 0 j)).ol, HO.out.2.2.2.1, ok_upd HO.out.2.2.2.1 ⟨(HO.out.2.2.2.1 0 Pn).z0, (HO.out.2.2.2.1 0 Pn).z1, (HO.out.2.2.2.1 0 Pn).a0, (HO.out.2.2.2.1 0 Pn).a1⟩, nc, by omega, W.mo_upd _ 0 _ (W.Mo.refl _)⟩
  have HY : Hid (_ ∧ _) := ⟨TT, HO.out.2.2.2.2⟩
  clear TT O1
  go_wp2
  obtain ⟨W9, hW9⟩ : ∃ W, W = w3 := ⟨_, rfl⟩
  subst hW9
  clear gl gf HO 
  go_loopw [9] (fun t wx => ∃ i : Nat, i ≤ n ∧ t = .int .i64 (i : Int) ∧ Below W9.heap.size W9 wx) (fun t _ => n - (intOf t).toNat)
  case atStart => exact ⟨0, by omega, rfl, Below.refl _ _⟩
  case round =>
    rename_i wx _
    obtain ⟨i, hi, rfl, bx⟩ := hrel
    by_cases hlt : i < n
    · have hin : (i : Int) < (n : Int) := by omega
      go_wp2
      go_loopw [10] (fun t wy => ∃ k : Nat, i + 1 ≤ k ∧ k ≤ n ∧ t = .int .i64 (k : Int) ∧ Below W9.heap.size W9 wy) (fun t _ => n - (intOf t).toNat)
      case atStart => exact ⟨i + 1, by omega, by omega, by go_num, bx⟩
      case round =>
        obtain ⟨k, hk1, hk2, rfl, bz⟩ := hrel
        by_cases hlk : k < n
        · have hC := HY.out.1.whyL _ bz i k (by omega) hlk
          have hkn : (k : Int) < (n : Int) := by omega
          have hlw := W.why_more HY.out.1.le i k
          have hD := fun W' hb => HY.out.1.whyM W' hb i k (by omega) hlk
          generalize W.whyO _ i k = V1 at hC hlw
          generalize W.whyO _ i k = V2 at hD hlw
          have HC : Hid (Calls _ _ _ _ _ ∧ _) := ⟨hC, hD⟩
          clear hC hD
          go_wp2_with (fail)
          refine HC.out.1.mono ?_
          rintro e w5 ⟨rfl, b5⟩
          have b6 := bz.trans (b5.mono bz.size)
          clear bz b5
          by_cases hv : 0 < V1
          · have hv2 : (V2 == 0) = false := by simpa using hlw (by omega)
            clear hlw
            go_wp2_with (fail)
            refine (HC.out.2 _ b6).mono ?_
            rintro e w7 ⟨rfl, b7⟩
            have b8 := b6.trans (b7.mono b6.size)
            clear b6 b7 HC
            go_wp2
            go_roundw
            case rel => exact ⟨k + 1, by omega, by omega, by go_num, b8⟩
            case measure => simp [intOf]; omega
          · clear hlw HC
            go_wp2
            go_roundw
            case rel => exact ⟨k + 1, by omega, by omega, by go_num, b6⟩
            case measure => simp [intOf]; omega
        · have hkn : ¬ (k : Int) < (n : Int) := by omega
          go_wp2
          go_roundw
          case rel => exact ⟨i + 1, by omega, by go_num, bz⟩
          case measure => simp [intOf]; omega
    · have hin : ¬ (i : Int) < (n : Int) := by omega
      have c5 := HY.out.2.trans (bx.mono HY.out.2.size)
      clear bx HY
      go_wp2
      go_ret
      exact ⟨rfl, c5⟩
end Go.Proofs.Ytbppeehhohdfiaa
