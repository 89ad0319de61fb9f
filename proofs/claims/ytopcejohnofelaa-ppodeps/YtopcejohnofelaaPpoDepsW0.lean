/- PpoDeps, one way. -/
import Derived.Test.YtopcejohnofelaaPpoDeps0
namespace Go.Proofs.Ytopcejohnofelaa
open Go.ChangeShapes Go.WideShapes Go.ChangeAt Go.RowKit
set_option linter.unusedVariables false
set_option linter.unusedSimpArgs false

attribute [local go_sem ↓] bdO_eq bsO_eq ldO_eq
set_option maxRecDepth 10000 in
set_option maxHeartbeats 3200000 in
theorem deps_w0 (N A B : Nat) (n a b how : Int) (n0 : -9223372036854775808 ≤ n) (n1 : n ≤ 9223372036854775807) (a0 : -9223372036854775808 ≤ a) (a1 : a ≤ 9223372036854775807) (b0 : -9223372036854775808 ≤ b) (b1 : b ≤ 9223372036854775807) (h0 : -9223372036854775808 ≤ how) (h1 : how ≤ 9223372036854775807)
    (hN : n % 12 + 2 = (N : Int)) (hB : b % ((N : Int) - 1) + 1 = (B : Int)) (hA : a % (B : Int) = (A : Int)) (hH : how % 4 = 0) (w : World) :
    Calls Try.prog 5 #[.int .i64 n, .int .i64 a, .int .i64 b, .int .i64 how, .bool true] w fun e w' => e = .returned (.bool true) ∧ Below w.heap.size w w' := by
  obtain ⟨ii, hi, hzz⟩ := Option.map_eq_some_iff.1 infoOp
  simp only [Prod.mk.injEq] at hzz
  obtain ⟨hz0, hz1, hz2⟩ := hzz
  have N2 : 2 ≤ N := by omega
  have N13 : N ≤ 13 := by omega
  have B1 : 1 ≤ B := by have := Int.emod_nonneg b (show (N : Int) - 1 ≠ 0 by omega); omega
  have BN : B < N := by have := Int.emod_lt_of_pos b (show 0 < (N : Int) - 1 by omega); omega
  have AB : A < B := by have := Int.emod_lt_of_pos a (show 0 < (B : Int) by omega); omega
  have hF := first13_any w
  have c1 := fun w => number_any n 12 n0 n1 (by decide) (by decide) w
  have c2 := fun w => number_any b ((N : Int) - 1) b0 b1 (by omega) (by omega) w
  have c3 := fun w => number_any a (B : Int) a0 a1 (by omega) (by omega) w
  have c4 := fun w => number_any how 4 h0 h1 (by decide) (by decide) w
  have e1 : n % 12 = (N : Int) - 2 := by omega
  have e2 : b % ((N : Int) - 1) = (B : Int) - 1 := by omega
  rw [e1] at c1
  rw [e2] at c2
  rw [hA] at c3
  rw [hH] at c4
  have e3 : (N : Int) - 2 + 2 = (N : Int) := by omega
  have e4 : (B : Int) - 1 + 1 = (B : Int) := by omega
  have hbd : ∀ (j : Nat) w, (bdO #[(0, .int .i64 1), (1, .int .i64 4), (2, .int .u32 (4 * (j : Int)))]).run Try.prog w = .ok (.agg (opN (dpF j))) w := fun j w => bdO_3 1 4 (4 * (j : Int)) w
  have hbs : ∀ (j : Nat) w, (bsO 1 #[(0, .agg (opN (dpF j)))]).run Try.prog w = .ok (.slice (some ⟨w.heap.size, 0, none⟩) 1 1) (w.alloc (.cells (opsR [dpF j]) 30)) := fun j w => bsO_1 (dpF j) w
  have HH : Hid (Calls _ _ _ _ _ ∧ _ ∧ _ ∧ _ ∧ _) := ⟨hF, c1, c2, c3, c4⟩
  clear hF c1 c2 c3 c4 e1 e2 hN hB hA hH
  go_enter Try.func5, Try.ntmps5
  go_wp2_with (fail)
  refine HH.out.1.mono ?_
  rintro e w1 ⟨rfl, bw1⟩
  go_wp2_with (fail)
  refine (HH.out.2.1 _).mono ?_
  rintro e w1' ⟨rfl, rfl⟩
  go_wp2_with (fail)
  refine (HH.out.2.2.1 _).mono ?_
  rintro e w1' ⟨rfl, rfl⟩
  go_wp2_with (fail)
  refine (HH.out.2.2.2.1 _).mono ?_
  rintro e w1' ⟨rfl, rfl⟩
  go_wp2_with (fail)
  refine (HH.out.2.2.2.2 _).mono ?_
  rintro e w1' ⟨rfl, rfl⟩
  clear HH
  go_wp2
  go_loopw [12, 13] (fun l i wr => ∃ j : Nat, j ≤ N ∧ i = .int .i64 (j : Int) ∧ wr.ownsRow w.heap.size 30 13 l j (opsG dpF j) ∧ Below w.heap.size w wr) (fun _ i _ => N - (intOf i).toNat)
  case atStart => exact ⟨0, by omega, rfl, own_nil _ _ _, bw1⟩
  case round =>
    clear bw1
    obtain ⟨j, hj, rfl, hown, hbl⟩ := hrel
    by_cases hlt : j < N
    · have hjn : (j : Int) < (N : Int) := by omega
      have j13 : (j : Int) < 13 := by omega
      have hbd' := hbd j
      have hbs' := hbs j
      clear hbd hbs
      go_wp2_with (at_builtin; refine wpList_append_own _ rfl _ _ 22 rfl w.heap.size 30 ii (.agg (opN (W.op3 0 0 0))) 13 120 Try.underlying22 hi hz0 hz1 hz2 rfl (by decide) _ j (opsG dpF j) rfl ?c1 ⟨wr.heap.size, 0, none⟩ 1 1 (opN (dpF j)).toList rfl rfl ?c2 ?c3 ?c4 ?c5 ?c6 ?_)
      case c1 => exact hown.alloc _
      case c2 => exact news_op _ _
      case c3 => exact opN_one _
      case c4 => unfold maxLen; omega
      case c5 => omega
      case c6 => have := hbl.size; simp; omega
      intro v' w6 hown' hg _
      have b6 : Below w.heap.size w w6 := Below.grown (hbl.alloc hbl.size _) hg (by have := hbl.size; simp; omega) (fun b hb => (hown.lt b hb).1)
      have X : Hid (w6.ownsRow w.heap.size 30 13 v' (j + 1) (opsG dpF (j + 1)) ∧ Below w.heap.size w w6) := ⟨by rw [opsG_succ]; exact hown', b6⟩
      clear hown' hg b6 hown hbl hbd' hbs'
      go_wp2
      go_roundw
      case rel => exact ⟨j + 1, by omega, by go_num, X.out.1, X.out.2⟩
      case measure => simp [intOf]; omega
    · have e : j = N := by omega
      subst e
      obtain ⟨g, cap, rfl, hcap, hgb, hOw⟩ := own_ow hown (by omega)
      clear hown hbd hbs hi hz0 hz1 hz2
      have HO : Hid (_ ∧ _ ∧ _) := ⟨hOw, hbl, hgb⟩
      clear hOw hbl hgb
      have hBn : (B : Int) < (j : Int) := by omega
      have O1 := HO.out.1
      have gl := O1.b.lt
      have gf := O1.b.fz
      have gw := HO.out.2.2
      have q0 := O1.cell B 0 BN (by decide)
      generalize opF _ _ _ = v0 at q0
      rw [Nat.add_zero] at q0
      have O2 := O1.upd B 0 (by decide) (W.oz0 (W.op3 2 4 (4 * (B : Int)))) S3.nil (.int .i64 2) rfl (fun i hi hne => by
        match i, hi with
        | 0, _ => exact absurd rfl hne
        | 1, _ => rfl
        | 2, _ => rfl
        | 3, _ => rfl
        | 4, _ => rfl
        | 5, _ => rfl
        | 6, _ => rfl
        | 7, _ => rfl
        | 8, _ => rfl
        | 9, _ => rfl
        | 10, _ => rfl
        | 11, _ => rfl
        | 12, _ => rfl) (lg_nil _ _) (lg_nil _ _) (lg_nil _ _)
      have W2 := HO.out.2.1.setCell (p := ⟨g, B * 13 + 0, none⟩) gw (.int .i64 2)
      have qk := O1.cell B 10 BN (by decide)
      generalize opF _ _ _ = vk at qk
      have hsz : (wr.setCell ⟨g, B * 13 + 0, none⟩ (.int .i64 2)).heap.size = wr.heap.size := by simp [World.setCell]
      have O3 := O2.below ((Below.refl _ _).alloc (Nat.le_refl _) (.cells #[.int .i64 (A : Int)] 3))
      have lone : Lg g ⟨some ⟨wr.heap.size, 0, none⟩, 1, 1⟩ [(A : Int)] ((wr.setCell ⟨g, B * 13 + 0, none⟩ (.int .i64 2)).alloc (.cells #[.int .i64 (A : Int)] 3)) := ⟨by rw [← hsz]; exact li_one _ _ _, fun b o _ e => by cases e; omega⟩
      have O4 := O3.upd B 10 (by decide) ⟨W.op3 2 4 (4 * (B : Int)), [(A : Int)], [], []⟩ ⟨⟨some ⟨wr.heap.size, 0, none⟩, 1, 1⟩, W.Sl.nil, W.Sl.nil⟩ (.slice (some ⟨wr.heap.size, 0, none⟩) 1 1) rfl (fun i hi hne => by
        unfold updX updS
        rw [if_pos rfl, if_pos rfl]
        match i, hi with
        | 0, _ => rfl
        | 1, _ => rfl
        | 2, _ => rfl
        | 3, _ => rfl
        | 4, _ => rfl
        | 5, _ => rfl
        | 6, _ => rfl
        | 7, _ => rfl
        | 8, _ => rfl
        | 9, _ => rfl
        | 10, _ => exact absurd rfl hne
        | 11, _ => rfl
        | 12, _ => rfl) lone (lg_nil _ _) (lg_nil _ _)
      have W4 := (W2.alloc (by rw [hsz]; exact HO.out.2.1.size) (.cells #[.int .i64 (A : Int)] 3)).setCell (p := ⟨g, B * 13 + 10, none⟩) gw (.slice (some ⟨wr.heap.size, 0, none⟩) 1 1)
      rw [World.setCell_alloc_past _ _ _ _ (by rw [hsz]; exact gl)] at O4 W4
      have O5 := O4.congr (y := W.dpX true 0 A B) (fun q hq => by
        unfold updX W.dpX W.dpO
        by_cases e : q = B
        · subst e
          simp
          try rfl
        · simp [e]
          try rfl)
      have BW := W4
      have Y := fun W' (hb : Below _ _ W') (i k : Nat) (hik : i < k) (hk : k < j) => whyI_any _ j cap (W.dpX true 0 A B) W' ((O5.below hb).ol) (by omega) hcap (fun q hq => dpX_ok true 0 A B q (by omega) (by omega)) (i : Int) (k : Int) (by omega) (by omega) (by omega) (by omega)
      have Z := fun W' (hb : Below _ _ W') (i k : Int) (hi : -1 ≤ i) (hi2 : i ≤ 100) (hk : 0 ≤ k) (hk2 : k ≤ 100) => whyI_any _ j cap (W.dpX true 0 A B) W' ((O5.below hb).ol) (by omega) hcap (fun q hq => dpX_ok true 0 A B q (by omega) (by omega)) i k (by omega) (by omega) (by omega) (by omega)
      have Y2 : ∀ W', Below _ _ W' → ∀ (i k : Nat), i < k → k < j → Calls _ _ _ W' (fun e w' => e = .returned (.int .i64 (if i = A ∧ k = B then 9 else 0)) ∧ Below W'.heap.size W' w') := fun W' hb i k hik hk => by
        have q := Y W' hb i k hik hk
        unfold W.whyI at q
        rw [if_pos ⟨by omega, by omega, by omega⟩, Int.toNat_natCast, Int.toNat_natCast, W.dep_why _ _ _ _ AB _ _ hik (by omega)] at q
        exact q
      have Z2 : ∀ W', Below _ _ W' → ∀ (i k : Int), -1 ≤ i → i ≤ 100 → 0 ≤ k → k ≤ 100 → ¬ (0 ≤ i ∧ i < k ∧ k < (j : Int)) → Calls _ _ _ W' (fun e w' => e = .returned (.int .i64 0) ∧ Below W'.heap.size W' w') := fun W' hb i k g1 g2 g3 g4 hn => by
        have q := Z W' hb i k g1 g2 g3 g4
        unfold W.whyI at q
        rw [if_neg hn] at q
        exact q
      have HY : Hid (_ ∧ _ ∧ _) := ⟨Y2, Z2, BW⟩
      clear Y Y2 Z Z2 BW O5 O1 O2 W2 O3 O4 lone W4 hsz 
      try simp only [Nat.add_zero] at HY
      go_wp2
      generalize World.alloc _ _ = W9 at *
      clear gl gf gw HO q0 qk
      go_loopw [15] (fun t wx => ∃ i : Nat, i ≤ j ∧ t = .int .i64 (i : Int) ∧ Below W9.heap.size W9 wx) (fun t _ => j - (intOf t).toNat)
      case atStart => exact ⟨0, by omega, rfl, Below.refl _ _⟩
      case round =>
        rename_i wx _
        obtain ⟨i, hi, rfl, bx⟩ := hrel
        by_cases hlt : i < j
        · have hin : (i : Int) < (j : Int) := by omega
          go_wp2
          go_loopw [16] (fun t wy => ∃ k : Nat, i + 1 ≤ k ∧ k ≤ j ∧ t = .int .i64 (k : Int) ∧ Below W9.heap.size W9 wy) (fun t _ => j - (intOf t).toNat)
          case atStart => exact ⟨i + 1, by omega, by omega, by go_num, bx⟩
          case round =>
            obtain ⟨k, hk1, hk2, rfl, bz⟩ := hrel
            by_cases hlk : k < j
            · have hC := HY.out.1 _ bz i k (by omega) hlk
              have hkn : (k : Int) < (j : Int) := by omega
              by_cases eA : i = A
              · have rA : ((i : Int) == (A : Int)) = true := by simp [eA]
                by_cases eB : k = B
                · have rB : ((k : Int) == (B : Int)) = true := by simp [eB]
                  rw [if_pos ⟨eA, eB⟩] at hC
                  have HC : Hid (Calls _ _ _ _ _) := hC
                  clear hC eA eB
                  go_wp2_with (fail)
                  refine HC.out.mono ?_
                  rintro e w2 ⟨rfl, b2⟩
                  have b3 := bz.trans (b2.mono bz.size)
                  clear bz b2 HC
                  go_wp2
                  go_roundw
                  case rel => exact ⟨k + 1, by omega, by omega, by go_num, b3⟩
                  case measure => simp [intOf]; omega
                · have rB : ((k : Int) == (B : Int)) = false := by simp; omega
                  rw [if_neg (fun h => eB h.2)] at hC
                  have HC : Hid (Calls _ _ _ _ _) := hC
                  clear hC eA eB
                  go_wp2_with (fail)
                  refine HC.out.mono ?_
                  rintro e w2 ⟨rfl, b2⟩
                  have b3 := bz.trans (b2.mono bz.size)
                  clear bz b2 HC
                  go_wp2
                  go_roundw
                  case rel => exact ⟨k + 1, by omega, by omega, by go_num, b3⟩
                  case measure => simp [intOf]; omega
              · have rA : ((i : Int) == (A : Int)) = false := by simp; omega
                rw [if_neg (fun h => eA h.1)] at hC
                have HC : Hid (Calls _ _ _ _ _) := hC
                clear hC eA
                go_wp2_with (fail)
                refine HC.out.mono ?_
                rintro e w2 ⟨rfl, b2⟩
                have b3 := bz.trans (b2.mono bz.size)
                clear bz b2 HC
                go_wp2
                go_roundw
                case rel => exact ⟨k + 1, by omega, by omega, by go_num, b3⟩
                case measure => simp [intOf]; omega
            · have hkn : ¬ (k : Int) < (j : Int) := by omega
              go_wp2
              go_roundw
              case rel => exact ⟨i + 1, by omega, by go_num, bz⟩
              case measure => simp [intOf]; omega
        · have hin : ¬ (i : Int) < (j : Int) := by omega
          have z1 := HY.out.2.1 _ bx (B : Int) (A : Int) (by omega) (by omega) (by omega) (by omega) (by omega)
          have z2 := fun W' hb => HY.out.2.1 W' hb (A : Int) (A : Int) (by omega) (by omega) (by omega) (by omega) (by omega)
          have z3 := fun W' hb => HY.out.2.1 W' hb (-1) (B : Int) (by omega) (by omega) (by omega) (by omega) (by omega)
          have z4 := fun W' hb => HY.out.2.1 W' hb (A : Int) (j : Int) (by omega) (by omega) (by omega) (by omega) (by omega)
          have HZ : Hid (Calls _ _ _ _ _ ∧ _ ∧ _ ∧ _) := ⟨z1, z2, z3, z4⟩
          clear z1 z2 z3 z4
          go_wp2_with (fail)
          refine HZ.out.1.mono ?_
          rintro e w2 ⟨rfl, b2⟩
          have c2 := bx.trans (b2.mono bx.size)
          clear b2 bx
          go_wp2_with (fail)
          refine (HZ.out.2.1 _ c2).mono ?_
          rintro e w3 ⟨rfl, b3⟩
          have c3 := c2.trans (b3.mono c2.size)
          clear b3 c2
          go_wp2_with (fail)
          refine (HZ.out.2.2.1 _ c3).mono ?_
          rintro e w4 ⟨rfl, b4⟩
          have c4 := c3.trans (b4.mono c3.size)
          clear b4 c3
          go_wp2_with (fail)
          refine (HZ.out.2.2.2 _ c4).mono ?_
          rintro e w5 ⟨rfl, b5⟩
          have c5 := HY.out.2.2.trans ((c4.trans (b5.mono c4.size)).mono HY.out.2.2.size)
          clear b5 c4
          go_wp2
          go_ret
          exact ⟨rfl, c5⟩
end Go.Proofs.Ytopcejohnofelaa
