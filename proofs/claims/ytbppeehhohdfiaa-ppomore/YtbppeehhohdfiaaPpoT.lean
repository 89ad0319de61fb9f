/- Why. -/
import Derived.Test.YtbppeehhohdfiaaPpoT0
import Derived.Test.YtbppeehhohdfiaaPpoQ
import Derived.Test.YtbppeehhohdfiaaPpoS
namespace Go.Proofs.Ytbppeehhohdfiaa
open Go.ChangeShapes Go.WideShapes Go.ChangeAt Go.RowKit
set_option linter.unusedVariables false
set_option linter.unusedSimpArgs false

/-- Operations whose numbers are such as a Go value's. -/
structure W.OzOk (z : W.Oz) : Prop where
  z0 : -9223372036854775808 ≤ z.o.sz
  z1 : z.o.sz ≤ 9223372036854775807
  a0 : 0 ≤ z.o.ad
  a1 : z.o.ad < 4294967296
theorem W.actO_sp (o : W.Opr) (h0 : 0 ≤ o.ad) (h1 : o.ad < 4294967296) : W.SpOk (W.actO o).p := by
  unfold W.actO
  cases (o.k == 4)
  · exact W.spn_ok o h0 h1
  · exact ⟨Int.le_refl _, (by decide : (0 : Int) < 4294967296), Int.le_refl _, (by decide : (0 : Int) ≤ 4294967296)⟩
theorem W.acts_sp (x : Nat → W.Oz) (b j : Nat) (h : W.OzOk (x j)) : W.SpOk (W.acts x b j).p := W.actO_sp _ h.a0 h.a1
theorem Ol.less {a : Option Addr} {n m : Nat} {x : Nat → W.Oz} {w : World} (h : Ol a n x w) (hm : m ≤ n) : Ol a m x w := ⟨fun h0 => by
  obtain ⟨g, o, e, hx⟩ := h.at_ (by omega)
  exact ⟨g, o, e, fun j hj => hx j (by omega)⟩⟩
set_option maxHeartbeats 1600000 in
theorem whyI_any (a : Option Addr) (n c : Nat) (x : Nat → W.Oz) (w : World) (hO : Ol a n x w) (hn : n ≤ 4000) (hc : n ≤ c) (hz : ∀ j, j < n → W.OzOk (x j)) (i k : Int) (i0 : -9223372036854775808 ≤ i) (i1 : i ≤ 9223372036854775807) (k0 : -9223372036854775808 ≤ k) (k1 : k ≤ 9223372036854775807) :
    Calls Try.prog 12 #[.slice a n c, .int .i64 i, .int .i64 k] w fun e w' => e = .returned (.int .i64 (W.whyI x n i k)) ∧ Below w.heap.size w w' := by
  unfold W.whyI
  by_cases h0 : 0 ≤ i
  · by_cases h1 : i < k
    · by_cases h2 : k < (n : Int)
      · rw [if_pos ⟨h0, h1, h2⟩]
        obtain ⟨p, rfl⟩ := Int.eq_ofNat_of_zero_le h0
        obtain ⟨b, rfl⟩ := Int.eq_ofNat_of_zero_le (show 0 ≤ k by omega)
        rw [Int.toNat_natCast, Int.toNat_natCast]
        have hpb : p < b := by omega
        have hbn : b < n := by omega
        obtain ⟨g, o, rfl, hx⟩ := hO.at_ (by omega)
        have hLk := lookAt_any (some ⟨g, o, none⟩) (b + 1) c x w (hO.less (by omega)) (by omega) (fun j hj => ⟨(hz j (by omega)).z0, (hz j (by omega)).z1⟩)
        have sm := W.whyO_sm x p b
        have hwy : W.whyO x p b = bif W.a8 (W.acts x b b).t 4 != 0 then 0 else W.rulA (W.acts x b) x b (W.pairO x b) p := rfl
        have HH : Hid (Calls _ _ _ _ _ ∧ _ ∧ _ ∧ _) := ⟨hLk, hx, hz, hwy⟩
        clear hLk hx hz hO hwy
        generalize W.whyO x p b = WY at *
        have hc1 : b + 1 ≤ c := by omega
        have hc2 : (b : Int) + 1 ≤ (c : Int) := by omega
        go_enter Try.func12, Try.ntmps12
        go_wp2_with (fail)
        refine HH.out.1.mono ?_
        rintro e w1 ⟨kb, ab, pb, rb, hb, rfl, L1⟩
        have L1' : Lk w (kdU kb ab pb rb hb (b + 1) (.slice (some ⟨g, o, none⟩) (b + 1) c) (W.pairO x) (W.acts x 0)) w1 := Lk.congrA (d := kdU kb ab pb rb hb (b + 1) (.slice (some ⟨g, o, none⟩) (b + 1) c) (W.pairO x) (W.acts x 0)) (A := fun i => W.actO (x i).o) L1 (fun i _ => (W.acts_zero x i).symm)
        have HL1 : Hid _ := L1'
        clear L1 L1'
        go_wp2
        go_loopw [28] (fun t wr => ∃ m : Nat, m ≤ b ∧ t = .int .i64 (m : Int) ∧ Lk w (kdU kb ab pb rb hb (b + 1) (.slice (some ⟨g, o, none⟩) (b + 1) c) (W.pairO x) (W.acts x m)) wr) (fun t _ => b - (intOf t).toNat)
        case atStart => exact ⟨0, by omega, rfl, HL1.out⟩
        case round =>
          clear HL1
          obtain ⟨m, hm, rfl, hL⟩ := hrel
          by_cases hlt : m < b
          · have hLd := lead_any w _ wr hL m (by show m < b + 1; omega) (by show b + 1 ≤ 4096; omega) (fun i => W.acts_rg x m i) g o c rfl (x m) (HH.out.2.1 m (by omega))
            have HD : Hid (Calls _ _ _ _ _) := hLd
            clear hLd hL
            go_wp2_with (fail)
            refine HD.out.mono ?_
            rintro e w2 ⟨rfl, L2⟩
            have L3 := Lk.congrA (d := kdU kb ab pb rb hb (b + 1) (.slice (some ⟨g, o, none⟩) (b + 1) c) (W.pairO x) (W.acts x m)) (B := W.acts x (m + 1)) L2 (fun i _ => W.acts_succ x m i)
            have HL3 : Hid _ := L3
            clear L2 L3 HD
            go_wp2
            go_roundw
            case rel => exact ⟨m + 1, by omega, by go_num, HL3.out⟩
            case measure => simp [intOf]; omega
          · have e : m = b := by omega
            subst e
            have hBk := back_any w _ wr hL m p hpb (by show m < m + 1; omega) (by show m + 1 ≤ 4000; omega) rfl rfl rfl rfl g o c rfl x (fun j hj => HH.out.2.1 j (by omega)) (fun j hj => W.acts_sp x m j (HH.out.2.2.1 j (by have : j < m + 1 := hj; omega)))
            unfold kdU at hBk
            dsimp only at hBk
            rw [← HH.out.2.2.2] at hBk
            have HB : Hid (Calls _ _ _ _ _) := hBk
            clear hBk hL
            go_wp2_with (fail)
            refine HB.out.mono ?_
            rintro e w2 ⟨rfl, B2, K2, H2, hid2, G2, R2, L2, hR⟩
            have c3 := L2.k.c 3 (by decide)
            have kl := L2.k.lt
            have rp := L2.r.c p (by show p < m + 1; omega)
            have rl := L2.r.lt
            simp only [Kd.f] at c3 kl rp rl
            rw [hR] at rp
            have bl := L2.bl
            have s0 := sm.1
            have s1 : WY < 256 := by have := sm.2; omega
            have hp1 : (p : Int) < (m : Int) + 1 := by omega
            clear L2 hR HB sm
            go_wp2
            go_ret
            exact ⟨rfl, bl⟩
      · rw [if_neg (fun h => h2 h.2.2)]
        clear hO hz
        go_enter Try.func12, Try.ntmps12
        go_wp2
        go_ret
        exact ⟨rfl, Below.refl _ _⟩
    · rw [if_neg (fun h => h1 h.2.1)]
      clear hO hz
      go_enter Try.func12, Try.ntmps12
      go_wp2
      go_ret
      exact ⟨rfl, Below.refl _ _⟩
  · rw [if_neg (fun h => h0 h.1)]
    clear hO hz
    go_enter Try.func12, Try.ntmps12
    go_wp2
    go_ret
    exact ⟨rfl, Below.refl _ _⟩
end Go.Proofs.Ytbppeehhohdfiaa
