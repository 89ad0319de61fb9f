/- Texts in one: HartZeroWalk. -/
import Derived.Test.YtpgegcboaicnaaaGreatDoorJ42
/- HartZero, walked: it returns true, whatever the register and the number. -/
namespace Go.Proofs.YtpgegcboaicnaaaGreatDoor
open Go.ChangeShapes Go.WideShapes Go.ChangeAt Go.RowKit
set_option linter.unusedVariables false
set_option linter.unusedSimpArgs false

/-- An event that tells a word alone. -/
def W.evw (x : Int) : W.Ev := ⟨1, 0, x, 0, 0, 0, W.Sl.nil, W.Sl.nil, 0, 0, false, 0, 0⟩
theorem rrun_lui (id by_ r v x : Int) (hb : 4 ≤ by_) (hd : W.decB x = true) (hi : W.decI x = W.in5 1 r 0 0 v) (B U A V : Nat → Int) : W.rrun (W.H0 id by_) (W.evw x) 0 B U 0 A V = ⟨{ W.hput (W.H0 id by_) r v with pc := 4 }, W.evw x, { W.wd0 (W.H0 id by_) (W.evw x) with k := 1 }, W.Ef.no⟩ := by
  rw [W.rrun_dec (W.H0 id by_) (W.evw x) rfl rfl (by show (0 : Int) + 4 ≤ by_; omega) rfl hd B U 0 A V]
  show W.sdo _ (W.decI x) 0 A V = _
  rw [hi]
  exact W.sdo_reck (W.H0 id by_) (W.evw x) (W.in5 1 r 0 0 v) 0 A V (show (decide (1 ≤ W.kind 1) && decide (W.kind 1 ≤ 3)) = true by decide +kernel) 4 v rfl rfl (by decide)

set_option maxHeartbeats 1600000 in
theorem hartzero_walk (E : Addr) (rd imm : Int) (r0 : -9223372036854775808 ≤ rd) (r1 : rd ≤ 9223372036854775807) (i0 : 0 ≤ imm) (i1 : imm < 4294967296) (w : World) (hE : Tr E w) :
    Calls Tryz.prog 5 #[.int .i64 rd, .int .u32 imm] w fun e w' => e = .returned (.bool true) ∧ Below w.heap.size w w' := by
  have hv0 := W.off_fff imm i0 i1
  have hvr := W.andNot_lt imm 4095
  have hnum := fun w => number_any rd 32 r0 r1 (by decide) (by decide) w
  have q0 : 0 ≤ rd % 32 := by omega
  have q1 : rd % 32 < 32 := by omega
  generalize rd % 32 = r at *
  obtain ⟨v, hv⟩ : ∃ v, bits .andNot .u32 imm 4095 = v := ⟨_, rfl⟩
  rw [hv] at hv0 hvr
  have hE0 := W.enc_lui r v imm q0 q1 i0 i1 hv0
  obtain ⟨hd, hi, hx, hz⟩ := W.word_of hE0
  have hwd := fun w => cword_any 1 r 0 0 v hvr.1 hvr.2 _ hE0 rfl w
  have hrr := rrun_lui 1 256 r v _ (by decide) hd hi
  generalize W.encV (W.in5 1 r 0 0 v) = x at *
  have hK := W.hput_ok (H0_ok 1 256) r v 4 hvr ⟨by decide, by decide⟩
  have hrep := fun c w1 (k : HAt c (W.H0 1 256) w1) (k2 : Tr E w1) => replay_y c (W.H0 1 256) _ (W.evw x) W.Ef.no E (H0_ok 1 256) hx rfl rfl _ hrr rfl rfl (by exact W.same_plain (W.H0 1 256) (W.evw x) 0 0 0 0 1 false rfl rfl rfl rfl rfl rfl rfl rfl rfl (by decide)) w1 k k2
  have hxg : ∀ c w1, HAt c { W.hput (W.H0 1 256) r v with pc := 4 } w1 → ∀ i, Calls Tryz.prog 20 #[.pointer (some ⟨c, 0, none⟩), .int .i64 i] w1 fun z w' => z = .returned (.int .u32 (W.xget { W.hput (W.H0 1 256) r v with pc := 4 } i)) ∧ w1 = w' := fun c w1 k i => x_any c _ i w1 k.xh
  have hpc : ∀ c w1, HAt c { W.hput (W.H0 1 256) r v with pc := 4 } w1 → Calls Tryz.prog 24 #[.pointer (some ⟨c, 0, none⟩)] w1 fun z w' => z = .returned (.int .u32 4) ∧ w1 = w' := fun c w1 k => pc_any c _ w1 k
  have hN := hnew_any 1 256
  have hF := first10_any E w hE
  have xin : ∀ j : Nat, j < 32 → W.xget { W.hput (W.H0 1 256) r v with pc := 4 } (j : Int) = if r ≠ 0 ∧ (j : Int) = r then v else 0 := fun j hj => by
    rw [W.xget_put _ r v 4 j (by omega) (by omega)]
    have : W.xget (W.H0 1 256) (j : Int) = 0 := by
      unfold W.xget W.H0
      cases decide ((j : Int) < 0) <;> cases decide (32 ≤ (j : Int)) <;> rfl
    rw [this]
  have xm : W.xget { W.hput (W.H0 1 256) r v with pc := 4 } (-1) = 0 := W.xget_out _ _ (by decide)
  have xp : W.xget { W.hput (W.H0 1 256) r v with pc := 4 } 32 = 0 := W.xget_out _ _ (by decide)
  simp only [evCells, efCells, W.evw, W.Ef.no, W.Sl.nil] at hrep
  clear hrr hd hi hK hx
  generalize W.H0 1 256 = h0 at *
  generalize ({ W.hput h0 r v with pc := 4 } : W.Ht) = K at *
  have HH : Hid (_ ∧ _ ∧ _ ∧ _ ∧ _ ∧ _ ∧ _) := ⟨hF, hnum, hN, hwd, hrep, hxg, hpc⟩
  have HX : Hid (_ ∧ _ ∧ _) := ⟨xin, xm, xp⟩
  clear hF hnum hN hwd hrep hxg hpc xin xm xp hE0 hv0
  have hw0 := hE.lt
  have HE : Hid (Tr E w) := hE
  clear hE
  go_enter Tryz.func5, Tryz.ntmps5
  go_wp2_with (fail)
  refine HH.out.1.mono ?_
  rintro e w1 ⟨rfl, b1⟩
  go_wp2_with (fail)
  refine (HH.out.2.1 w1).mono ?_
  rintro e w1' ⟨rfl, rfl⟩
  go_wp2_with (fail)
  refine (HH.out.2.2.1 w1).mono ?_
  rintro e w2 ⟨c, hc, rfl, k2, b2⟩
  have S2 := Hb.new (HE.out.below b1) hc k2 b2
  clear k2 b2
  go_wp2_with (fail)
  refine (HH.out.2.2.2.1 w2).mono ?_
  rintro e w3 ⟨rfl, b3⟩
  have S3 := S2.below b3
  clear S2 b3
  go_wp2_with (fail)
  refine (HH.out.2.2.2.2.1 c _ S3.k S3.t).mono ?_
  rintro e w4 ⟨rfl, k4, g4⟩
  have S4 := S3.step k4 g4
  clear S3 k4 g4
  have hl4 := S4.k.lt
  go_wp2_with (fail)
  have S5 := S4.alloc (.cells #[.int .i64 0, .int .u32 0, .int .i64 0, .int .u32 0, .bool false, .bool false, .bool false] 35)
  clear S4 hl4
  generalize World.alloc w4 (.cells #[.int .i64 0, .int .u32 0, .int .i64 0, .int .u32 0, .bool false, .bool false, .bool false] 35) = W5 at *
  have hl5 := S5.k.lt
  go_loopw [10] (fun i wr => ∃ j : Nat, j ≤ 32 ∧ i = .int .i64 (j : Int) ∧ wr = W5) (fun i _ => (32 - intOf i).toNat)
  case atStart => exact ⟨0, by omega, rfl, rfl⟩
  case round =>
    obtain ⟨j, hj, rfl, rfl⟩ := hrel
    by_cases hlt : j < 32
    · have hxj := HX.out.1 j hlt
      have hcx := HH.out.2.2.2.2.2.1 c wr S5.k (j : Int)
      rw [hxj] at hcx
      by_cases h1 : (j : Int) = r
      · have e1 : ((j : Int) == r) = true := by simp [h1]
        by_cases h2 : r = 0
        · have e2 : (r != 0) = false := by simp [h2]
          rw [if_neg (by rintro ⟨h, _⟩; exact h h2)] at hcx
          have HC : Hid (Calls _ _ _ _ _) := hcx
          clear hcx hxj h1 h2
          go_wp2_with (go_at_call 20; refine HC.out.mono ?_; rintro e w' ⟨rfl, rfl⟩)
          go_roundw
          case rel => exact ⟨j + 1, by omega, by go_num, by first | trivial | rfl⟩
          case measure => simp [intOf]; omega
        · have e2 : (r != 0) = true := by simp [h2]
          rw [if_pos ⟨h2, h1⟩] at hcx
          have HC : Hid (Calls _ _ _ _ _) := hcx
          clear hcx hxj h1 h2
          go_wp2_with (go_at_call 20; refine HC.out.mono ?_; rintro e w' ⟨rfl, rfl⟩)
          go_roundw
          case rel => exact ⟨j + 1, by omega, by go_num, by first | trivial | rfl⟩
          case measure => simp [intOf]; omega
      · have e1 : ((j : Int) == r) = false := by simp [h1]
        rw [if_neg (by rintro ⟨_, h⟩; exact h1 h)] at hcx
        have HC : Hid (Calls _ _ _ _ _) := hcx
        clear hcx hxj h1
        go_wp2_with (go_at_call 20; refine HC.out.mono ?_; rintro e w' ⟨rfl, rfl⟩)
        go_roundw
        case rel => exact ⟨j + 1, by omega, by go_num, by first | trivial | rfl⟩
        case measure => simp [intOf]; omega
    · have hk' : j = 32 := by omega
      subst hk'
      have hc1 := HH.out.2.2.2.2.2.1 c wr S5.k (-1)
      have hc2 := HH.out.2.2.2.2.2.1 c wr S5.k 32
      rw [HX.out.2.1] at hc1
      rw [HX.out.2.2] at hc2
      have hc3 := HH.out.2.2.2.2.2.2 c wr S5.k
      have HC : Hid (_ ∧ _ ∧ _) := ⟨hc1, hc2, hc3⟩
      clear hc1 hc2 hc3
      go_wp2_with (fail)
      refine HC.out.2.2.mono ?_
      rintro e w' ⟨rfl, rfl⟩
      go_wp2_with (fail)
      refine HC.out.1.mono ?_
      rintro e w' ⟨rfl, rfl⟩
      go_wp2_with (fail)
      refine HC.out.2.1.mono ?_
      rintro e w' ⟨rfl, rfl⟩
      go_wp2
      go_ret
      exact ⟨rfl, b1.trans (S5.b.mono b1.size)⟩
end Go.Proofs.YtpgegcboaicnaaaGreatDoor
