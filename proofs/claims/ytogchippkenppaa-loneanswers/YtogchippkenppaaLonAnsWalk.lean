/- LoneAnswers: the walk. -/
import Derived.Test.YtogchippkenppaaLonG
import Derived.Test.YtogchippkenppaaLonL
import Derived.Test.YtogchippkenppaaLonK
import Derived.Test.YtogchippkenppaaLonS
namespace Go.Proofs.Ytogchippkenppaa
open Go.ChangeShapes Go.WideShapes Go.ChangeAt Go.RowKit
set_option linter.unusedVariables false
set_option linter.unusedSimpArgs false
attribute [local go_sem ↓] ldM_eq stM_eq bdM_eq bsM_eq
variable {n0 b : Nat} {s s' : W.Lo} {w w' w'' w0 w2 : World}

theorem number_eq (n m : Int) (m0 : 0 < m) (m1 : m < 2147483648) : (wrap64 (n.tmod m + m)).tmod m = n % m := by
  have h0 := Int.emod_nonneg n (by omega : m ≠ 0)
  have h1 := Int.emod_lt_of_pos n m0
  have ht : n.tmod m = n % m ∨ n.tmod m = n % m - m := by
    rw [Int.tmod_eq_emod]
    split
    · left; omega
    · right; omega
  have hw : wrap64 (n.tmod m + m) = n.tmod m + m := by
    unfold wrap64
    omega
  rw [hw]
  rcases ht with h | h
  · rw [h, Int.tmod_eq_emod_of_nonneg (by omega), Int.add_emod_right, Int.emod_emod]
  · rw [h, Int.sub_add_cancel, Int.tmod_eq_emod_of_nonneg h0, Int.emod_emod]
set_option maxRecDepth 10000 in
set_option maxHeartbeats 1600000 in
theorem ans_long (a : Option Addr) (n c : Nat) (hn : 20 < n) (hn2 : n ≤ maxLen) (k x0 x1 x2 x3 : Int) (w : World) :
    Calls Try.prog 4 #[.slice a n c, .int .i64 k, .agg #[.int .u32 x0, .int .u32 x1, .int .u32 x2, .int .u32 x3]] w fun e w' => e = .returned (.bool true) ∧ Below w.heap.size w w' := by
  have hb1 := below_alloc w (.cells #[.int .u32 x0, .int .u32 x1, .int .u32 x2, .int .u32 x3] 29)
  have HB : Hid (_) := hb1
  have hgt : (20 : Int) < n := by omega
  clear hb1
  go_enter Try.func4, Try.ntmps4
  go_wp2_with (fail)
  generalize World.alloc w _ = W1 at *
  refine (first19_any W1).mono ?_
  rintro e w1 ⟨rfl, hb1⟩
  have HB1 : Hid (_) := HB.out.trans (hb1.mono HB.out.size)
  clear hb1
  go_wp2_with (fail)
  go_ret
  exact ⟨rfl, HB1.out⟩

theorem bdM_a (x0 x1 x2 x3 : Int) (wr : Bool) (w : World) : (bdM #[(0, .int .i64 7), (2, .int .i64 (-1)), (5, .bool true), (4, .agg #[.int .u32 x0, .int .u32 x1, .int .u32 x2, .int .u32 x3]), (7, .bool wr)]).run Try.prog w = .ok (mgV ⟨7, 0, -1, 0, x0, x1, x2, x3, true, false, wr⟩) w := by kernel_rfl
theorem bdM_k (k : Int) (w : World) : (bdM #[(0, .int .i64 k), (2, .int .i64 (-1))]).run Try.prog w = .ok (mgV (W.dn0 k)) w := by kernel_rfl
set_option maxRecDepth 10000 in
set_option maxHeartbeats 3200000 in
theorem ans_small (sl : W.Sl) (q : Nat → W.Do) (hn : sl.n ≤ 20) (kk x0 x1 x2 x3 : Int) (w : World) (hO : 0 < sl.n → ∃ b o, sl.a = some ⟨b, o, none⟩ ∧ b < w.heap.size ∧ ∀ j, j < sl.n → w.rangeAt b (o + j * 17) (doL (q j))) :
    Calls Try.prog 4 #[slV sl, .int .i64 kk, .agg #[.int .u32 x0, .int .u32 x1, .int .u32 x2, .int .u32 x3]] w fun e w' => e = .returned (.bool true) ∧ Below w.heap.size w w' := by
  obtain ⟨a, N, c⟩ := sl
  dsimp only at hn hO
  unfold slV
  dsimp only
  have hba := below_alloc w (.cells #[.int .u32 x0, .int .u32 x1, .int .u32 x2, .int .u32 x3] 29)
  have la : Rw w.heap.size #[.int .u32 x0, .int .u32 x1, .int .u32 x2, .int .u32 x3] 29 (w.alloc (.cells #[.int .u32 x0, .int .u32 x1, .int .u32 x2, .int .u32 x3] 29)) := rw_new w _ _
  have HB : Hid (Below w.heap.size w _ ∧ Rw w.heap.size #[.int .u32 x0, .int .u32 x1, .int .u32 x2, .int .u32 x3] 29 _) := ⟨hba, la⟩
  have HO : Hid (_) := hO
  have hle : (N : Int) ≤ 20 := by omega
  have HNs : Hid (N ≤ 20) := hn
  clear hba la hO hn
  go_enter Try.func4, Try.ntmps4
  go_wp2_with (fail)
  generalize World.alloc w _ = W1 at *
  refine (first19_any W1).mono ?_
  rintro e w1 ⟨rfl, hb1⟩
  have HB1 : Hid (Below w.heap.size w w1 ∧ Rw w.heap.size #[.int .u32 x0, .int .u32 x1, .int .u32 x2, .int .u32 x3] 29 w1) := ⟨HB.out.1.trans (hb1.mono HB.out.1.size), HB.out.2.below hb1⟩
  clear hb1 HB
  go_wp2_with (fail)
  refine (new_any 0 0 w1).mono ?_
  rintro e w2 ⟨rfl, hH, hb⟩
  have HH : Hid (Lq w1.heap.size w1.heap.size (W.lo0 0 0) w1 w2 ∧ w.heap.size < w1.heap.size) := ⟨Lq.new 0 0 w1 w2 hH hb, HB1.out.2.lt⟩
  have HN : Hid (∀ wz : World, Below w1.heap.size w1 wz → Below w.heap.size w wz) := fun wz h => HB1.out.1.trans (h.mono HB1.out.1.size)
  have HL : Hid (∀ wz : World, Below w1.heap.size w1 wz → Rw w.heap.size #[.int .u32 x0, .int .u32 x1, .int .u32 x2, .int .u32 x3] 29 wz) := fun wz h => HB1.out.2.below h
  have HD : Hid (∀ j, j < N → ∃ b o, a = some ⟨b, o, none⟩ ∧ b < w1.heap.size ∧ ∀ wz : World, Below w1.heap.size w1 wz → wz.rangeAt b (o + j * 17) (doL (q j))) := fun j hj => by
    obtain ⟨b, o, e, hl, hr⟩ := HO.out (by omega)
    exact ⟨b, o, e, Nat.lt_of_lt_of_le hl HB1.out.1.size, fun wz h => range_below (hr j hj) (HB1.out.1.trans (h.mono HB1.out.1.size)) hl⟩
  clear hH hb HB1 HO
  generalize w.heap.size = db at HH HL ⊢
  generalize w1.heap.size = b at HH HN HL HD ⊢
  go_wp2_with (fail)
  go_loopw [9, 10, 11] (fun d k i wr => ∃ (j : Nat) (s : W.Lo) (D K : Bool), j ≤ N ∧ d = .bool D ∧ k = .bool K ∧ i = .int .i64 j ∧ Lq b b s w1 wr ∧ W.An x0 x1 x2 x3 s D K) (fun _ _ i _ => N - (intOf i).toNat)
  case atStart => exact ⟨0, _, _, _, by omega, rfl, rfl, rfl, HH.out.1, W.An.i⟩
  case round =>
    obtain ⟨j, s, D, K, hj, rfl, rfl, rfl, hL, hA⟩ := hrel
    have HR : Hid (Lq b b s w1 wr ∧ W.An x0 x1 x2 x3 s D K ∧ db < b) := ⟨hL, hA, HH.out.2⟩
    clear hL hA HH
    by_cases hlt : j < N
    · have hjn : (j : Int) < N := by omega
      have hj0 : (0 : Int) ≤ j := by omega
      obtain ⟨bl, o, rfl, hbl, hrd⟩ := HD.out j hlt
      have HRD : Hid (∀ wz : World, Below b w1 wz → wz.cell? ⟨bl, o + j * 17, none⟩ = some (.int .i64 (q j).k) ∧ wz.cell? ⟨bl, o + j * 17 + 1, none⟩ = some (.bool (q j).wr)) := fun wz h => ⟨hrd wz h 0 _ rfl, hrd wz h 1 _ rfl⟩
      clear hrd hbl
      generalize (q j).k = k at *
      generalize (q j).wr = wt at *
      have c0 := (HRD.out wr HR.out.1.b).1
      have c1 := (HRD.out wr HR.out.1.b).2
      have y0 := (HL.out wr HR.out.1.b).c 0 rfl
      have y1 := (HL.out wr HR.out.1.b).c 1 rfl
      have y2 := (HL.out wr HR.out.1.b).c 2 rfl
      have y3 := (HL.out wr HR.out.1.b).c 3 rfl
      by_cases k1 : k = 1
      · subst k1
        rcases HR.out.2.1.ask wt with ha | ⟨s1, m, ha, hA1⟩
        · have HA : Hid (s.ask wt = (s, [], false)) := ha
          clear ha
          go_wp2_with (fail)
          refine (HR.out.1.ask wt).mono ?_
          rintro e w3 ⟨sl, rfl, r⟩
          rw [HA.out] at r ⊢
          have HF : Hid (Lq b b s w1 w3 ∧ W.An x0 x1 x2 x3 s D K) := ⟨r.q, HR.out.2.1⟩
          clear r HR HA c0 c1 y0 y1 y2 y3
          go_wp2_with (fail)
          go_roundw
          case rel => exact ⟨j + 1, s, D, K, by omega, rfl, rfl, by go_num, HF.out.1, HF.out.2⟩
          case measure => simp [intOf]; omega
        · have HA : Hid (s.ask wt = (s1, [m], true) ∧ W.An x0 x1 x2 x3 (s1.take ⟨7, 0, -1, 0, x0, x1, x2, x3, true, false, wt⟩).1 D K) := ⟨ha, hA1⟩
          clear ha hA1
          go_wp2_with (fail)
          refine (HR.out.1.ask wt).mono ?_
          rintro e w3 ⟨sl, rfl, r⟩
          rw [HA.out.1] at r ⊢
          obtain ⟨g1, o1, cc1, rfl, l1, n1, q1⟩ := r.one HR.out.1.h.lt
          have HF : Hid (Lq b b s1 w1 w3) := r.q
          clear r HR c0 c1 y0 y1 y2 y3 l1 n1 q1
          unfold slV
          dsimp only
          have c0 := (HRD.out w3 HF.out.b).1
          have c1 := (HRD.out w3 HF.out.b).2
          have y0 := (HL.out w3 HF.out.b).c 0 rfl
          have y1 := (HL.out w3 HF.out.b).c 1 rfl
          have y2 := (HL.out w3 HF.out.b).c 2 rfl
          have y3 := (HL.out w3 HF.out.b).c 3 rfl
          have bd := bdM_a x0 x1 x2 x3 wt
          have HT : Hid (Calls _ _ _ _ _) := (HF.out.below (Below.refl _ _).drew).take ⟨7, 0, -1, 0, x0, x1, x2, x3, true, false, wt⟩
          go_wp2_with (fail)
          go_region_with (first
            | (go_at_call 19; refine HT.out.mono ?_; rintro e w4 ⟨sl4, rfl, r4⟩))
          all_goals
            have HG : Hid (Lq b b _ w1 w4 ∧ W.An x0 x1 x2 x3 _ D K) := ⟨r4.q, HA.out.2⟩
            clear r4 HT HF HA c0 c1 y0 y1 y2 y3 bd
            go_wp2_with (fail)
            go_roundw
            case rel => exact ⟨j + 1, _, D, K, by omega, rfl, rfl, by go_num, HG.out.1, HG.out.2⟩
            case measure => simp [intOf]; omega
      · by_cases k2 : k = 2
        · subst k2
          clear k1
          rcases HR.out.2.1.evict with ha | ⟨s1, ha, rfl, rfl, hA1⟩ | ⟨s1, kq, hq, aq, ha, rfl, hA1, hA2⟩
          · have HA : Hid (s.evict = (s, [], false)) := ha
            clear ha
            go_wp2_with (fail)
            refine (HR.out.1.evict).mono ?_
            rintro e w3 ⟨sl, rfl, r⟩
            rw [HA.out] at r ⊢
            have HF : Hid (Lq b b s w1 w3 ∧ W.An x0 x1 x2 x3 s D K) := ⟨r.q, HR.out.2.1⟩
            clear r HR HA c0 c1 y0 y1 y2 y3
            cases D
            all_goals
              go_wp2_with (fail)
              go_quiet (fail)
              go_wp2_with (fail)
              go_roundw
              case rel => exact ⟨j + 1, _, _, _, by omega, rfl, rfl, by go_num, HF.out.1.below (below_drewN (Below.refl _ _) _), HF.out.2⟩
              case measure => simp [intOf]; omega
          · have HA : Hid (s.evict = (s1, [], true) ∧ W.An x0 x1 x2 x3 s1 false false) := ⟨ha, hA1⟩
            clear ha hA1
            go_wp2_with (fail)
            refine (HR.out.1.evict).mono ?_
            rintro e w3 ⟨sl, rfl, r⟩
            rw [HA.out.1] at r ⊢
            have hz : sl.n = 0 := r.m.n
            obtain ⟨sa, sn, sc⟩ := sl
            dsimp only at hz
            subst hz
            have HF : Hid (Lq b b s1 w1 w3 ∧ W.An x0 x1 x2 x3 s1 false false) := ⟨r.q, HA.out.2⟩
            clear r HR HA c0 c1 y0 y1 y2 y3
            unfold slV
            dsimp only
            go_wp2_with (fail)
            go_quiet (fail)
            go_wp2_with (fail)
            go_roundw
            case rel => exact ⟨j + 1, _, _, _, by omega, rfl, rfl, by go_num, HF.out.1.below (below_drewN (Below.refl _ _) _), HF.out.2⟩
            case measure => simp [intOf]; omega
          · have HA : Hid (s.evict = (s1, [⟨kq, 0, 0, -1, x0, x1, x2, x3, hq, D, aq⟩], true) ∧ W.An x0 x1 x2 x3 s1 false D ∧ W.An x0 x1 x2 x3 (s1.take ⟨9, 0, -1, 0, 0, 0, 0, 0, false, false, false⟩).1 false false) := ⟨ha, hA1, hA2⟩
            clear ha hA1 hA2
            go_wp2_with (fail)
            refine (HR.out.1.evict).mono ?_
            rintro e w3 ⟨sl, rfl, r⟩
            rw [HA.out.1] at r ⊢
            obtain ⟨g1, o1, cc1, rfl, l1, n1, q1⟩ := r.one HR.out.1.h.lt
            have HX : Hid (Lq b b s1 w1 w3) := r.q
            have HQ : Hid (w3.rangeAt g1 o1 (mgL ⟨kq, 0, 0, -1, x0, x1, x2, x3, hq, D, aq⟩) ∧ g1 < w3.heap.size) := ⟨q1, l1⟩
            clear r HR c0 c1 y0 y1 y2 y3 l1 n1 q1
            unfold slV
            dsimp only
            cases D
            · have HZ : Hid (∀ n, Lq b b s1 w1 (w3.drewN n) ∧ W.An x0 x1 x2 x3 s1 false false ∧ W.An x0 x1 x2 x3 (s1.take (W.dn0 9)).1 false false) := fun n => ⟨HX.out.below (below_drewN (Below.refl _ _) n), HA.out.2.1, HA.out.2.2⟩
              clear HX HA HQ
              go_wp2_with (fail)
              go_quiet (fail)
              have c1 := fun n => (HRD.out (w3.drewN n) (HZ.out n).1.b).2
              cases wt
              · go_wp2_with (fail)
                go_roundw
                case rel => exact ⟨j + 1, _, _, _, by omega, rfl, rfl, by go_num, (HZ.out _).1, (HZ.out 0).2.1⟩
                case measure => simp [intOf]; omega
              · have bd := bdM_k 9
                go_wp2_with (fail)
                refine ((HZ.out _).1.take (W.dn0 9)).mono ?_
                rintro e w6 ⟨sl6, rfl, r6⟩
                have HF : Hid (Lq b b _ w1 w6 ∧ W.An x0 x1 x2 x3 _ false false) := ⟨r6.q, (HZ.out 0).2.2⟩
                clear r6 HZ c1 bd
                go_wp2_with (fail)
                go_roundw
                case rel => exact ⟨j + 1, _, _, _, by omega, rfl, rfl, by go_num, HF.out.1, HF.out.2⟩
                case measure => simp [intOf]; omega
            · have y0 := (HL.out w3 HX.out.b).c 0 rfl
              have y1 := (HL.out w3 HX.out.b).c 1 rfl
              have y2 := (HL.out w3 HX.out.b).c 2 rfl
              have y3 := (HL.out w3 HX.out.b).c 3 rfl
              have z9 : w3.cell? ⟨g1, o1 + 9, none⟩ = some (.bool true) := HQ.out.1 9 _ rfl
              have z4 : w3.cell? ⟨g1, o1 + 4, none⟩ = some (.int .u32 x0) := HQ.out.1 4 _ rfl
              have z5 : w3.cell? ⟨g1, o1 + 5, none⟩ = some (.int .u32 x1) := HQ.out.1 5 _ rfl
              have z6 : w3.cell? ⟨g1, o1 + 6, none⟩ = some (.int .u32 x2) := HQ.out.1 6 _ rfl
              have z7 : w3.cell? ⟨g1, o1 + 7, none⟩ = some (.int .u32 x3) := HQ.out.1 7 _ rfl
              go_wp2_with (fail)
              have hbd : Below w3.heap.size w3 w3.drew := (Below.refl _ _).drew
              have HS : Hid (∀ wz, Below w3.heap.size w3 wz → wz.cell? ⟨g1, o1 + 9, none⟩ = some (.bool true) ∧ wz.cell? ⟨g1, o1 + 4, none⟩ = some (.int .u32 x0) ∧ wz.cell? ⟨g1, o1 + 5, none⟩ = some (.int .u32 x1) ∧ wz.cell? ⟨g1, o1 + 6, none⟩ = some (.int .u32 x2) ∧ wz.cell? ⟨g1, o1 + 7, none⟩ = some (.int .u32 x3) ∧ wz.cell? ⟨db, 0, none⟩ = some (.int .u32 x0) ∧ wz.cell? ⟨db, 1, none⟩ = some (.int .u32 x1) ∧ wz.cell? ⟨db, 2, none⟩ = some (.int .u32 x2) ∧ wz.cell? ⟨db, 3, none⟩ = some (.int .u32 x3)) := fun wz h => by
                have q1 := range_below HQ.out.1 h HQ.out.2
                have qy := HL.out wz (HX.out.below h).b
                exact ⟨q1 9 _ rfl, q1 4 _ rfl, q1 5 _ rfl, q1 6 _ rfl, q1 7 _ rfl, qy.c 0 rfl, qy.c 1 rfl, qy.c 2 rfl, qy.c 3 rfl⟩
              clear y0 y1 y2 y3 z9 z4 z5 z6 z7
              go_region_held3 (fun wz => wz.cell? ⟨g1, o1 + 9, none⟩ = some (.bool true) ∧ wz.cell? ⟨g1, o1 + 4, none⟩ = some (.int .u32 x0) ∧ wz.cell? ⟨g1, o1 + 5, none⟩ = some (.int .u32 x1) ∧ wz.cell? ⟨g1, o1 + 6, none⟩ = some (.int .u32 x2) ∧ wz.cell? ⟨g1, o1 + 7, none⟩ = some (.int .u32 x3) ∧ wz.cell? ⟨db, 0, none⟩ = some (.int .u32 x0) ∧ wz.cell? ⟨db, 1, none⟩ = some (.int .u32 x1) ∧ wz.cell? ⟨db, 2, none⟩ = some (.int .u32 x2) ∧ wz.cell? ⟨db, 3, none⟩ = some (.int .u32 x3))
                (first
                  | exact HS.out _ hbd
                  | exact HS.out _ hb5)
                (first
                  | (go_at_call 24; refine (sameline_self x0 x1 x2 x3 _).mono ?_; rintro e w4 ⟨rfl, hb4⟩; have hb5 := hbd.trans hb4))
              all_goals
                have HZ : Hid (Lq b b s1 w1 w4 ∧ W.An x0 x1 x2 x3 s1 false true ∧ W.An x0 x1 x2 x3 (s1.take (W.dn0 9)).1 false false) := ⟨HX.out.below hb5, HA.out.2.1, HA.out.2.2⟩
                have c1 := (HRD.out w4 HZ.out.1.b).2
                clear HX HA HQ HS hb4 hb5 hbd
                cases wt
                · go_wp2_with (fail)
                  go_roundw
                  case rel => exact ⟨j + 1, _, _, _, by omega, rfl, rfl, by go_num, HZ.out.1, HZ.out.2.1⟩
                  case measure => simp [intOf]; omega
                · have bd := bdM_k 9
                  go_wp2_with (fail)
                  refine (HZ.out.1.take (W.dn0 9)).mono ?_
                  rintro e w6 ⟨sl6, rfl, r6⟩
                  have HF : Hid (Lq b b _ w1 w6 ∧ W.An x0 x1 x2 x3 _ false false) := ⟨r6.q, HZ.out.2.2⟩
                  clear r6 HZ c1 bd
                  go_wp2_with (fail)
                  go_roundw
                  case rel => exact ⟨j + 1, _, _, _, by omega, rfl, rfl, by go_num, HF.out.1, HF.out.2⟩
                  case measure => simp [intOf]; omega
        · have n1 : (k == 1) = false := by simpa using k1
          have n2 : (k == 2) = false := by simpa using k2
          clear k1 k2
          rcases HR.out.2.1.set with ha | ⟨s1, ha, hA1⟩
          · have HA : Hid (s.set x0 x1 x2 x3 = (s, false)) := ha
            clear ha
            go_wp2_with (fail)
            refine (HR.out.1.set x0 x1 x2 x3).mono ?_
            rintro e w3 ⟨rfl, r, _, _⟩
            rw [HA.out] at r ⊢
            have HF : Hid (Lq b b s w1 w3 ∧ W.An x0 x1 x2 x3 s D K) := ⟨r, HR.out.2.1⟩
            clear r HR HA c0 c1 y0 y1 y2 y3
            go_wp2_with (fail)
            go_roundw
            case rel => exact ⟨j + 1, _, _, _, by omega, rfl, rfl, by go_num, HF.out.1, HF.out.2⟩
            case measure => simp [intOf]; omega
          · have HA : Hid (s.set x0 x1 x2 x3 = (s1, true) ∧ W.An x0 x1 x2 x3 s1 true K) := ⟨ha, hA1⟩
            clear ha hA1
            go_wp2_with (fail)
            refine (HR.out.1.set x0 x1 x2 x3).mono ?_
            rintro e w3 ⟨rfl, r, _, _⟩
            rw [HA.out.1] at r ⊢
            have HF : Hid (Lq b b s1 w1 w3 ∧ W.An x0 x1 x2 x3 s1 true K) := ⟨r, HA.out.2⟩
            clear r HR HA c0 c1 y0 y1 y2 y3
            go_wp2_with (fail)
            go_roundw
            case rel => exact ⟨j + 1, _, _, _, by omega, rfl, rfl, by go_num, HF.out.1, HF.out.2⟩
            case measure => simp [intOf]; omega
    · -- the end
      have hz3 := number_eq kk 3 (by decide) (by decide)
      have h33 : kk % 3 = 0 ∨ kk % 3 = 1 ∨ kk % 3 = 2 := by omega
      generalize kk % 3 = z at hz3 h33
      rcases h33 with rfl | rfl | rfl
      · have hz := hz3
        clear hz3
        have hA3 := hz
        have bd := bdM_k 4
        have hst : (stM ⟨wr.heap.size + 1, 0, none⟩ (mgV (W.dn0 4))).run Try.prog ((wr.alloc (.cells #[.int .i64 4, .int .i64 5, .int .i64 6] 3)).alloc (.cells z11 33)) = .ok () ((wr.alloc (.cells #[.int .i64 4, .int .i64 5, .int .i64 6] 3)).alloc (.cells (mgL (W.dn0 4)).toArray 33)) := by
          have := stM_new (wr.alloc (.cells #[.int .i64 4, .int .i64 5, .int .i64 6] 3)) (W.dn0 4) z11 rfl
          rwa [show (wr.alloc (.cells #[.int .i64 4, .int .i64 5, .int .i64 6] 3)).heap.size = wr.heap.size + 1 by simp] at this
        have hm : MsgAt (wr.heap.size + 1) (W.dn0 4) ((wr.alloc (.cells #[.int .i64 4, .int .i64 5, .int .i64 6] 3)).alloc (.cells (mgL (W.dn0 4)).toArray 33)) := by
          have := msgAt_new (wr.alloc (.cells #[.int .i64 4, .int .i64 5, .int .i64 6] 3)) (W.dn0 4)
          rwa [show (wr.alloc (.cells #[.int .i64 4, .int .i64 5, .int .i64 6] 3)).heap.size = wr.heap.size + 1 by simp] at this
        have hb5 := (below_alloc wr (.cells #[.int .i64 4, .int .i64 5, .int .i64 6] 3)).alloc (by simp) (.cells (mgL (W.dn0 4)).toArray 33)
        have HX : Hid (Lq b b s w1 _ ∧ MsgAt (wr.heap.size + 1) (W.dn0 4) _ ∧ b ≠ wr.heap.size + 1) := ⟨HR.out.1.below hb5, hm, by have := HR.out.1.h.lt; omega⟩
        have HA : Hid (W.An x0 x1 x2 x3 s D K) := HR.out.2.1
        clear hm hb5 HR
        go_upto_region 32 with fail
        clear hst bd hz hA3
        generalize World.alloc (World.alloc wr _) _ = W5 at *
        generalize wr.heap.size + 1 = mb at HX ⊢
        have hld := HX.out.2.1.ld
        go_wp2_with (fail)
        refine (takes_any HX.out.1.h (W.dn0 4)).mono ?_
        rintro e w6 ⟨rfl, hb6⟩
        rw [HA.out.tk.1]
        have HY : Hid (Lq b b s w1 w6 ∧ MsgAt mb (W.dn0 4) w6 ∧ b ≠ mb) := ⟨HX.out.1.below hb6, HX.out.2.1.below hb6, HX.out.2.2⟩
        clear HX hb6 hld
        have hld := HY.out.2.1.ld
        go_wp2_with (fail)
        refine (HY.out.1.take (W.dn0 4)).mono ?_
        rintro e w7 ⟨sl7, rfl, r⟩
        obtain ⟨s1, ls, hq, hs0⟩ := HA.out.inv
        rw [hq] at r ⊢
        obtain ⟨g1, o1, cc1, rfl, l1, n1, q1⟩ := r.one HY.out.1.h.lt
        have HZ : Hid (Lq b b s1 w1 w7 ∧ MsgAt mb (W.dn0 4) w7) := ⟨r.q, (r.k mb HY.out.2.1.lt (fun e => HY.out.2.2 e.symm)).trans HY.out.2.1⟩
        have HQ : Hid (w7.rangeAt g1 o1 (mgL _) ∧ g1 < w7.heap.size) := ⟨q1, l1⟩
        have hk0 : w7.cell? ⟨g1, o1, none⟩ = some (.int .i64 _) := q1 0 _ rfl
        have t0 : w7.cell? ⟨mb, 0, none⟩ = some (.int .i64 4) := HZ.out.2.cAt 0
        clear r HY hld q1 l1 n1 hq
        unfold slV
        dsimp only
        go_wp2_with (fail)
        refine (state_any HZ.out.1.h).mono ?_
        rintro e w8 ⟨rfl, rfl⟩
        rw [hs0]
        go_wp2_with (fail)
        go_ret
        exact ⟨rfl, HN.out _ HZ.out.1.b⟩
      · have hz := hz3
        clear hz3
        have hA3 := hz
        have bd := bdM_k 5
        have hst : (stM ⟨wr.heap.size + 1, 0, none⟩ (mgV (W.dn0 5))).run Try.prog ((wr.alloc (.cells #[.int .i64 4, .int .i64 5, .int .i64 6] 3)).alloc (.cells z11 33)) = .ok () ((wr.alloc (.cells #[.int .i64 4, .int .i64 5, .int .i64 6] 3)).alloc (.cells (mgL (W.dn0 5)).toArray 33)) := by
          have := stM_new (wr.alloc (.cells #[.int .i64 4, .int .i64 5, .int .i64 6] 3)) (W.dn0 5) z11 rfl
          rwa [show (wr.alloc (.cells #[.int .i64 4, .int .i64 5, .int .i64 6] 3)).heap.size = wr.heap.size + 1 by simp] at this
        have hm : MsgAt (wr.heap.size + 1) (W.dn0 5) ((wr.alloc (.cells #[.int .i64 4, .int .i64 5, .int .i64 6] 3)).alloc (.cells (mgL (W.dn0 5)).toArray 33)) := by
          have := msgAt_new (wr.alloc (.cells #[.int .i64 4, .int .i64 5, .int .i64 6] 3)) (W.dn0 5)
          rwa [show (wr.alloc (.cells #[.int .i64 4, .int .i64 5, .int .i64 6] 3)).heap.size = wr.heap.size + 1 by simp] at this
        have hb5 := (below_alloc wr (.cells #[.int .i64 4, .int .i64 5, .int .i64 6] 3)).alloc (by simp) (.cells (mgL (W.dn0 5)).toArray 33)
        have HX : Hid (Lq b b s w1 _ ∧ MsgAt (wr.heap.size + 1) (W.dn0 5) _ ∧ b ≠ wr.heap.size + 1) := ⟨HR.out.1.below hb5, hm, by have := HR.out.1.h.lt; omega⟩
        have HA : Hid (W.An x0 x1 x2 x3 s D K) := HR.out.2.1
        clear hm hb5 HR
        go_upto_region 32 with fail
        clear hst bd hz hA3
        generalize World.alloc (World.alloc wr _) _ = W5 at *
        generalize wr.heap.size + 1 = mb at HX ⊢
        have hld := HX.out.2.1.ld
        go_wp2_with (fail)
        refine (takes_any HX.out.1.h (W.dn0 5)).mono ?_
        rintro e w6 ⟨rfl, hb6⟩
        rw [HA.out.tk.2.1]
        have HY : Hid (Lq b b s w1 w6 ∧ MsgAt mb (W.dn0 5) w6 ∧ b ≠ mb) := ⟨HX.out.1.below hb6, HX.out.2.1.below hb6, HX.out.2.2⟩
        clear HX hb6 hld
        have hld := HY.out.2.1.ld
        go_wp2_with (fail)
        refine (HY.out.1.take (W.dn0 5)).mono ?_
        rintro e w7 ⟨sl7, rfl, r⟩
        obtain ⟨s1, y0, y1, y2, y3, hh, ls, hq, hval⟩ := HA.out.share
        rw [hq] at r ⊢
        obtain ⟨g1, o1, cc1, rfl, l1, n1, q1⟩ := r.one HY.out.1.h.lt
        have HZ : Hid (Lq b b s1 w1 w7 ∧ MsgAt mb (W.dn0 5) w7) := ⟨r.q, (r.k mb HY.out.2.1.lt (fun e => HY.out.2.2 e.symm)).trans HY.out.2.1⟩
        have HQ : Hid (w7.rangeAt g1 o1 (mgL _) ∧ g1 < w7.heap.size) := ⟨q1, l1⟩
        have hk0 : w7.cell? ⟨g1, o1, none⟩ = some (.int .i64 _) := q1 0 _ rfl
        have t0 : w7.cell? ⟨mb, 0, none⟩ = some (.int .i64 5) := HZ.out.2.cAt 0
        clear r HY hld q1 l1 n1 hq
        unfold slV
        dsimp only
        cases D
        · cases K
          · have hdk : w7.cell? ⟨g1, o1 + 9, none⟩ = some (.bool false) := HQ.out.1 9 _ rfl
            go_wp2_with (fail)
            go_ret
            exact ⟨rfl, HN.out _ HZ.out.1.b⟩
          · have hv := hval rfl
            obtain ⟨rfl, rfl, rfl, rfl, rfl⟩ := hv
            have hdk : w7.cell? ⟨g1, o1 + 9, none⟩ = some (.bool true) := HQ.out.1 9 _ rfl
            clear hval hdk
            go_wp2_with (fail)
            have hbd : Below w7.heap.size w7 w7.drew := (Below.refl _ _).drew
            have HS : Hid (∀ wz, Below w7.heap.size w7 wz → wz.cell? ⟨g1, o1 + 8, none⟩ = some (.bool true) ∧ wz.cell? ⟨g1, o1 + 9, none⟩ = some (.bool true) ∧ wz.cell? ⟨g1, o1 + 4, none⟩ = some (.int .u32 y0) ∧ wz.cell? ⟨g1, o1 + 5, none⟩ = some (.int .u32 y1) ∧ wz.cell? ⟨g1, o1 + 6, none⟩ = some (.int .u32 y2) ∧ wz.cell? ⟨g1, o1 + 7, none⟩ = some (.int .u32 y3) ∧ wz.cell? ⟨db, 0, none⟩ = some (.int .u32 y0) ∧ wz.cell? ⟨db, 1, none⟩ = some (.int .u32 y1) ∧ wz.cell? ⟨db, 2, none⟩ = some (.int .u32 y2) ∧ wz.cell? ⟨db, 3, none⟩ = some (.int .u32 y3)) := fun wz h => by
              have q1 := range_below HQ.out.1 h HQ.out.2
              have qy := HL.out wz (HZ.out.1.below h).b
              exact ⟨q1 8 _ rfl, q1 9 _ rfl, q1 4 _ rfl, q1 5 _ rfl, q1 6 _ rfl, q1 7 _ rfl, qy.c 0 rfl, qy.c 1 rfl, qy.c 2 rfl, qy.c 3 rfl⟩
            clear hk0 t0
            go_region_held3 (fun wz => wz.cell? ⟨g1, o1 + 8, none⟩ = some (.bool true) ∧ wz.cell? ⟨g1, o1 + 9, none⟩ = some (.bool true) ∧ wz.cell? ⟨g1, o1 + 4, none⟩ = some (.int .u32 y0) ∧ wz.cell? ⟨g1, o1 + 5, none⟩ = some (.int .u32 y1) ∧ wz.cell? ⟨g1, o1 + 6, none⟩ = some (.int .u32 y2) ∧ wz.cell? ⟨g1, o1 + 7, none⟩ = some (.int .u32 y3) ∧ wz.cell? ⟨db, 0, none⟩ = some (.int .u32 y0) ∧ wz.cell? ⟨db, 1, none⟩ = some (.int .u32 y1) ∧ wz.cell? ⟨db, 2, none⟩ = some (.int .u32 y2) ∧ wz.cell? ⟨db, 3, none⟩ = some (.int .u32 y3))
              (first
                | exact HS.out _ hbd
                | exact HS.out _ hb9)
              (first
                | (go_at_call 24; refine (sameline_self y0 y1 y2 y3 _).mono ?_; rintro e w8 ⟨rfl, hb8⟩; have hb9 := hbd.trans hb8))
            all_goals
              have HF : Hid (Lq b b s1 w1 w8) := HZ.out.1.below hb9
              go_wp2_with (fail)
              go_ret
              exact ⟨rfl, HN.out _ HF.out.b⟩
        · have hv := hval rfl
          obtain ⟨rfl, rfl, rfl, rfl, rfl⟩ := hv
          have hdk : w7.cell? ⟨g1, o1 + 9, none⟩ = some (.bool true) := HQ.out.1 9 _ rfl
          clear hval hdk
          go_wp2_with (fail)
          have hbd : Below w7.heap.size w7 w7.drew := (Below.refl _ _).drew
          have HS : Hid (∀ wz, Below w7.heap.size w7 wz → wz.cell? ⟨g1, o1 + 8, none⟩ = some (.bool true) ∧ wz.cell? ⟨g1, o1 + 9, none⟩ = some (.bool true) ∧ wz.cell? ⟨g1, o1 + 4, none⟩ = some (.int .u32 y0) ∧ wz.cell? ⟨g1, o1 + 5, none⟩ = some (.int .u32 y1) ∧ wz.cell? ⟨g1, o1 + 6, none⟩ = some (.int .u32 y2) ∧ wz.cell? ⟨g1, o1 + 7, none⟩ = some (.int .u32 y3) ∧ wz.cell? ⟨db, 0, none⟩ = some (.int .u32 y0) ∧ wz.cell? ⟨db, 1, none⟩ = some (.int .u32 y1) ∧ wz.cell? ⟨db, 2, none⟩ = some (.int .u32 y2) ∧ wz.cell? ⟨db, 3, none⟩ = some (.int .u32 y3)) := fun wz h => by
            have q1 := range_below HQ.out.1 h HQ.out.2
            have qy := HL.out wz (HZ.out.1.below h).b
            exact ⟨q1 8 _ rfl, q1 9 _ rfl, q1 4 _ rfl, q1 5 _ rfl, q1 6 _ rfl, q1 7 _ rfl, qy.c 0 rfl, qy.c 1 rfl, qy.c 2 rfl, qy.c 3 rfl⟩
          clear hk0 t0
          go_region_held3 (fun wz => wz.cell? ⟨g1, o1 + 8, none⟩ = some (.bool true) ∧ wz.cell? ⟨g1, o1 + 9, none⟩ = some (.bool true) ∧ wz.cell? ⟨g1, o1 + 4, none⟩ = some (.int .u32 y0) ∧ wz.cell? ⟨g1, o1 + 5, none⟩ = some (.int .u32 y1) ∧ wz.cell? ⟨g1, o1 + 6, none⟩ = some (.int .u32 y2) ∧ wz.cell? ⟨g1, o1 + 7, none⟩ = some (.int .u32 y3) ∧ wz.cell? ⟨db, 0, none⟩ = some (.int .u32 y0) ∧ wz.cell? ⟨db, 1, none⟩ = some (.int .u32 y1) ∧ wz.cell? ⟨db, 2, none⟩ = some (.int .u32 y2) ∧ wz.cell? ⟨db, 3, none⟩ = some (.int .u32 y3))
            (first
              | exact HS.out _ hbd
              | exact HS.out _ hb9)
            (first
              | (go_at_call 24; refine (sameline_self y0 y1 y2 y3 _).mono ?_; rintro e w8 ⟨rfl, hb8⟩; have hb9 := hbd.trans hb8))
          all_goals
            have HF : Hid (Lq b b s1 w1 w8) := HZ.out.1.below hb9
            go_wp2_with (fail)
            go_ret
            exact ⟨rfl, HN.out _ HF.out.b⟩
      · have hz := hz3
        clear hz3
        have hA3 := hz
        have bd := bdM_k 6
        have hst : (stM ⟨wr.heap.size + 1, 0, none⟩ (mgV (W.dn0 6))).run Try.prog ((wr.alloc (.cells #[.int .i64 4, .int .i64 5, .int .i64 6] 3)).alloc (.cells z11 33)) = .ok () ((wr.alloc (.cells #[.int .i64 4, .int .i64 5, .int .i64 6] 3)).alloc (.cells (mgL (W.dn0 6)).toArray 33)) := by
          have := stM_new (wr.alloc (.cells #[.int .i64 4, .int .i64 5, .int .i64 6] 3)) (W.dn0 6) z11 rfl
          rwa [show (wr.alloc (.cells #[.int .i64 4, .int .i64 5, .int .i64 6] 3)).heap.size = wr.heap.size + 1 by simp] at this
        have hm : MsgAt (wr.heap.size + 1) (W.dn0 6) ((wr.alloc (.cells #[.int .i64 4, .int .i64 5, .int .i64 6] 3)).alloc (.cells (mgL (W.dn0 6)).toArray 33)) := by
          have := msgAt_new (wr.alloc (.cells #[.int .i64 4, .int .i64 5, .int .i64 6] 3)) (W.dn0 6)
          rwa [show (wr.alloc (.cells #[.int .i64 4, .int .i64 5, .int .i64 6] 3)).heap.size = wr.heap.size + 1 by simp] at this
        have hb5 := (below_alloc wr (.cells #[.int .i64 4, .int .i64 5, .int .i64 6] 3)).alloc (by simp) (.cells (mgL (W.dn0 6)).toArray 33)
        have HX : Hid (Lq b b s w1 _ ∧ MsgAt (wr.heap.size + 1) (W.dn0 6) _ ∧ b ≠ wr.heap.size + 1) := ⟨HR.out.1.below hb5, hm, by have := HR.out.1.h.lt; omega⟩
        have HA : Hid (W.An x0 x1 x2 x3 s D K) := HR.out.2.1
        clear hm hb5 HR
        go_upto_region 32 with fail
        clear hst bd hz hA3
        generalize World.alloc (World.alloc wr _) _ = W5 at *
        generalize wr.heap.size + 1 = mb at HX ⊢
        have hld := HX.out.2.1.ld
        go_wp2_with (fail)
        refine (takes_any HX.out.1.h (W.dn0 6)).mono ?_
        rintro e w6 ⟨rfl, hb6⟩
        rw [HA.out.tk.2.2]
        have HY : Hid (Lq b b s w1 w6 ∧ MsgAt mb (W.dn0 6) w6 ∧ b ≠ mb) := ⟨HX.out.1.below hb6, HX.out.2.1.below hb6, HX.out.2.2⟩
        clear HX hb6 hld
        have hld := HY.out.2.1.ld
        go_wp2_with (fail)
        refine (HY.out.1.take (W.dn0 6)).mono ?_
        rintro e w7 ⟨sl7, rfl, r⟩
        obtain ⟨s1, y0, y1, y2, y3, hh, ls, hq, hs0, hval⟩ := HA.out.tak
        rw [hq] at r ⊢
        obtain ⟨g1, o1, cc1, rfl, l1, n1, q1⟩ := r.one HY.out.1.h.lt
        have HZ : Hid (Lq b b s1 w1 w7 ∧ MsgAt mb (W.dn0 6) w7) := ⟨r.q, (r.k mb HY.out.2.1.lt (fun e => HY.out.2.2 e.symm)).trans HY.out.2.1⟩
        have HQ : Hid (w7.rangeAt g1 o1 (mgL _) ∧ g1 < w7.heap.size) := ⟨q1, l1⟩
        have hk0 : w7.cell? ⟨g1, o1, none⟩ = some (.int .i64 _) := q1 0 _ rfl
        have t0 : w7.cell? ⟨mb, 0, none⟩ = some (.int .i64 6) := HZ.out.2.cAt 0
        clear r HY hld q1 l1 n1 hq
        unfold slV
        dsimp only
        cases D
        · cases K
          · have hdk : w7.cell? ⟨g1, o1 + 9, none⟩ = some (.bool false) := HQ.out.1 9 _ rfl
            go_wp2_with (fail)
            refine (state_any HZ.out.1.h).mono ?_
            rintro e w8 ⟨rfl, rfl⟩
            rw [hs0]
            go_wp2_with (fail)
            go_ret
            exact ⟨rfl, HN.out _ HZ.out.1.b⟩
          · have hv := hval rfl
            obtain ⟨rfl, rfl, rfl, rfl, rfl⟩ := hv
            have hdk : w7.cell? ⟨g1, o1 + 9, none⟩ = some (.bool true) := HQ.out.1 9 _ rfl
            clear hval hdk
            go_wp2_with (fail)
            refine (state_any HZ.out.1.h).mono ?_
            rintro e w8 ⟨rfl, rfl⟩
            rw [hs0]
            go_wp2_with (fail)
            have hbd : Below w7.heap.size w7 w7.drew := (Below.refl _ _).drew
            have HS : Hid (∀ wz, Below w7.heap.size w7 wz → wz.cell? ⟨g1, o1 + 8, none⟩ = some (.bool true) ∧ wz.cell? ⟨g1, o1 + 9, none⟩ = some (.bool true) ∧ wz.cell? ⟨g1, o1 + 4, none⟩ = some (.int .u32 y0) ∧ wz.cell? ⟨g1, o1 + 5, none⟩ = some (.int .u32 y1) ∧ wz.cell? ⟨g1, o1 + 6, none⟩ = some (.int .u32 y2) ∧ wz.cell? ⟨g1, o1 + 7, none⟩ = some (.int .u32 y3) ∧ wz.cell? ⟨db, 0, none⟩ = some (.int .u32 y0) ∧ wz.cell? ⟨db, 1, none⟩ = some (.int .u32 y1) ∧ wz.cell? ⟨db, 2, none⟩ = some (.int .u32 y2) ∧ wz.cell? ⟨db, 3, none⟩ = some (.int .u32 y3)) := fun wz h => by
              have q1 := range_below HQ.out.1 h HQ.out.2
              have qy := HL.out wz (HZ.out.1.below h).b
              exact ⟨q1 8 _ rfl, q1 9 _ rfl, q1 4 _ rfl, q1 5 _ rfl, q1 6 _ rfl, q1 7 _ rfl, qy.c 0 rfl, qy.c 1 rfl, qy.c 2 rfl, qy.c 3 rfl⟩
            clear hk0 t0
            go_region_held3 (fun wz => wz.cell? ⟨g1, o1 + 8, none⟩ = some (.bool true) ∧ wz.cell? ⟨g1, o1 + 9, none⟩ = some (.bool true) ∧ wz.cell? ⟨g1, o1 + 4, none⟩ = some (.int .u32 y0) ∧ wz.cell? ⟨g1, o1 + 5, none⟩ = some (.int .u32 y1) ∧ wz.cell? ⟨g1, o1 + 6, none⟩ = some (.int .u32 y2) ∧ wz.cell? ⟨g1, o1 + 7, none⟩ = some (.int .u32 y3) ∧ wz.cell? ⟨db, 0, none⟩ = some (.int .u32 y0) ∧ wz.cell? ⟨db, 1, none⟩ = some (.int .u32 y1) ∧ wz.cell? ⟨db, 2, none⟩ = some (.int .u32 y2) ∧ wz.cell? ⟨db, 3, none⟩ = some (.int .u32 y3))
              (first
                | exact HS.out _ hbd
                | exact HS.out _ hb9)
              (first
                | (go_at_call 24; refine (sameline_self y0 y1 y2 y3 _).mono ?_; rintro e w8 ⟨rfl, hb8⟩; have hb9 := hbd.trans hb8))
            all_goals
              have HF : Hid (Lq b b s1 w1 w8) := HZ.out.1.below hb9
              go_wp2_with (fail)
              go_ret
              exact ⟨rfl, HN.out _ HF.out.b⟩
        · have hv := hval rfl
          obtain ⟨rfl, rfl, rfl, rfl, rfl⟩ := hv
          have hdk : w7.cell? ⟨g1, o1 + 9, none⟩ = some (.bool true) := HQ.out.1 9 _ rfl
          clear hval hdk
          go_wp2_with (fail)
          refine (state_any HZ.out.1.h).mono ?_
          rintro e w8 ⟨rfl, rfl⟩
          rw [hs0]
          go_wp2_with (fail)
          have hbd : Below w7.heap.size w7 w7.drew := (Below.refl _ _).drew
          have HS : Hid (∀ wz, Below w7.heap.size w7 wz → wz.cell? ⟨g1, o1 + 8, none⟩ = some (.bool true) ∧ wz.cell? ⟨g1, o1 + 9, none⟩ = some (.bool true) ∧ wz.cell? ⟨g1, o1 + 4, none⟩ = some (.int .u32 y0) ∧ wz.cell? ⟨g1, o1 + 5, none⟩ = some (.int .u32 y1) ∧ wz.cell? ⟨g1, o1 + 6, none⟩ = some (.int .u32 y2) ∧ wz.cell? ⟨g1, o1 + 7, none⟩ = some (.int .u32 y3) ∧ wz.cell? ⟨db, 0, none⟩ = some (.int .u32 y0) ∧ wz.cell? ⟨db, 1, none⟩ = some (.int .u32 y1) ∧ wz.cell? ⟨db, 2, none⟩ = some (.int .u32 y2) ∧ wz.cell? ⟨db, 3, none⟩ = some (.int .u32 y3)) := fun wz h => by
            have q1 := range_below HQ.out.1 h HQ.out.2
            have qy := HL.out wz (HZ.out.1.below h).b
            exact ⟨q1 8 _ rfl, q1 9 _ rfl, q1 4 _ rfl, q1 5 _ rfl, q1 6 _ rfl, q1 7 _ rfl, qy.c 0 rfl, qy.c 1 rfl, qy.c 2 rfl, qy.c 3 rfl⟩
          clear hk0 t0
          go_region_held3 (fun wz => wz.cell? ⟨g1, o1 + 8, none⟩ = some (.bool true) ∧ wz.cell? ⟨g1, o1 + 9, none⟩ = some (.bool true) ∧ wz.cell? ⟨g1, o1 + 4, none⟩ = some (.int .u32 y0) ∧ wz.cell? ⟨g1, o1 + 5, none⟩ = some (.int .u32 y1) ∧ wz.cell? ⟨g1, o1 + 6, none⟩ = some (.int .u32 y2) ∧ wz.cell? ⟨g1, o1 + 7, none⟩ = some (.int .u32 y3) ∧ wz.cell? ⟨db, 0, none⟩ = some (.int .u32 y0) ∧ wz.cell? ⟨db, 1, none⟩ = some (.int .u32 y1) ∧ wz.cell? ⟨db, 2, none⟩ = some (.int .u32 y2) ∧ wz.cell? ⟨db, 3, none⟩ = some (.int .u32 y3))
            (first
              | exact HS.out _ hbd
              | exact HS.out _ hb9)
            (first
              | (go_at_call 24; refine (sameline_self y0 y1 y2 y3 _).mono ?_; rintro e w8 ⟨rfl, hb8⟩; have hb9 := hbd.trans hb8))
          all_goals
            have HF : Hid (Lq b b s1 w1 w8) := HZ.out.1.below hb9
            go_wp2_with (fail)
            go_ret
            exact ⟨rfl, HN.out _ HF.out.b⟩
end Go.Proofs.Ytogchippkenppaa
