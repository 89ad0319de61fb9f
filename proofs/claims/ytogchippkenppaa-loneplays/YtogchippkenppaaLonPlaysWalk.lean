/- LonePlays: the walk. -/
import Derived.Test.YtogchippkenppaaLonP
import Derived.Deep.CutRange
import Derived.Deep.CutBlock
import Derived.Deep.RegionHeld3
import Derived.BigQuiet
namespace Go.Proofs.Ytogchippkenppaa
open Go.ChangeShapes Go.WideShapes Go.ChangeAt Go.RowKit
set_option linter.unusedVariables false
set_option linter.unusedSimpArgs false
attribute [local go_sem ↓] ldM_eq stM_eq bdM_eq bsM_eq ldD_eq stD_eq
variable {n0 b db tb cb : Nat} {s s' s0 : W.Lo} {d d' : W.Ld} {D : W.Do} {w w' w'' w0 w2 : World}

set_option maxRecDepth 10000 in
set_option maxHeartbeats 1600000 in
theorem plays_long (ln ht : Int) (a : Option Addr) (n c : Nat) (hn : 80 < n) (hn2 : n ≤ maxLen) (w : World) :
    Calls Try.prog 3 #[.int .i64 ln, .int .i64 ht, .slice a n c] w fun e w' => e = .returned (.bool true) ∧ Below w.heap.size w w' := by
  have hgt : (80 : Int) < n := by omega
  go_enter Try.func3, Try.ntmps3
  go_wp2_with (fail)
  refine (first19_any w).mono ?_
  rintro e w1 ⟨rfl, hb1⟩
  have HB1 : Hid (_) := hb1
  clear hb1
  go_wp2_with (fail)
  go_ret
  exact ⟨rfl, HB1.out⟩

set_option maxRecDepth 10000 in
set_option maxHeartbeats 6400000 in
theorem plays_small (ln ht : Int) (sl : W.Sl) (q : Nat → W.Do) (hn : sl.n ≤ 80) (w : World) (hO : 0 < sl.n → ∃ b o, sl.a = some ⟨b, o, none⟩ ∧ b < w.heap.size ∧ ∀ j, j < sl.n → w.rangeAt b (o + j * 17) (doL (q j))) :
    Calls Try.prog 3 #[.int .i64 ln, .int .i64 ht, slV sl] w fun e w' => e = .returned (.bool true) ∧ Below w.heap.size w w' := by
  obtain ⟨a, N, c⟩ := sl
  dsimp only at hn hO
  unfold slV
  dsimp only
  have HO : Hid (_) := hO
  have hle : (N : Int) ≤ 80 := by omega
  have HNs : Hid (N ≤ 80) := hn
  clear hO hn
  go_enter Try.func3, Try.ntmps3
  go_wp2_with (fail)
  refine (first19_any w).mono ?_
  rintro e w1 ⟨rfl, hb1⟩
  have HB1 : Hid (Below w.heap.size w w1) := hb1
  clear hb1
  go_wp2_with (fail)
  refine (new_any ln ht w1).mono ?_
  rintro e w2 ⟨rfl, hH, hb⟩
  have HB : Hid (Bz w1.heap.size w1.heap.size w2.heap.size (W.lo0 ln ht) (W.ld0 ln ht) w1 (w2.alloc (.cells (ldA (W.ld0 ln ht)) 31))) := by
    have hb2 := below_alloc w2 (.cells (ldA (W.ld0 ln ht)) 31)
    exact ⟨hH.below hb2, heap_alloc_last w2 _, by have := hH.lt; omega, ⟨Nat.le_refl _, hb.size⟩, hb.trans (hb2.mono hb.size), Nat.le_trans hb.size hb2.size⟩
  have HD : Hid (∀ j, j < N → ∃ b o, a = some ⟨b, o, none⟩ ∧ b < w1.heap.size ∧ ∀ wz : World, Below w1.heap.size w1 wz → wz.rangeAt b (o + j * 17) (doL (q j))) := fun j hj => by
    obtain ⟨b, o, e, hl, hr⟩ := HO.out (by omega)
    exact ⟨b, o, e, Nat.lt_of_lt_of_le hl HB1.out.size, fun wz h => range_below (hr j hj) (HB1.out.trans (h.mono HB1.out.size)) hl⟩
  clear hH hb HO
  have hr0 : Hid (W.Rl (W.lo0 ln ht) (W.ld0 ln ht)) := W.Rl.new ln ht
  go_wp2_with (fail)
  have hsl : Hid (w1.heap.size ≤ w1.heap.size) := Nat.le_refl _
  go_loopw [10] (fun i wr => ∃ (j : Nat) (s : W.Lo) (d : W.Ld), j ≤ N ∧ i = .int .i64 j ∧ Bz w1.heap.size w1.heap.size w2.heap.size s d w1 wr ∧ W.Rl s d) (fun i _ => N - (intOf i).toNat)
  case atStart => exact ⟨0, _, _, by omega, rfl, HB.out, hr0.out⟩
  case round =>
    obtain ⟨j, s, d, hj, rfl, hL, hA⟩ := hrel
    clear HB hr0 hsl
    have HR : Hid (Bz w1.heap.size w1.heap.size w2.heap.size s d w1 wr ∧ W.Rl s d) := ⟨hL, hA⟩
    clear hL hA
    by_cases hlt : j < N
    · have hjn : (j : Int) < N := by omega
      have hj0 : (0 : Int) ≤ j := by omega
      obtain ⟨bl, o, rfl, hbl, hrd⟩ := HD.out j hlt
      have hld := ldD_at (hrd wr HR.out.1.b)
      generalize q j = D at *
      have hst := stD_new wr D z17 rfl
      clear hrd hbl
      go_upto_region 14 with fail
      have hba := below_alloc wr (.cells (doL D).toArray 35)
      have HT : Hid (Tb wr.heap.size D (wr.alloc (.cells (doL D).toArray 35)) ∧ Below wr.heap.size wr (wr.alloc (.cells (doL D).toArray 35))) := ⟨heap_alloc_last wr _, hba⟩
      clear hba hst hld
      generalize hW1 : World.alloc wr _ = W1 at HT ⊢
      clear hW1
      go_wp2_with (fail)
      refine (clone_any (HR.out.1.h.below HT.out.2)).mono ?_
      rintro e w4 ⟨rfl, hc4, hb4⟩
      have HZ : Hid (Az w1.heap.size w1.heap.size w2.heap.size wr.heap.size W1.heap.size s d D s w1 w4) := HR.out.1.az (HT.out.2.trans (hb4.mono HT.out.2.size)) (Rw.below HT.out.1 hb4) hc4 (Nat.le_refl _) HT.out.2.size
      have HRL : Hid (W.Rl s d) := HR.out.2
      clear hc4 hb4 HT HR
      generalize wr.heap.size = tb at *
      generalize W1.heap.size = cb at *
      go_wp2_with (fail)
      refine (state_any HZ.out.h).mono ?_
      rintro e w5 ⟨rfl, rfl⟩
      have ck := HZ.out.t.k
      go_upto_block 2 with fail
      clear ck
      go_cut [14, 15, 16, 17, 18, 19, 20, 21, 22, 23, 24, 25, 26, 27] from 56 to 164 (fun _ _ _ _ _ _ _ _ _ _ _ _ _ _ wx => ∃ s' d', Az w1.heap.size w1.heap.size w2.heap.size tb cb s' d' D s w1 wx ∧ W.Rl s' d')
      case first =>
        as_aux_lemma =>
          cases k1 : (D.k == 1)
          case true =>
            have hv : ((s.ask D.wr).2.2 != (s.ask D.wr).2.2) = false := by simp
            have cw := HZ.out.t.wr
            go_wp2_with (fail)
            refine (HZ.out.ask D.wr).mono ?_
            rintro e w6 ⟨sl, rfl, hm6, hZ6, hn6⟩
            have H6 : Hid (Az w1.heap.size w1.heap.size w2.heap.size tb cb (s.ask D.wr).1 d D s w1 w6 ∧ Ms sl (s.ask D.wr).2.1 w6 ∧ ∀ g o, sl.a = some ⟨g, o, none⟩ → g ≠ w2.heap.size) := ⟨hZ6, hm6, hn6⟩
            clear hm6 hZ6 hn6 cw
            have cw := H6.out.1.t.wr
            go_wp2_with (fail)
            refine (H6.out.1.dask D.wr H6.out.2.1 H6.out.2.2).mono ?_
            rintro e w7 ⟨sl7, rfl, hm7, hm6, hZ7⟩
            have HLW := HRL.out.ask D.wr
            rw [HLW.2] at hm7 ⊢
            have H7 : Hid (Az w1.heap.size w1.heap.size w2.heap.size tb cb (s.ask D.wr).1 (d.ask D.wr).1 D s w1 w7 ∧ W.Rl (s.ask D.wr).1 (d.ask D.wr).1) := ⟨hZ7, HLW.1⟩
            have HM : Hid (Ms sl (s.ask D.wr).2.1 w7 ∧ Ms sl7 (s.ask D.wr).2.1 w7) := ⟨hm6, hm7⟩
            clear HLW hm7 hm6 hZ7 H6 cw
            generalize (s.ask D.wr).2.2 = lv at *
            obtain ⟨a8, n8, c8⟩ := sl
            obtain ⟨a9, n9, c9⟩ := sl7
            go_wp2_with (fail)
            refine (samemsgs_self _ _ _ w7 HM.out.1 HM.out.2).mono ?_
            rintro e w8 ⟨rfl, hb8⟩
            have HF : Hid (Az w1.heap.size w1.heap.size w2.heap.size tb cb (s.ask D.wr).1 (d.ask D.wr).1 D s w1 w8 ∧ W.Rl (s.ask D.wr).1 (d.ask D.wr).1) := ⟨H7.out.1.below hb8, H7.out.2⟩
            clear hb8 H7 HM
            go_wp2_with (fail)
            go_meet
            case rel => exact ⟨_, _, HF.out⟩
          case false =>
            cases k2 : (D.k == 2)
            case true =>
              have hv : ((s.evict).2.2 != (s.evict).2.2) = false := by simp
              go_wp2_with (fail)
              refine (HZ.out.evict).mono ?_
              rintro e w6 ⟨sl, rfl, hm6, hZ6, hn6⟩
              have H6 : Hid (Az w1.heap.size w1.heap.size w2.heap.size tb cb (s.evict).1 d D s w1 w6 ∧ Ms sl (s.evict).2.1 w6 ∧ ∀ g o, sl.a = some ⟨g, o, none⟩ → g ≠ w2.heap.size) := ⟨hZ6, hm6, hn6⟩
              clear hm6 hZ6 hn6 
              go_wp2_with (fail)
              refine (H6.out.1.devict H6.out.2.1 H6.out.2.2).mono ?_
              rintro e w7 ⟨sl7, rfl, hm7, hm6, hZ7⟩
              have HLW := HRL.out.evict
              rw [HLW.2] at hm7 ⊢
              have H7 : Hid (Az w1.heap.size w1.heap.size w2.heap.size tb cb (s.evict).1 (d.evict).1 D s w1 w7 ∧ W.Rl (s.evict).1 (d.evict).1) := ⟨hZ7, HLW.1⟩
              have HM : Hid (Ms sl (s.evict).2.1 w7 ∧ Ms sl7 (s.evict).2.1 w7) := ⟨hm6, hm7⟩
              clear HLW hm7 hm6 hZ7 H6 
              generalize (s.evict).2.2 = lv at *
              obtain ⟨a8, n8, c8⟩ := sl
              obtain ⟨a9, n9, c9⟩ := sl7
              go_wp2_with (fail)
              refine (samemsgs_self _ _ _ w7 HM.out.1 HM.out.2).mono ?_
              rintro e w8 ⟨rfl, hb8⟩
              have HF : Hid (Az w1.heap.size w1.heap.size w2.heap.size tb cb (s.evict).1 (d.evict).1 D s w1 w8 ∧ W.Rl (s.evict).1 (d.evict).1) := ⟨H7.out.1.below hb8, H7.out.2⟩
              clear hb8 H7 HM
              go_wp2_with (fail)
              go_meet
              case rel => exact ⟨_, _, HF.out⟩
            case false =>
              cases k3 : (D.k == 3)
              case true =>
                go_wp2_with (fail)
                refine (dcan_any HZ.out.g true).mono ?_
                rintro e w6 ⟨rfl, rfl⟩
                have HS : Hid (_ ∧ _) := HRL.out.set D.x0 D.x1 D.x2 D.x3
                have c0 := HZ.out.t.x0
                have c1 := HZ.out.t.x1
                have c2 := HZ.out.t.x2
                have c3 := HZ.out.t.x3
                go_wp2_with (fail)
                refine (HZ.out.set D.x0 D.x1 D.x2 D.x3).mono ?_
                rintro e w7 ⟨rfl, hZ7⟩
                rw [HS.out.1]
                have H7 : Hid (Az w1.heap.size w1.heap.size w2.heap.size tb cb (s.set D.x0 D.x1 D.x2 D.x3).1 d D s w1 w7 ∧ W.Rl (s.set D.x0 D.x1 D.x2 D.x3).1 (if d.can true = true then ⟨d.ln, d.ht, 4, d.wt, D.x0, D.x1, D.x2, D.x3, d.kp⟩ else d)) := ⟨hZ7, HS.out.2⟩
                clear hZ7 HZ c0 c1 c2 c3 HS
                generalize (s.set D.x0 D.x1 D.x2 D.x3).1 = s7 at *
                generalize hcv : d.can true = cv at *
                have HCV : Hid (_) := hcv
                clear hcv
                cases cv
                · have HF : Hid (Az w1.heap.size w1.heap.size w2.heap.size tb cb s7 d D s w1 w7 ∧ W.Rl s7 d) := ⟨H7.out.1, H7.out.2⟩
                  clear H7
                  go_wp2_with (fail)
                  go_meet
                  case rel => exact ⟨_, _, HF.out⟩
                · have c0 := H7.out.1.t.x0
                  have c1 := H7.out.1.t.x1
                  have c2 := H7.out.1.t.x2
                  have c3 := H7.out.1.t.x3
                  have e2 := H7.out.1.g.c2
                  have e4 := H7.out.1.g.c4
                  have e5 := H7.out.1.g.c5
                  have e6 := H7.out.1.g.c6
                  have e7 := H7.out.1.g.c7
                  have f2 := Rw.fz H7.out.1.g 2
                  have f4 := Rw.fz H7.out.1.g 4
                  have f5 := Rw.fz H7.out.1.g 5
                  have f6 := Rw.fz H7.out.1.g 6
                  have f7 := Rw.fz H7.out.1.g 7
                  have hq1 := H7.out.1.nt.2
                  have hq2 : w2.heap.size ≠ tb := fun e => hq1 e.symm
                  have HF : Hid (Az w1.heap.size w1.heap.size w2.heap.size tb cb s7 ⟨d.ln, d.ht, 4, d.wt, D.x0, D.x1, D.x2, D.x3, d.kp⟩ D s w1 _ ∧ W.Rl s7 ⟨d.ln, d.ht, 4, d.wt, D.x0, D.x1, D.x2, D.x3, d.kp⟩) := ⟨H7.out.1.upd ((H7.out.1.g.dt D.x0 D.x1 D.x2 D.x3).st 4) ((Up.dt w2.heap.size 4 w7 D.x0 D.x1 D.x2 D.x3).trans (Up.set w2.heap.size _ 2 (.int .i64 4))), H7.out.2⟩
                  unfold st4 at HF
                  clear H7
                  go_wp2_with (fail)
                  go_meet
                  case rel => exact ⟨_, _, HF.out⟩
              case false =>
                have hld := HZ.out.t.m
                go_wp2_with (fail)
                refine (dtakes_any HZ.out.g D.m).mono ?_
                rintro e w6 ⟨rfl, hb6⟩
                rw [HRL.out.tk D.m]
                have H6 : Hid (Az w1.heap.size w1.heap.size w2.heap.size tb cb s d D s w1 w6) := HZ.out.below hb6
                clear hb6 HZ hld
                have hld := H6.out.t.m
                go_wp2_with (fail)
                refine (takes_any H6.out.h D.m).mono ?_
                rintro e w7 ⟨rfl, hb7⟩
                have H7 : Hid (Az w1.heap.size w1.heap.size w2.heap.size tb cb s d D s w1 w7) := H6.out.below hb7
                clear hb7 H6 hld
                have hld := H7.out.t.m
                generalize htv : s.tk D.m = tv at *
                have HTV : Hid (s.tk D.m = tv) := htv
                clear htv
                have hne : (tv != tv) = false := by simp
                go_wp2_with (fail)
                refine (H7.out.take D.m).mono ?_
                rintro e w8 ⟨sl, rfl, hm8, hZ8, hn8⟩
                have H8 : Hid (Az w1.heap.size w1.heap.size w2.heap.size tb cb (s.take D.m).1 d D s w1 w8 ∧ Ms sl (s.take D.m).2.1 w8 ∧ ∀ g o, sl.a = some ⟨g, o, none⟩ → g ≠ w2.heap.size) := ⟨hZ8, hm8, hn8⟩
                clear hm8 hZ8 hn8 H7 hld
                obtain ⟨a8, n8, c8⟩ := sl
                cases tv
                · have hT : s.take D.m = (s, [], false) := by unfold W.Lo.take; rw [if_neg (by rw [HTV.out]; decide)]
                  rw [hT] at H8 ⊢
                  clear hT
                  go_wp2_with (fail)
                  refine (samemsgs_self _ ⟨none, 0, 0⟩ _ w8 H8.out.2.1 (ms_nil w8)).mono ?_
                  rintro e w9 ⟨rfl, hb9⟩
                  have HF : Hid (Az w1.heap.size w1.heap.size w2.heap.size tb cb s d D s w1 w9 ∧ W.Rl s d) := ⟨H8.out.1.below hb9, HRL.out⟩
                  clear hb9 H8
                  go_wp2_with (fail)
                  go_meet
                  case rel => exact ⟨_, _, HF.out⟩
                · have hld := H8.out.1.t.m
                  have HLW : Hid (_ ∧ _ ∧ _) := lost_eq HRL.out D.m HTV.out
                  go_wp2_with (fail)
                  refine (H8.out.1.dtake HRL.out D.m HTV.out H8.out.2.1 H8.out.2.2).mono ?_
                  rintro e w9 ⟨sl9, rfl, hm9, hm8, hZ9⟩
                  rw [HLW.out.2.1] at hm9
                  rw [HLW.out.1]
                  have H9 : Hid (Az w1.heap.size w1.heap.size w2.heap.size tb cb (s.take D.m).1 (d.tak D.m).1 D s w1 w9 ∧ W.Rl (s.take D.m).1 (d.tak D.m).1) := ⟨hZ9, HLW.out.2.2⟩
                  have HM : Hid (Ms ⟨a8, n8, c8⟩ (s.take D.m).2.1 w9 ∧ Ms sl9 (s.take D.m).2.1 w9) := ⟨hm8, hm9⟩
                  clear HLW hm9 hm8 hZ9 H8 hld
                  generalize (s.take D.m).2.2 = lv at *
                  have hv : (lv != lv) = false := by simp
                  obtain ⟨a9, n9, c9⟩ := sl9
                  go_wp2_with (fail)
                  refine (samemsgs_self _ _ _ w9 HM.out.1 HM.out.2).mono ?_
                  rintro e w10 ⟨rfl, hb10⟩
                  have HF : Hid (Az w1.heap.size w1.heap.size w2.heap.size tb cb (s.take D.m).1 (d.tak D.m).1 D s w1 w10 ∧ W.Rl (s.take D.m).1 (d.tak D.m).1) := ⟨H9.out.1.below hb10, H9.out.2⟩
                  clear hb10 H9 HM
                  go_wp2_with (fail)
                  go_meet
                  case rel => exact ⟨_, _, HF.out⟩
      case rest =>
        obtain ⟨s1, d1, hZ, hRl⟩ := hcut
        have HC : Hid (Az w1.heap.size w1.heap.size w2.heap.size tb cb s1 d1 D s w1 wc ∧ W.Rl s1 d1) := ⟨hZ, hRl⟩
        clear hZ hRl HZ HRL
        obtain ⟨v, hv⟩ : ∃ v, s1.wt = v := ⟨_, rfl⟩
        obtain ⟨cn, hcn⟩ : ∃ cn : Bool → Bool, ∀ x, s1.can x = cn x := ⟨_, fun _ => rfl⟩
        by_cases he : s1.st = 0
        · as_aux_lemma =>
            have HV : Hid (s1.st = 0 ∧ s1.wt = v ∧ ∀ x, s1.can x = cn x) := ⟨he, hv, hcn⟩
            clear hv hcn
            go_wp2_with (fail)
            refine (data_any HC.out.1.h).mono ?_
            rintro e w5 ⟨rfl, hb5⟩
            rw [if_pos he]
            have hb6 := hb5.trans ((below_alloc w5 (.cells #[.int .u32 0, .int .u32 0, .int .u32 0, .int .u32 0] 29)).mono hb5.size)
            have HG : Hid (Az w1.heap.size w1.heap.size w2.heap.size tb cb s1 d1 D s w1 _ ∧ Rw w5.heap.size #[.int .u32 0, .int .u32 0, .int .u32 0, .int .u32 0] 29 _) := ⟨HC.out.1.below hb6, rw_new w5 _ _⟩
            clear hb5 hb6
            unfold lineV
            go_upto_region 45 with fail
            clear he
            generalize World.alloc w5 _ = W6 at *
            generalize w5.heap.size = lb at *
            have HSt : Hid (∀ wz, Below W6.heap.size W6 wz → Calls Try.prog 9 #[.pointer (some ⟨w1.heap.size, 0, none⟩)] wz fun e w' => e = .returned (.int .i64 0) ∧ wz = w') := fun wz hb' => by
              have := state_any (HG.out.1.below hb').h
              rw [HV.out.1] at this
              exact this
            have HWt : Hid (∀ wz, Below W6.heap.size W6 wz → Calls Try.prog 22 #[.pointer (some ⟨w1.heap.size, 0, none⟩)] wz fun e w' => e = .returned (.int .i64 v) ∧ wz = w') := fun wz hb' => by
              have := waits_any (HG.out.1.below hb').h
              rw [HV.out.2.1] at this
              exact this
            have HCn : Hid (∀ wz, Below W6.heap.size W6 wz → ∀ x, Calls Try.prog 23 #[.pointer (some ⟨w1.heap.size, 0, none⟩), .bool x] wz fun e w' => e = .returned (.bool (cn x)) ∧ wz = w') := fun wz hb' x => by
              have := can_any (HG.out.1.below hb').h x
              rw [HV.out.2.2 x] at this
              exact this
            have HDn : Hid (∀ wz, Below W6.heap.size W6 wz → ∀ x, Calls Try.prog 15 #[.pointer (some ⟨w2.heap.size, 0, none⟩), .bool x] wz fun e w' => e = .returned (.bool (cn x)) ∧ wz = w') := fun wz hb' x => by
              have := dcan_any (HG.out.1.below hb').g x
              rw [HC.out.2.can x, HV.out.2.2 x] at this
              exact this
            have HS : Hid (∀ wz, Below W6.heap.size W6 wz → wz.cell? ⟨w2.heap.size, 2, none⟩ = some (.int .i64 0) ∧ wz.cell? ⟨w2.heap.size, 3, none⟩ = some (.int .i64 v) ∧ wz.cell? ⟨lb, 0, none⟩ = some (.int .u32 0) ∧ wz.cell? ⟨lb, 1, none⟩ = some (.int .u32 0) ∧ wz.cell? ⟨lb, 2, none⟩ = some (.int .u32 0) ∧ wz.cell? ⟨lb, 3, none⟩ = some (.int .u32 0)) := fun wz hb' => by
              have g := (HG.out.1.below hb').g
              have l := Rw.below HG.out.2 hb'
              have g2 := g.c2
              have g3 := g.c3
              rw [HC.out.2.st, HV.out.1] at g2
              rw [HC.out.2.wt, HV.out.2.1] at g3
              exact ⟨g2, g3, l.c 0 rfl, l.c 1 rfl, l.c 2 rfl, l.c 3 rfl⟩
            have hbd : Below W6.heap.size W6 W6.drew := (Below.refl _ _).drew
            have hn1 : (v != v) = false := by simp
            have hn2 : (cn true != cn true) = false := by simp
            have hn3 : (cn false != cn false) = false := by simp
            refine wp_region_quiet (C := fun wz => Below W6.heap.size W6 wz ∧ wz.cell? ⟨w2.heap.size, 2, none⟩ = some (.int .i64 0) ∧ wz.cell? ⟨w2.heap.size, 3, none⟩ = some (.int .i64 v) ∧ wz.cell? ⟨lb, 0, none⟩ = some (.int .u32 0) ∧ wz.cell? ⟨lb, 1, none⟩ = some (.int .u32 0) ∧ wz.cell? ⟨lb, 2, none⟩ = some (.int .u32 0) ∧ wz.cell? ⟨lb, 3, none⟩ = some (.int .u32 0)) (by kernel_rfl) (by kernel_rfl) ⟨hbd, HS.out _ hbd⟩ ?_
            simp only [List.toList_toArray]
            repeat (first
              | go_big_quiet_skip
              | (go_big_quiet_want; go_big_quiet_op; go_big_quiet_on)
              | (go_big_quiet_want
                 apply Exists.intro
                 refine ⟨fun wq hw => ?_, ?_⟩
                 · (try dsimp only at hw)
                   go_simp
                   first
                     | rfl
                     | (go_at_call 9; refine (HSt.out wq hw.1).mono ?_; rintro e wA ⟨rfl, rfl⟩; exact ⟨rfl, hw⟩)
                     | (go_at_call 22; refine (HWt.out wq hw.1).mono ?_; rintro e wA ⟨rfl, rfl⟩; exact ⟨rfl, hw⟩)
                     | (go_at_call 23; refine (HCn.out wq hw.1 _).mono ?_; rintro e wA ⟨rfl, rfl⟩; exact ⟨rfl, hw⟩)
                     | (go_at_call 15; refine (HDn.out wq hw.1 _).mono ?_; rintro e wA ⟨rfl, rfl⟩; exact ⟨rfl, hw⟩)
                     | (go_at_call 24; refine (sameline_self 0 0 0 0 _).mono ?_; rintro e wA ⟨rfl, hbA⟩; exact ⟨rfl, hw.1.trans (hbA.mono hw.1.size), HS.out _ (hw.1.trans (hbA.mono hw.1.size))⟩)
                 (try simp only [Act.put, List.setIfInBounds_toArray, List.set_cons_zero, List.set_cons_succ])
                 go_big_quiet_on))
            refine wpQuiet_nil ?_
            intro wF hSF
            have hbF2 := hSF.1
            have HF : Hid (Az w1.heap.size w1.heap.size w2.heap.size tb cb s1 d1 D s w1 wF ∧ W.Rl s1 d1) := ⟨HG.out.1.below hbF2, HC.out.2⟩
            have hss : (s.st != s.st) = false := by simp
            clear HSt HWt HCn HDn HS hbd hbF2 hSF HG HC hn1 hn2 hn3
            go_wp2_with (fail)
            refine (state_any HF.out.1.c).mono ?_
            rintro e wG ⟨rfl, rfl⟩
            go_wp2_with (fail)
            go_roundw
            case rel => exact ⟨j + 1, s1, d1, by omega, by go_num, HF.out.1.bz, HF.out.2⟩
            case measure => simp [intOf]; omega
        · as_aux_lemma =>
            obtain ⟨z, hz⟩ : ∃ z, s1.st = z := ⟨_, rfl⟩
            have HV : Hid (s1.st = z ∧ s1.wt = v ∧ ∀ x, s1.can x = cn x) := ⟨hz, hv, hcn⟩
            have HNz : Hid (¬ z = 0) := (show ¬ z = 0 by rw [← hz]; exact he)
            have HNZ : Hid (s1.hd ≠ 0) := (show s1.hd ≠ 0 by
              intro e
              apply he
              unfold W.Lo.st
              split
              · rfl
              · exact e)
            clear hv hcn hz
            obtain ⟨y0, hy0⟩ : ∃ y, s1.e0 = y := ⟨_, rfl⟩
            obtain ⟨y1, hy1⟩ : ∃ y, s1.e1 = y := ⟨_, rfl⟩
            obtain ⟨y2, hy2⟩ : ∃ y, s1.e2 = y := ⟨_, rfl⟩
            obtain ⟨y3, hy3⟩ : ∃ y, s1.e3 = y := ⟨_, rfl⟩
            go_wp2_with (fail)
            refine (data_any HC.out.1.h).mono ?_
            rintro e w5 ⟨rfl, hb5⟩
            rw [if_neg he]
            have hb6 := hb5.trans ((below_alloc w5 (.cells #[.int .u32 y0, .int .u32 y1, .int .u32 y2, .int .u32 y3] 29)).mono hb5.size)
            have HG : Hid (Az w1.heap.size w1.heap.size w2.heap.size tb cb s1 d1 D s w1 _ ∧ Rw w5.heap.size #[.int .u32 y0, .int .u32 y1, .int .u32 y2, .int .u32 y3] 29 _) := ⟨HC.out.1.below hb6, rw_new w5 _ _⟩
            clear hb5 hb6
            have HY : Hid (y0 = s1.e0 ∧ y1 = s1.e1 ∧ y2 = s1.e2 ∧ y3 = s1.e3) := ⟨hy0.symm, hy1.symm, hy2.symm, hy3.symm⟩
            rw [hy0, hy1, hy2, hy3]
            clear hy0 hy1 hy2 hy3
            unfold lineV
            go_upto_region 45 with fail
            clear he
            generalize World.alloc w5 _ = W6 at *
            generalize w5.heap.size = lb at *
            have HSt : Hid (∀ wz, Below W6.heap.size W6 wz → Calls Try.prog 9 #[.pointer (some ⟨w1.heap.size, 0, none⟩)] wz fun e w' => e = .returned (.int .i64 z) ∧ wz = w') := fun wz hb' => by
              have := state_any (HG.out.1.below hb').h
              rw [HV.out.1] at this
              exact this
            have HWt : Hid (∀ wz, Below W6.heap.size W6 wz → Calls Try.prog 22 #[.pointer (some ⟨w1.heap.size, 0, none⟩)] wz fun e w' => e = .returned (.int .i64 v) ∧ wz = w') := fun wz hb' => by
              have := waits_any (HG.out.1.below hb').h
              rw [HV.out.2.1] at this
              exact this
            have HCn : Hid (∀ wz, Below W6.heap.size W6 wz → ∀ x, Calls Try.prog 23 #[.pointer (some ⟨w1.heap.size, 0, none⟩), .bool x] wz fun e w' => e = .returned (.bool (cn x)) ∧ wz = w') := fun wz hb' x => by
              have := can_any (HG.out.1.below hb').h x
              rw [HV.out.2.2 x] at this
              exact this
            have HDn : Hid (∀ wz, Below W6.heap.size W6 wz → ∀ x, Calls Try.prog 15 #[.pointer (some ⟨w2.heap.size, 0, none⟩), .bool x] wz fun e w' => e = .returned (.bool (cn x)) ∧ wz = w') := fun wz hb' x => by
              have := dcan_any (HG.out.1.below hb').g x
              rw [HC.out.2.can x, HV.out.2.2 x] at this
              exact this
            have HS : Hid (∀ wz, Below W6.heap.size W6 wz → wz.cell? ⟨w2.heap.size, 2, none⟩ = some (.int .i64 z) ∧ wz.cell? ⟨w2.heap.size, 3, none⟩ = some (.int .i64 v) ∧ wz.cell? ⟨w2.heap.size, 4, none⟩ = some (.int .u32 y0) ∧ wz.cell? ⟨w2.heap.size, 5, none⟩ = some (.int .u32 y1) ∧ wz.cell? ⟨w2.heap.size, 6, none⟩ = some (.int .u32 y2) ∧ wz.cell? ⟨w2.heap.size, 7, none⟩ = some (.int .u32 y3) ∧ wz.cell? ⟨lb, 0, none⟩ = some (.int .u32 y0) ∧ wz.cell? ⟨lb, 1, none⟩ = some (.int .u32 y1) ∧ wz.cell? ⟨lb, 2, none⟩ = some (.int .u32 y2) ∧ wz.cell? ⟨lb, 3, none⟩ = some (.int .u32 y3)) := fun wz hb' => by
              have g := (HG.out.1.below hb').g
              have l := Rw.below HG.out.2 hb'
              have g2 := g.c2
              have g3 := g.c3
              obtain ⟨q0, q1, q2, q3⟩ := HC.out.2.da HNZ.out
              obtain ⟨r0, r1, r2, r3⟩ := HY.out
              have g4 := g.c4
              have g5 := g.c5
              have g6 := g.c6
              have g7 := g.c7
              rw [q0, ← r0] at g4
              rw [q1, ← r1] at g5
              rw [q2, ← r2] at g6
              rw [q3, ← r3] at g7
              rw [HC.out.2.st, HV.out.1] at g2
              rw [HC.out.2.wt, HV.out.2.1] at g3
              exact ⟨g2, g3, g4, g5, g6, g7, l.c 0 rfl, l.c 1 rfl, l.c 2 rfl, l.c 3 rfl⟩
            have hbd : Below W6.heap.size W6 W6.drew := (Below.refl _ _).drew
            have hn1 : (v != v) = false := by simp
            have hn2 : (cn true != cn true) = false := by simp
            have hn3 : (cn false != cn false) = false := by simp
            have hz1 : (z != z) = false := by simp
            have hz2 : (z != 0) = true := by have := HNz.out; simpa using this
            refine wp_region_quiet (C := fun wz => Below W6.heap.size W6 wz ∧ wz.cell? ⟨w2.heap.size, 2, none⟩ = some (.int .i64 z) ∧ wz.cell? ⟨w2.heap.size, 3, none⟩ = some (.int .i64 v) ∧ wz.cell? ⟨w2.heap.size, 4, none⟩ = some (.int .u32 y0) ∧ wz.cell? ⟨w2.heap.size, 5, none⟩ = some (.int .u32 y1) ∧ wz.cell? ⟨w2.heap.size, 6, none⟩ = some (.int .u32 y2) ∧ wz.cell? ⟨w2.heap.size, 7, none⟩ = some (.int .u32 y3) ∧ wz.cell? ⟨lb, 0, none⟩ = some (.int .u32 y0) ∧ wz.cell? ⟨lb, 1, none⟩ = some (.int .u32 y1) ∧ wz.cell? ⟨lb, 2, none⟩ = some (.int .u32 y2) ∧ wz.cell? ⟨lb, 3, none⟩ = some (.int .u32 y3)) (by kernel_rfl) (by kernel_rfl) ⟨hbd, HS.out _ hbd⟩ ?_
            simp only [List.toList_toArray]
            repeat (first
              | go_big_quiet_skip
              | (go_big_quiet_want; go_big_quiet_op; go_big_quiet_on)
              | (go_big_quiet_want
                 apply Exists.intro
                 refine ⟨fun wq hw => ?_, ?_⟩
                 · (try dsimp only at hw)
                   go_simp
                   first
                     | rfl
                     | (go_at_call 9; refine (HSt.out wq hw.1).mono ?_; rintro e wA ⟨rfl, rfl⟩; exact ⟨rfl, hw⟩)
                     | (go_at_call 22; refine (HWt.out wq hw.1).mono ?_; rintro e wA ⟨rfl, rfl⟩; exact ⟨rfl, hw⟩)
                     | (go_at_call 23; refine (HCn.out wq hw.1 _).mono ?_; rintro e wA ⟨rfl, rfl⟩; exact ⟨rfl, hw⟩)
                     | (go_at_call 15; refine (HDn.out wq hw.1 _).mono ?_; rintro e wA ⟨rfl, rfl⟩; exact ⟨rfl, hw⟩)
                     | (go_at_call 24; refine (sameline_self y0 y1 y2 y3 _).mono ?_; rintro e wA ⟨rfl, hbA⟩; exact ⟨rfl, hw.1.trans (hbA.mono hw.1.size), HS.out _ (hw.1.trans (hbA.mono hw.1.size))⟩)
                 (try simp only [Act.put, List.setIfInBounds_toArray, List.set_cons_zero, List.set_cons_succ])
                 go_big_quiet_on))
            refine wpQuiet_nil ?_
            intro wF hSF
            have hbF2 := hSF.1
            have HF : Hid (Az w1.heap.size w1.heap.size w2.heap.size tb cb s1 d1 D s w1 wF ∧ W.Rl s1 d1) := ⟨HG.out.1.below hbF2, HC.out.2⟩
            have hss : (s.st != s.st) = false := by simp
            clear HSt HWt HCn HDn HS hbd hbF2 hSF HG HC hn1 hn2 hn3
            go_wp2_with (fail)
            refine (state_any HF.out.1.c).mono ?_
            rintro e wG ⟨rfl, rfl⟩
            go_wp2_with (fail)
            go_roundw
            case rel => exact ⟨j + 1, s1, d1, by omega, by go_num, HF.out.1.bz, HF.out.2⟩
            case measure => simp [intOf]; omega
    · go_wp2
      go_ret
      exact ⟨rfl, HB1.out.trans (HR.out.1.b.mono HB1.out.size)⟩
end Go.Proofs.Ytogchippkenppaa
