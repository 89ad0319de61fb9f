/- net: NetWhole's walk. -/
import Derived.Test.YtaioioilfanpeaaDoorNetJ
import Derived.Test.YtaioioilfanpeaaDoorNetK
namespace Go.Proofs.YtaioioilfanpeaaDoor
open Go.ChangeShapes Go.WideShapes Go.ChangeAt Go.RowKit
set_option linter.unusedVariables false
set_option linter.unusedSimpArgs false
attribute [local go_sem ↓] ldM_eq stM_eq bsM_eq bdM_eq

def W.mW (bad : Int) (i : Nat) : W.Mg := W.m4 1 (if (i : Int) = bad then -1 else i) ((i : Int) % 2) (-1)
def W.msW (bad : Int) (n : Nat) : List W.Mg := (List.range n).map (W.mW bad)
theorem W.msW_len (bad : Int) (n : Nat) : (W.msW bad n).length = n := by simp [W.msW]
theorem W.msW_succ (bad : Int) (n : Nat) : W.msW bad (n + 1) = W.msW bad n ++ [W.mW bad n] := by simp [W.msW, List.range_succ]
theorem W.msW_get (bad : Int) (n j : Nat) (h : j < n) : (W.msW bad n)[j]? = some (W.mW bad j) := by
  unfold W.msW
  rw [List.getElem?_map, List.getElem?_range h]
  rfl
def goodW : Bool := (List.range 20).all fun n => (List.range 20).all fun bad => if bad < n then W.ers 2 (rmN 2 30) (W.msW bad n) 0 == some (bad, 2) else W.ers 2 (rmN 2 30) (W.msW bad n) 0 == none
theorem goodW_t : goodW = true := by decide +kernel
theorem ersW_bad (n bad : Nat) (hn : n < 20) (hb : bad < n) : W.ers 2 (rmN 2 30) (W.msW bad n) 0 = some (bad, 2) := by
  have := List.all_eq_true.1 (List.all_eq_true.1 goodW_t n (List.mem_range.2 hn)) bad (List.mem_range.2 (by omega))
  rw [if_pos hb] at this
  simpa using this
theorem ersW_ok (n bad : Nat) (hn : n < 20) (hb : bad < 20) (h : ¬ bad < n) : W.ers 2 (rmN 2 30) (W.msW bad n) 0 = none := by
  have := List.all_eq_true.1 (List.all_eq_true.1 goodW_t n (List.mem_range.2 hn)) bad (List.mem_range.2 hb)
  rw [if_neg h] at this
  simpa using this
/-- The law's list of messages grows; all of before stays. -/
structure Lq (w2 : World) (lv : Value) (ms : List W.Mg) (w : World) : Prop where
  o : w.ownsRow w2.heap.size 47 11 lv ms.length (mgX ms)
  b : Below w2.heap.size w2 w
theorem Lq.below {w2 w w' : World} {lv : Value} {ms : List W.Mg} (H : Lq w2 lv ms w) (hb : Below w.heap.size w w') : Lq w2 lv ms w' := ⟨own_below H.o hb, H.b.trans (hb.mono H.b.size)⟩
theorem Lq.app {w2 w w' : World} {lv : Value} {ms : List W.Mg} (H : Lq w2 lv ms w) (m : W.Mg) (o : Obj) (g cap : Nat) (ho : w'.ownsRow w2.heap.size 47 11 (.slice (some ⟨g, 0, none⟩) (ms.length + 1) cap) (ms.length + 1) (mgX ms ++ mgL m)) (hg : (w.alloc o).grownBy w' lv.ownBlock) : Lq w2 (.slice (some ⟨g, 0, none⟩) (ms.length + 1) cap) (ms ++ [m]) w' := by
  refine ⟨?_, ?_⟩
  · rw [List.length_append, mgX_app]
    exact ho
  · exact (H.b.alloc H.b.size _).grown hg (Nat.le_trans H.b.size (below_alloc w o).size) (fun b e => (H.o.lt b e).1)

theorem Lq.step {w2 w w6 : World} {lv : Value} {B : Int} {j : Nat} (H : Lq w2 lv (W.msW B j) w) (o1 o2 : Obj) (g cap : Nat) (ho : w6.ownsRow w2.heap.size 47 11 (.slice (some ⟨g, 0, none⟩) (j + 1) cap) (j + 1) (mgX (W.msW B j) ++ mgL (W.mW B j))) (hg : ((w.alloc o1).alloc o2).grownBy w6 lv.ownBlock) : Lq w2 (.slice (some ⟨g, 0, none⟩) (j + 1) cap) (W.msW B (j + 1)) w6 := by
  have q := (H.below (below_alloc w o1)).app (W.mW B j) o2 g cap (by rw [W.msW_len]; exact ho) hg
  rw [W.msW_len] at q
  rw [W.msW_succ]
  exact q
theorem Lq.own {w2 w : World} {lv : Value} {B : Int} {j : Nat} (H : Lq w2 lv (W.msW B j) w) (o1 o2 : Obj) : ((w.alloc o1).alloc o2).ownsRow w2.heap.size 47 11 lv j (mgX (W.msW B j)) := by
  have q := ((H.below (below_alloc w o1)).below (below_alloc _ o2)).o
  rw [W.msW_len] at q
  exact q

theorem own_fl {v : Value} {L : List W.Fl} {base : Nat} {w : World} (ho : w.ownsRow base 66 12 v L.length (flX L)) : ∃ a cap, v = .slice a L.length cap ∧ L.length ≤ cap ∧ (0 < L.length → ∃ g, a = some ⟨g, 0, none⟩ ∧ ∀ j f, L[j]? = some f → w.rangeAt g (j * 12) (flL f)) := by
  have HO := ho
  rcases ho.2 with ⟨h1, h2⟩ | ⟨g, cap, cur, h1, hbg, hg, hnc, hcm, hcs, htk⟩
  · exact ⟨none, 0, by rw [h1, h2], by omega, fun h => by omega⟩
  · subst h1
    refine ⟨_, cap, rfl, hnc, fun _ => ⟨g, rfl, fun j f hf i v hv => ?_⟩⟩
    have hi : i < 12 := (List.getElem?_eq_some_iff.1 hv).1
    have hj : j < L.length := (List.getElem?_eq_some_iff.1 hf).1
    rw [HO.cellAt (j * 12 + i) (by omega), flX_get L j i f hf hi]
    exact hv

set_option maxRecDepth 10000 in
set_option maxHeartbeats 1600000 in
theorem whole_any (A : Nat → Addr) (n bad : Int) (n0 : -9223372036854775808 ≤ n) (n1 : n ≤ 9223372036854775807) (b0 : -9223372036854775808 ≤ bad) (b1 : bad ≤ 9223372036854775807) (w : World) (hS : Sent A w) :
    Calls Tryd.prog 6 #[.int .i64 n, .int .i64 bad] w fun e w' => e = .returned (.bool true) ∧ Below w.heap.size w w' := by
  have bd := bdM_4
  have bs := bsM_any
  have HS : Hid (Sent A w) := hS
  clear hS
  go_enter Tryd.func6, Tryd.ntmps6
  go_wp2_with (fail)
  refine (first16_any A w HS.out).mono ?_
  rintro e w1 ⟨rfl, hb1⟩
  go_wp2_with (fail)
  have hr := number_eq n 20 (by decide) (by decide)
  have hr2 := number_eq bad 20 (by decide) (by decide)
  generalize (wrap64 (n.tmod 20 + 20)).tmod 20 = nn at *
  generalize wrap64 (n.tmod 20 + 20) = x2 at *
  generalize n.tmod 20 = x3 at *
  generalize (wrap64 (bad.tmod 20 + 20)).tmod 20 = bb at *
  generalize wrap64 (bad.tmod 20 + 20) = y2 at *
  generalize bad.tmod 20 = y3 at *
  obtain ⟨N, rfl⟩ : ∃ N : Nat, nn = N := ⟨nn.toNat, by omega⟩
  obtain ⟨B, rfl⟩ : ∃ B : Nat, bb = B := ⟨bb.toNat, by omega⟩
  have hN20 : N < 20 := by omega
  have hB20 : B < 20 := by omega
  clear hr hr2
  refine (new_ok 2 30 (by decide) (by decide) (by decide) (by decide) w1).mono ?_
  rintro e w2 ⟨rfl, hN, hB⟩
  have HL : Hid (Nt w1.heap.size w1.heap.size 2 (rmN 2 30) 0 (.slice none 0 0) [] w2 ∧ Below w.heap.size w w2 ∧ w.heap.size ≤ w1.heap.size) := ⟨hN, hb1.trans (hB.mono hb1.size), hb1.size⟩
  clear hN hB hb1
  generalize w1.heap.size = nb at *
  go_wp2
  go_loopw [8, 9] (fun lv i wr => ∃ j : Nat, j ≤ N ∧ i = .int .i64 j ∧ Lq w2 lv (W.msW B j) wr) (fun _ i _ => 20 - (intOf i).toNat)
  case atStart => exact ⟨0, by omega, rfl, ⟨rfl, Or.inl ⟨rfl, rfl⟩⟩, Below.refl _ _⟩
  case round =>
    obtain ⟨j, hj, rfl, hq⟩ := hrel
    have HQ : Hid (Lq w2 u8 (W.msW B j) wr) := hq
    clear hq
    by_cases hlt : j < N
    · have jm : (j : Int).tmod 2 = (j : Int) % 2 := Int.tmod_eq_emod_of_nonneg (by omega)
      have hst := stM_new wr
      have hbase : w2.heap.size ≤ wr.heap.size + 1 + 1 := by have := HQ.out.b.size; omega
      obtain ⟨ti, hi, hzz⟩ := Option.map_eq_some_iff.1 infoMg
      simp only [Prod.mk.injEq] at hzz
      obtain ⟨hz0, hz1, hz2⟩ := hzz
      by_cases hjb : j = B
      · subst hjb
        have e3 : (mgL (W.m4 1 j ((j : Int) % 2) (-1))).set 1 (.int .i64 (-1)) = mgL (W.mW j j) := by unfold W.mW; rw [if_pos rfl]; rfl
        have hM := (msgAt_new wr (W.m4 1 j ((j : Int) % 2) (-1)))
        have l1 := hM.c1
        have l2 := hM.f1
        have hM3 : MsgAt wr.heap.size (W.mW j j) (wr.alloc (.cells ((mgL (W.m4 1 j ((j : Int) % 2) (-1))).set 1 (.int .i64 (-1))).toArray 47)) := by
          rw [e3]
          exact msgAt_new _ _
        have hl3 := hM3.ld
        have HNW : Hid (∀ i u, (mgL (W.mW j j))[i]? = some u → ((wr.alloc (.cells ((mgL (W.m4 1 j ((j : Int) % 2) (-1))).set 1 (.int .i64 (-1))).toArray 47)).alloc (.cells (mgL (W.mW j j)).toArray 47)).cell? ((⟨wr.heap.size + 1, 0, none⟩ : Addr).add i) = some u) := by
          have q := (msgAt_new (wr.alloc (.cells ((mgL (W.m4 1 j ((j : Int) % 2) (-1))).set 1 (.int .i64 (-1))).toArray 47)) (W.mW j j)).news
          rw [show (wr.alloc (.cells ((mgL (W.m4 1 j ((j : Int) % 2) (-1))).set 1 (.int .i64 (-1))).toArray 47)).heap.size = wr.heap.size + 1 by simp] at q
          exact q
        clear e3 hM hM3
        go_wp2_with (at_builtin; refine wpList_append_lies _ rfl _ _ 34 rfl w2.heap.size 47 ti (.agg zMg) 11 56 Tryd.underlying34 hi hz0 hz1 hz2 rfl (by decide) u8 j (mgX (W.msW j j)) rfl (HQ.out.own _ _) ⟨wr.heap.size + 1, 0, none⟩ 1 1 (mgL (W.mW j j)) rfl rfl HNW.out (oneM _) (by decide) (by unfold maxLen; omega) (by omega) (by simp; omega) (wr.heap.size + 1 + 1) (by simp) ?_; intro g cap w6 hown6 hg6 hat6 hlt6)
        have H6 : Hid (_) := HQ.out.step _ _ g cap hown6 hg6
        clear hown6 hg6 hat6 HNW HQ l1 l2 hl3
        go_wp2
        go_roundw
        case rel => exact ⟨j + 1, by omega, by go_num, H6.out⟩
        case measure => simp [intOf]; omega
      · have hjb' : ¬ (j : Int) = B := by omega
        have eB : W.m4 1 j ((j : Int) % 2) (-1) = W.mW B j := by unfold W.mW; rw [if_neg hjb']
        have hM := (msgAt_new wr (W.m4 1 j ((j : Int) % 2) (-1)))
        have hl3 := hM.ld
        have HNW : Hid (∀ i u, (mgL (W.mW B j))[i]? = some u → ((wr.alloc (.cells (mgL (W.m4 1 j ((j : Int) % 2) (-1))).toArray 47)).alloc (.cells (mgL (W.m4 1 j ((j : Int) % 2) (-1))).toArray 47)).cell? ((⟨wr.heap.size + 1, 0, none⟩ : Addr).add i) = some u) := by
          have q := (msgAt_new (wr.alloc (.cells (mgL (W.m4 1 j ((j : Int) % 2) (-1))).toArray 47)) (W.m4 1 j ((j : Int) % 2) (-1))).news
          rw [show (wr.alloc (.cells (mgL (W.m4 1 j ((j : Int) % 2) (-1))).toArray 47)).heap.size = wr.heap.size + 1 by simp] at q
          rw [← eB]
          exact q
        clear eB hM
        go_wp2_with (at_builtin; refine wpList_append_lies _ rfl _ _ 34 rfl w2.heap.size 47 ti (.agg zMg) 11 56 Tryd.underlying34 hi hz0 hz1 hz2 rfl (by decide) u8 j (mgX (W.msW B j)) rfl (HQ.out.own _ _) ⟨wr.heap.size + 1, 0, none⟩ 1 1 (mgL (W.mW B j)) rfl rfl HNW.out (oneM _) (by decide) (by unfold maxLen; omega) (by omega) (by simp; omega) (wr.heap.size + 1 + 1) (by simp) ?_; intro g cap w6 hown6 hg6 hat6 hlt6)
        have H6 : Hid (_) := HQ.out.step _ _ g cap hown6 hg6
        clear hown6 hg6 hat6 HNW HQ hl3
        go_wp2
        go_roundw
        case rel => exact ⟨j + 1, by omega, by go_num, H6.out⟩
        case measure => simp [intOf]; omega
    · obtain rfl : j = N := by omega
      obtain ⟨s, rfl, hMs, hap⟩ := ms_own HQ.out.o (by rw [W.msW_len]; omega)
      have hN := HL.out.1.below HQ.out.b
      have hB3 := HL.out.2.1.trans (HQ.out.b.mono HL.out.2.1.size)
      have HB : Hid (_ ∧ _ ∧ _ ∧ _) := ⟨hN, hMs, hap, hB3⟩
      have HO : Hid (∀ b o, s.a = some ⟨b, o, none⟩ → b ≠ nb) := fun b o e => by
        have := (HQ.out.o.lt b (hap b o e)).1
        have := HL.out.1.b.lt
        omega
      clear hN hMs hap hB3 HQ
      generalize hsv : slV s = sv at *
      have HV : Hid (sv = slV s) := hsv.symm
      clear hsv
      by_cases hbn : B < j
      · have hbn' : (B : Int) < j := by omega
        go_wp2_with (fail)
        rw [HV.out]
        refine (send_bad A nb nb 2 (by decide) (rmN 2 30) (rmN_ok 2 30 (by decide) (by decide)) 0 _ [] s (W.msW B j) B 2 _ HB.out.1 HB.out.2.1 (HS.out.below HB.out.2.2.2) (ersW_bad j B hN20 hbn)).mono ?_
        rintro e w4 ⟨⟨q, rfl, hq⟩, hB4⟩
        rw [← HV.out]
        have hb4 := HB.out.2.2.2.trans (hB4.mono HB.out.2.2.2.size)
        have pl : ∀ w, Calls Tryd.prog 26 #[.int .i64 103, .int .i64 (B : Int)] w _ := fun w => placed_any 2 (B : Int) w
        have HQ : Hid (_ ∧ _ ∧ _ ∧ _ ∧ _) := ⟨pl, hq, HS.out.below hb4, HB.out.1.below hB4, hb4⟩
        clear pl hq hb4 hB4
        go_wp2_with (fail)
        refine (HQ.out.1 _).mono ?_
        rintro e w7 ⟨rfl, b7, hc7, hl7⟩
        have sm := same_pl A 2 (by decide) q (B : Int) w4 w7 HQ.out.2.2.1 HQ.out.2.1 b7 hc7
        have HS2 : Hid (Calls _ _ _ _ _ ∧ _ ∧ _) := ⟨sm, HQ.out.2.2.2.1.below b7, HQ.out.2.2.2.2.trans (b7.mono HQ.out.2.2.2.2.size)⟩
        clear sm hc7 hl7 b7 HQ
        go_wp2_with (fail)
        refine HS2.out.1.mono ?_
        rintro e w8 ⟨rfl, b8⟩
        have HF : Hid (_ ∧ _) := ⟨HS2.out.2.1.below b8, HS2.out.2.2.trans (b8.mono HS2.out.2.2.size)⟩
        clear b8 HS2
        go_wp2_with (fail)
        refine (len_any HF.out.1).mono ?_
        rintro e w9 ⟨rfl, rfl⟩
        go_wp2
        go_ret
        exact ⟨rfl, HF.out.2⟩
      · have hbn' : ¬ (B : Int) < j := by omega
        go_wp2_with (fail)
        rw [HV.out]
        refine (send_ok nb nb 2 (by decide) (rmN 2 30) (rmN_ok 2 30 (by decide) (by decide)) 0 (by decide) (by decide) _ [] s (W.msW B j) (by rw [W.msW_len]; show 0 + j ≤ 8192; omega) _ HB.out.1 HB.out.2.1 (fun b o e => ⟨HO.out b o e, by simp [Value.ownBlock]⟩) (ersW_ok j B hN20 hB20 hbn)).mono ?_
        rintro e w4 ⟨rfl, f4, hN4, hU4⟩
        rw [← HV.out]
        have hb4 := HB.out.2.2.2.trans (hU4.below (n := w.heap.size) HB.out.2.2.2.size HL.out.2.2 (by intro b e; cases e))
        have hlen : ([] ++ W.fls 0 (W.msW B j)).length = j := by rw [List.nil_append, W.fls_len, W.msW_len]
        have HF : Hid (_ ∧ _ ∧ _) := ⟨hN4, hb4, hlen⟩
        clear hN4 hb4 hU4 hlen
        go_wp2_with (fail)
        refine (all_any (by have := HF.out.2.2; omega) HF.out.1).mono ?_
        rintro e w5 ⟨⟨v5, rfl, ho5⟩, hB5⟩
        obtain ⟨a5, c5, rfl, hc5, hg5⟩ := own_fl ho5
        rw [HF.out.2.2] at hc5 hg5 ⊢
        have HG : Hid (_ ∧ _) := ⟨hg5, HF.out.2.1.trans (hB5.mono HF.out.2.1.size)⟩
        clear hg5 hB5 ho5
        go_wp2
        go_loopw [13] (fun i wr => ∃ k : Nat, k ≤ j ∧ i = .int .i64 k ∧ w5 = wr) (fun i _ => 20 - (intOf i).toNat)
        case atStart => exact ⟨0, by omega, rfl, rfl⟩
        case round =>
          obtain ⟨k, hk, rfl, rfl⟩ := hrel
          by_cases hlt2 : k < j
          · obtain ⟨g, rfl, hg⟩ := HG.out.1 (by omega)
            have hf : ([] ++ W.fls 0 (W.msW B j))[k]? = some ⟨0 + (k : Int), W.mW B k⟩ := by
              rw [List.nil_append]
              exact fls_get _ _ _ _ (W.msW_get B j k hlt2)
            have hr := hg k _ hf
            have r0 : w5.cell? ⟨g, k * 12, none⟩ = some (.int .i64 (k : Int)) := by
              have := hr 0 _ rfl
              rw [Int.zero_add] at this
              exact this
            have r1 : w5.cell? ⟨g, k * 12 + 2, none⟩ = some (.int .i64 (k : Int)) := by
              have := hr 2 _ rfl
              rw [this]
              show some (Value.int .i64 (if (k : Int) = B then -1 else k)) = _
              rw [if_neg (by omega)]
            clear hr hf hg
            go_wp2
            go_roundw
            case rel => exact ⟨k + 1, by omega, by go_num, by first | rfl | trivial⟩
            case measure => simp [intOf]; omega
          · obtain rfl : k = j := by omega
            go_wp2
            go_ret
            exact ⟨rfl, HG.out.2⟩
end Go.Proofs.YtaioioilfanpeaaDoor
