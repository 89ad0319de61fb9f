/- HomeAlone: the walk. -/
import Derived.Test.YtadkpelcbnljbaaHomAlS2
import Derived.Test.YtadkpelcbnljbaaHomSharesL
import Derived.Test.YtadkpelcbnljbaaHomPutsWalk
import Derived.Deep.CutRange
import Derived.Deep.AppendLies
import Derived.ArgAppend
namespace Go.Proofs.Ytadkpelcbnljbaa
open Go.ChangeShapes Go.WideShapes Go.ChangeAt Go.RowKit
set_option linter.unusedVariables false
set_option linter.unusedSimpArgs false
attribute [local go_sem ↓] ldM_eq stM_eq bdM_eq bsM_eq
variable {n0 hb : Nat} {s s' : W.Hm} {sv av sv' av' sv'' av'' : Value} {w w' w'' : World}
/-- A goal as an instance: what is had so is a lemma of its own, for the kernel as for the elaborator. -/
class Bx (p : Prop) : Prop where
  out : p
def mkA (x y : Value) : Sem Value := Instr.makeSlice 39 x y
theorem mkA_eq (x y : Value) : Instr.makeSlice 39 x y = mkA x y := rfl
theorem mkA_4 (w : World) : (mkA (.int .i64 4) (.int .i64 4)).run Try.prog w = .ok (.slice (some ⟨w.heap.size, 0, none⟩) 4 4) (w.alloc (.cells #[.int .i64 0, .int .i64 0, .int .i64 0, .int .i64 0] 3)) := by kernel_rfl
attribute [local go_sem ↓] mkA_eq
theorem infoIa : (Try.prog.info? 3).map (fun i => (i.zero, i.size, i.bytes)) = some (some (.int .i64 0), 1, 8) := by kernel_rfl

set_option maxRecDepth 10000 in
set_option maxHeartbeats 1600000 in
theorem alone_long (a : Option Addr) (n c : Nat) (x0 x1 x2 x3 : Int) (hn : 60 < n) (hn2 : n ≤ maxLen) (w : World) :
    Calls Try.prog 4 #[.slice a n c, .agg #[.int .u32 x0, .int .u32 x1, .int .u32 x2, .int .u32 x3]] w fun e w' => e = .returned (.bool true) ∧ Below w.heap.size w w' := by
  have hb1 := below_alloc w (.cells #[.int .u32 x0, .int .u32 x1, .int .u32 x2, .int .u32 x3] 24)
  have HB : Hid (_) := hb1
  have hgt : (60 : Int) < n := by omega
  clear hb1
  go_enter Try.func4, Try.ntmps4
  go_wp2_with (fail)
  generalize World.alloc w _ = W1 at *
  refine (first18_any W1).mono ?_
  rintro e w1 ⟨rfl, hb1⟩
  have HB1 : Hid (_) := HB.out.trans (hb1.mono HB.out.size)
  clear hb1
  go_wp2
  go_ret
  exact ⟨rfl, HB1.out⟩

set_option maxRecDepth 10000 in
set_option maxHeartbeats 32000000 in
theorem alone_small (a : Option Addr) (N c : Nat) (q : Nat → Int) (x0 x1 x2 x3 : Int) (hn : N ≤ 60) (w : World) (hO : 0 < N → ∃ b o, a = some ⟨b, o, none⟩ ∧ b < w.heap.size ∧ ∀ j, j < N → w.cell? ⟨b, o + j, none⟩ = some (.int .i64 (q j))) :
    Calls Try.prog 4 #[.slice a N c, .agg #[.int .u32 x0, .int .u32 x1, .int .u32 x2, .int .u32 x3]] w fun e w' => e = .returned (.bool true) ∧ Below w.heap.size w w' := by
  have hb1 := below_alloc w (.cells #[.int .u32 x0, .int .u32 x1, .int .u32 x2, .int .u32 x3] 24)
  have la := lnAt_new w x0 x1 x2 x3
  have HB : Hid (_ ∧ _) := ⟨la, hb1⟩
  have HO : Hid (_) := hO
  have hle : (N : Int) ≤ 60 := by omega
  have HNs : Hid (N ≤ 60) := hn
  clear hb1 la hO hn
  go_enter Try.func4, Try.ntmps4
  go_wp2_with (fail)
  generalize World.alloc w _ = W1 at *
  refine (first18_any W1).mono ?_
  rintro e w1 ⟨rfl, hb1⟩
  have HB1 : Hid (LnAt w.heap.size x0 x1 x2 x3 w1 ∧ Below w.heap.size w w1) := ⟨HB.out.1.below hb1, HB.out.2.trans (hb1.mono HB.out.2.size)⟩
  clear hb1 HB
  have q0 := HB1.out.1.c0
  have q1 := HB1.out.1.c1
  have q2 := HB1.out.1.c2
  have q3 := HB1.out.1.c3
  go_wp2_with (fail)
  refine (new_any 0 4 x0 x1 x2 x3 w1).mono ?_
  rintro e w2 ⟨rfl, hH, hb⟩
  have HH : Hid (_) := Hq.new 0 4 x0 x1 x2 x3 w1 w2 (by decide) (by decide) hH hb
  have l2 := HB1.out.1.below hb
  clear hH hb q0 q1 q2 q3
  generalize w1.heap.size + 1 = hb at *
  have q0 := l2.c0
  have q1 := l2.c1
  have q2 := l2.c2
  have q3 := l2.c3
  have l2l := l2.lt
  clear l2
  have mk4 := mkA_4
  go_upto_region 10 with fail
  have hb2 := below_alloc w2 (.cells #[.int .i64 0, .int .i64 0, .int .i64 0, .int .i64 0] 3)
  have hs2 : SgAt w2.heap.size [0, 0, 0, 0] (w2.alloc (.cells #[.int .i64 0, .int .i64 0, .int .i64 0, .int .i64 0] 3)) := heap_alloc_last w2 _
  have H2 : Hid (_ ∧ _ ∧ _ ∧ _) := ⟨hb2, hs2, HH.out, (HB1.out.1.low HH.out.b HB1.out.1.lt).below hb2⟩
  clear hb2 hs2 q0 q1 q2 q3 mk4 HH
  have hl2 : w2.heap.size < (w2.alloc (.cells #[.int .i64 0, .int .i64 0, .int .i64 0, .int .i64 0] 3)).heap.size := by simp
  have HQ2 : Hid (Hq w1.heap.size hb (W.hm0 0 4 x0 x1 x2 x3) (fun b => False ∨ b = w2.heap.size) w1 (w2.alloc (.cells #[.int .i64 0, .int .i64 0, .int .i64 0, .int .i64 0] 3)) ∧ w1.heap.size ≤ w2.heap.size ∧ w2.heap.size < (w2.alloc (.cells #[.int .i64 0, .int .i64 0, .int .i64 0, .int .i64 0] 3)).heap.size) := ⟨H2.out.2.2.1.addB H2.out.1 (Nat.le_refl _) hl2, H2.out.2.2.1.lo, hl2⟩
  clear hl2
  generalize World.alloc w2 _ = w3 at *
  generalize w2.heap.size = sb at *
  have q0 := H2.out.2.2.2.c0
  have q1 := H2.out.2.2.2.c1
  have q2 := H2.out.2.2.2.c2
  have q3 := H2.out.2.2.2.c3
  go_upto_region 11 with fail
  have hb3 := below_alloc w3 (.cells #[.int .u32 x0, .int .u32 x1, .int .u32 x2, .int .u32 x3] 24)
  have l3 := lnAt_new w3 x0 x1 x2 x3
  have hlt3 : w3.heap.size < (w3.alloc (.cells #[.int .u32 x0, .int .u32 x1, .int .u32 x2, .int .u32 x3] 24)).heap.size := by simp
  have HW : Hid (w.heap.size ≤ w1.heap.size ∧ Below w.heap.size w w1) := ⟨HB1.out.2.size, HB1.out.2⟩
  clear q0 q1 q2 q3 HB1
  have HA0 : Hid (Ai w1.heap.size hb sb w3.heap.size (fun _ => False) True (W.mkS [0, 0, 0, 0] (x0, x1, x2, x3) 0) [0, 0, 0, 0] (x0, x1, x2, x3) ⟨none, 0, 0⟩ [] w1 (w3.alloc (.cells #[.int .u32 x0, .int .u32 x1, .int .u32 x2, .int .u32 x3] 24))) := by
    have hn := HQ2.out.1.lo
    refine ⟨(HQ2.out.1.addB hb3 (Nat.le_refl _) hlt3).sub (fun b hb => ?_), ms_nil _, Or.inl trivial, H2.out.2.1.blk (hb3.block sb (HQ2.out.2.2)), rfl, l3, by have := HQ2.out.2.2; omega, fun b hb => absurd hb.1 (Nat.lt_irrefl 0), fun b hb => hb.elim, HQ2.out.2.1, hn, fun b hb => absurd hb.1 (Nat.lt_irrefl 0)⟩
    rcases hb with q | q | q | q
    · exact Or.inl (Or.inr q)
    · exact Or.inr q
    · exact q.elim
    · exact absurd q.1 (Nat.lt_irrefl 0)
  clear hb3 l3 hlt3 H2 HQ2 l2l
  generalize World.alloc w3 _ = w4 at *
  generalize w3.heap.size = nb at *
  go_wp2_with (fail)
  go_loopw [9] (fun i wr => ∃ (j : Nat) (g : List Int) (e y : W.D4) (b : Int), j ≤ N ∧ i = .int .i64 j ∧ g ∈ W.allG ∧ (W.dirtyG g = false → e = y) ∧ Ai w1.heap.size hb sb nb (fun _ => False) True (W.mkS g e b) g y ⟨none, 0, 0⟩ [] w1 wr) (fun i _ => N - (intOf i).toNat)
  case atStart => exact ⟨0, _, _, _, _, by omega, rfl, by decide, fun _ => rfl, HA0.out⟩
  case round =>
    obtain ⟨j, g, e, y, b, hj, rfl, hg, hd, hA⟩ := hrel
    have HA : Hid (_) := hA
    have HG : Hid (_ ∧ _) := ⟨hg, hd⟩
    clear hA hg hd HA0
    by_cases hlt : j < N
    · have hjn : (j : Int) < N := by omega
      have hj0 : (0 : Int) ≤ j := by omega
      obtain ⟨cb, co, rfl, hcl, hc⟩ := HO.out (by omega)
      have hwj : wr.cell? ⟨cb, co + j, none⟩ = some (.int .i64 (q j)) := ((HW.out.2.trans (HA.out.q.b.mono HW.out.1)).cell (p := ⟨cb, co + j, none⟩) hcl).trans (hc j hlt)
      have HJ : Hid (j < N) := hlt
      clear hcl hc
      generalize q j = qj at *
      go_upto_region 16 with fail
      rw [and3i]
      obtain ⟨R, hR, eR⟩ : ∃ R : Nat, R < 4 ∧ qj % 4 = R := ⟨(qj % 4).toNat, by omega, by omega⟩
      rw [eR]
      clear eR
      generalize (bits BinOp.and IntKind.i64 (qj / 4) 1 == 1) = wt at *
      have cR := HA.out.cg.c R hR
      have HR : Hid (_) := hR
      have hR3 : (R : Int) < 4 := by omega
      clear hwj hR
      generalize hv : W.gAt g R = v at *
      have HV : Hid (_) := hv
      clear hv
      rcases (by cases wt <;> simp <;> omega : v = 4 ∨ v = 2 ∨ (¬ v = 4 ∧ ¬ v = 2 ∧ wt = false ∧ ¬ v = 0) ∨ (¬ v = 4 ∧ ¬ v = 2 ∧ (wt = true ∨ v = 0))) with h4 | h2 | ⟨h4, h2, hw, h0⟩ | ⟨h4, h2, hw⟩
      · subst h4
        clear HV
        go_wp2_with (fail)
        go_roundw
        case rel => exact ⟨j + 1, g, e, y, b, by omega, by go_num, HG.out.1, HG.out.2, HA.out⟩
        case measure => simp [intOf]; have := HJ.out; omega
      · subst h2
        clear HV
        go_wp2_with (fail)
        go_roundw
        case rel => exact ⟨j + 1, g, e, y, b, by omega, by go_num, HG.out.1, HG.out.2, HA.out⟩
        case measure => simp [intOf]; have := HJ.out; omega
      · have e4 : (v == 4) = false := by simpa using h4
        have e2 : (v == 2) = false := by simpa using h2
        have e0 : (v != 0) = true := by simpa using h0
        subst hw
        clear h4 h2 h0 HV
        go_wp2_with (fail)
        go_roundw
        case rel => exact ⟨j + 1, g, e, y, b, by omega, by go_num, HG.out.1, HG.out.2, HA.out⟩
        case measure => simp [intOf]; have := HJ.out; omega
      · have e4 : (v == 4) = false := by simpa using h4
        have e2 : (v == 2) = false := by simpa using h2
        have hsk : W.skip g R wt = false := by
          unfold W.skip
          rw [HV.out]
          rcases hw with rfl | rfl <;> simp [h4, h2]
        have hgood := W.start_good R HR.out wt e y b g HG.out.1 hsk HG.out.2
        have HGO : Hid (_) := hgood
        clear hgood hsk h4 h2
        go_cut [77] from 43 to 76 (fun k wx => k = .bool false ∧ wx = wr)
        case first =>
          cases wt
          · obtain rfl : v = 0 := by simpa using hw
            go_wp2_with (fail)
            go_meet
            case rel => exact ⟨rfl, rfl⟩
          · go_wp2_with (fail)
            go_meet
            case rel => exact ⟨rfl, rfl⟩
        case rest =>
          obtain ⟨rfl, rfl⟩ := hcut
          clear e4 e2 hw HV cR
          obtain ⟨KK, hKK⟩ : ∃ z : Int, z = if wt = true then 2 else 1 := ⟨_, rfl⟩
          have HKq : Hid (KK = if wt = true then 2 else 1) := hKK
          clear hKK
          go_upto_if 78 with fail
          go_cut [12] from 43 to 78 (fun k wx => k = .int .i64 KK ∧ wx = wc)
          case first =>
            have hKK := HKq.out
            cases wt
            · obtain rfl : KK = 1 := hKK
              go_wp2_with (fail)
              go_meet
              case rel => exact ⟨rfl, rfl⟩
            · obtain rfl : KK = 2 := hKK
              go_wp2_with (fail)
              go_meet
              case rel => exact ⟨rfl, rfl⟩
          case rest =>
            obtain ⟨rfl, rfl⟩ := hcut
            have bd := bdM_up0
            go_wp2_with (fail)
            refine (HA.out.q.takeS (W.up KK 0 R) (by show -9223372036854775808 ≤ KK ∧ KK ≤ 9223372036854775807; have := HKq.out; split at this <;> omega)).mono ?_
            rintro e w5 ⟨sl, rfl, hm, hq, hk, hs, hz⟩
            rw [HKq.out] at hm hq
            obtain ⟨x0, hx0⟩ : ∃ x0, x0 = W.start g R wt e b := ⟨_, rfl⟩
            have hne : 0 < sl.n := by
              rcases Nat.eq_zero_or_pos sl.n with h0 | h0
              · have ho : x0.o = [] := by
                  rw [hx0]
                  exact List.eq_nil_of_length_eq_zero (hm.n.symm.trans h0)
                have := (W.good_end HGO.out (hx0 ▸ ho)).1
                simp [W.finB, W.start] at this
              · exact h0
            have HI : Hid (Ai w1.heap.size hb sb nb (fun _ => False) (∀ m l, x0.o = m :: l → m.k = 7 ∨ m.k = 8) x0.s x0.g y sl x0.o w1 w5 ∧ W.Good R wt y 5 x0 ∧ x0.t = false) := by
              rw [hx0]
              exact ⟨HA.out.took hq hz hm hk hs hne, HGO.out, rfl⟩
            obtain ⟨oa, on, oc⟩ := sl
            clear hm hq hk hs hz hne hx0 HGO HA bd
            unfold slV
            dsimp only
            go_wp2_with (fail)
            go_loopw [13, 14, 15] (fun o t n wr => ∃ (k : Nat) (x : W.Al) (sl : W.Sl), k ≤ 5 ∧ n = .int .i64 k ∧ o = slV sl ∧ t = .bool x.t ∧ W.Good R wt y (5 - k) x ∧ Ai w1.heap.size hb sb nb (fun _ => False) (∀ m l, x.o = m :: l → m.k = 7 ∨ m.k = 8) x.s x.g y sl x.o w1 wr) (fun o t n _ => 10 - (intOf n).toNat)
            case atStart => exact ⟨0, x0, ⟨oa, on, oc⟩, by omega, rfl, rfl, by rw [HI.out.2.2], HI.out.2.1, HI.out.1⟩
            case round =>
              obtain ⟨k, x, ⟨oa2, on2, oc2⟩, hk, rfl, rfl, rfl, hgd, hai⟩ := hrel
              have hk10 : (k : Int) < 10 := by omega
              have HX : Hid (_ ∧ _) := ⟨hgd, hai⟩
              have HKx : Hid (k ≤ 5) := hk
              clear hgd hai HI hk
              obtain ⟨xs, xg, xo, xt⟩ := x
              cases xo with
              | nil =>
                have hn0 : on2 = 0 := HX.out.2.ms.n
                subst hn0
                have hge := W.good_end HX.out.1 rfl
                obtain ⟨ht, hsv, hmk, hmem⟩ := W.fin_parts hge.1
                dsimp only at ht hsv hmk hmem
                subst ht
                have HE : Hid (_ ∧ _ ∧ _) := ⟨hmk, hmem, hge.2⟩
                have eb : (xs.sv != -1) = false := by rw [hsv]; rfl
                have hbz := HX.out.2.q.busy
                rw [eb] at hbz
                have HXA : Hid (_) := HX.out.2
                have HBz : Hid (Calls _ _ _ _ _) := hbz
                clear hge hmk hmem hsv HX hbz eb
                unfold slV
                dsimp only
                go_wp2_with (fail)
                refine HBz.out.mono ?_
                rintro e w6 ⟨rfl, rfl⟩
                dsimp only
                clear HBz
                cases wt
                · as_aux_lemma =>
                    have HXZ := HXA
                    go_wp2_with (fail)
                    go_loop [19] (fun i => ∃ n : Nat, n ≤ 4 ∧ i = .int .i64 n) (fun i => 4 - (intOf i).toNat)
                    case atStart => exact ⟨0, by omega, rfl⟩
                    case round =>
                      obtain ⟨n, hn, rfl⟩ := hrel
                      by_cases hlt : n < 4
                      · have hnn : (n : Int) < 4 := by omega
                        have hn00 : (0 : Int) ≤ n := by omega
                        have cK := HXZ.out.cg.c n hlt
                        have cR := HXZ.out.cg.c R HR.out
                        have hal := W.alone_g _ HE.out.2.1 R HR.out n hlt
                        rcases hal with h | h | ⟨h, h'⟩
                        · have e1 : ((n : Int) != (R : Int)) = false := by rw [h]; simp
                          clear h cK cR
                          go_wp2_with (fail)
                          go_round
                          case rel => exact ⟨n + 1, by omega, by go_num⟩
                          case measure => simp [intOf]; omega
                        · rw [show W.gAt xg n = 0 from h] at cK
                          clear h
                          cases e1 : ((n : Int) != (R : Int))
                          · go_wp2_with (fail)
                            go_round
                            case rel => exact ⟨n + 1, by omega, by go_num⟩
                            case measure => simp [intOf]; omega
                          · go_wp2_with (fail)
                            go_round
                            case rel => exact ⟨n + 1, by omega, by go_num⟩
                            case measure => simp [intOf]; omega
                        · have h4 : ¬ W.gAt xg R = 4 := h
                          have h5 : ¬ W.gAt xg R = 2 := h'
                          have e4 : (W.gAt xg R == 4) = false := by simpa using h4
                          have e2 : (W.gAt xg R == 2) = false := by simpa using h5
                          clear h4 h5
                          clear h h'
                          cases e1 : ((n : Int) != (R : Int))
                          · clear cK cR
                            go_wp2_with (fail)
                            go_round
                            case rel => exact ⟨n + 1, by omega, by go_num⟩
                            case measure => simp [intOf]; omega
                          · cases e0 : (W.gAt xg n != 0)
                            · go_wp2_with (fail)
                              go_round
                              case rel => exact ⟨n + 1, by omega, by go_num⟩
                              case measure => simp [intOf]; omega
                            · go_wp2_with (fail)
                              go_round
                              case rel => exact ⟨n + 1, by omega, by go_num⟩
                              case measure => simp [intOf]; omega
                      · obtain rfl : n = 4 := by omega
                        go_wp2_with (fail)
                        go_roundw
                        case rel => exact ⟨j + 1, W.gEnd xg R false, (xs.e0, xs.e1, xs.e2, xs.e3), y, xs.b_, by have := HJ.out; omega, by go_num, HE.out.2.1, HE.out.2.2, by
                          rw [← HE.out.1]
                          exact HXZ.out.fresh (Nat.le_refl _) (HXZ.out.q.sub (fun b hb => hb.elim Or.inl (fun q => Or.inr (q.elim Or.inl (fun r => absurd r.1 (Nat.lt_irrefl 0)))))) (ms_nil _) rfl rfl (fun b hb => absurd hb.1 (Nat.lt_irrefl 0)) (Or.inl trivial)⟩
                        case measure => simp [intOf]; have := HJ.out; omega
                · as_aux_lemma =>
                    obtain ⟨Q, hQ4, hQe⟩ : ∃ Q : Nat, Q < 4 ∧ (j : Int) % 4 = Q := ⟨((j : Int) % 4).toNat, by omega, by omega⟩
                    have hq : bits BinOp.and IntKind.i64 (j : Int) 3 = (Q : Int) := by rw [and3i, hQe]
                    have hQ3 : (Q : Int) < 4 := by omega
                    have cR := HXA.out.cg.c R HR.out
                    have fR := HXA.out.cg.fz R
                    have yc := HXA.out.y.cQ Q hQ4
                    have yf := HXA.out.y.fz Q
                    have m1 : sb ≠ nb := HXA.out.ne
                    have m1' : nb ≠ sb := fun e => m1 e.symm
                    have HXV : Hid (∀ V, Ai w1.heap.size hb sb nb (fun _ => False) _ xs (W.gSet xg R 4) (W.ySet y Q V) _ [] w1 _) := fun V => (HXA.out.setG R HR.out 4).setY Q hQ4 V
                    clear HXA hQe
                    go_upto_region 66 with fail
                    have HXZ0 := HXV.out
                    clear HXV cR fR yc yf m1 m1' hq
                    generalize (W.yGet y Q + (j : Int) + 1) % 4294967296 = V at *
                    have HXZ : Hid (_) := HXZ0 V
                    clear HXZ0
                    generalize World.setCell (World.setCell wr _ _) _ _ = W8 at *
                    go_wp2_with (fail)
                    go_loop [19] (fun i => ∃ n : Nat, n ≤ 4 ∧ i = .int .i64 n) (fun i => 4 - (intOf i).toNat)
                    case atStart => exact ⟨0, by omega, rfl⟩
                    case round =>
                      obtain ⟨n, hn, rfl⟩ := hrel
                      by_cases hlt : n < 4
                      · have hnn : (n : Int) < 4 := by omega
                        have hn00 : (0 : Int) ≤ n := by omega
                        have cK := HXZ.out.cg.c n hlt
                        have cR := HXZ.out.cg.c R HR.out
                        have hal := W.alone_g _ HE.out.2.1 R HR.out n hlt
                        rcases hal with h | h | ⟨h, h'⟩
                        · have e1 : ((n : Int) != (R : Int)) = false := by rw [h]; simp
                          clear h cK cR
                          go_wp2_with (fail)
                          go_round
                          case rel => exact ⟨n + 1, by omega, by go_num⟩
                          case measure => simp [intOf]; omega
                        · rw [show W.gAt (W.gSet xg R 4) n = 0 from h] at cK
                          clear h
                          cases e1 : ((n : Int) != (R : Int))
                          · go_wp2_with (fail)
                            go_round
                            case rel => exact ⟨n + 1, by omega, by go_num⟩
                            case measure => simp [intOf]; omega
                          · go_wp2_with (fail)
                            go_round
                            case rel => exact ⟨n + 1, by omega, by go_num⟩
                            case measure => simp [intOf]; omega
                        · have h4 : ¬ W.gAt (W.gSet xg R 4) R = 4 := h
                          have h5 : ¬ W.gAt (W.gSet xg R 4) R = 2 := h'
                          have e4 : (W.gAt (W.gSet xg R 4) R == 4) = false := by simpa using h4
                          have e2 : (W.gAt (W.gSet xg R 4) R == 2) = false := by simpa using h5
                          clear h4 h5
                          clear h h'
                          cases e1 : ((n : Int) != (R : Int))
                          · clear cK cR
                            go_wp2_with (fail)
                            go_round
                            case rel => exact ⟨n + 1, by omega, by go_num⟩
                            case measure => simp [intOf]; omega
                          · cases e0 : (W.gAt (W.gSet xg R 4) n != 0)
                            · go_wp2_with (fail)
                              go_round
                              case rel => exact ⟨n + 1, by omega, by go_num⟩
                              case measure => simp [intOf]; omega
                            · go_wp2_with (fail)
                              go_round
                              case rel => exact ⟨n + 1, by omega, by go_num⟩
                              case measure => simp [intOf]; omega
                      · obtain rfl : n = 4 := by omega
                        go_wp2_with (fail)
                        go_roundw
                        case rel => exact ⟨j + 1, W.gEnd xg R true, (xs.e0, xs.e1, xs.e2, xs.e3), W.ySet y Q V, xs.b_, by have := HJ.out; omega, by go_num, HE.out.2.1, fun hd => absurd (end_dirty HR.out HE.out.2.1) (by rw [hd]; decide), by
                          rw [← HE.out.1]
                          exact HXZ.out.fresh (Nat.le_refl _) (HXZ.out.q.sub (fun b hb => hb.elim Or.inl (fun q => Or.inr (q.elim Or.inl (fun r => absurd r.1 (Nat.lt_irrefl 0)))))) (ms_nil _) rfl rfl (fun b hb => absurd hb.1 (Nat.lt_irrefl 0)) (Or.inl trivial)⟩
                        case measure => simp [intOf]; have := HJ.out; omega

              | cons m l =>
                obtain ⟨k', hk', hok, hy, hG⟩ := W.good_step HX.out.1 (rfl : (⟨xs, xg, m :: l, xt⟩ : W.Al).o = m :: l)
                obtain ⟨mb0, mo, ea, hml, hmr⟩ := HX.out.2.ms.at_ (by have := HX.out.2.ms.n; show 0 < on2; rw [show on2 = (m :: l).length from this]; simp)
                dsimp only at ea
                subst ea
                have hn1 : on2 = l.length + 1 := HX.out.2.ms.n
                have hnc : on2 ≤ oc2 := HX.out.2.ms.nc
                have hn4 : on2 ≤ 4096 := HX.out.2.ms.m
                have hld := ldM_at (show wr.rangeAt mb0 mo (mgL m) by have := hmr 0 m rfl; rwa [Nat.zero_mul, Nat.add_zero] at this)
                have HOK : Hid (_ ∧ _ ∧ _ ∧ _) := ⟨hk', hok, hy, hG⟩
                have hgt : (0 : Int) < on2 := by omega
                have hn1' : (1 : Int) ≤ on2 := by omega
                have hnc' : (on2 : Int) ≤ oc2 := by omega
                clear hk' hok hy hG hml hmr hn1 hn4 hnc
                unfold slV
                dsimp only
                have pst := putM_run wr m
                go_upto_region 26 with fail
                have HX2 : Hid (_ ∧ _) := ⟨HX.out.2.add (putM_below wr m) wr.heap.size (Nat.le_refl _) (putM_at wr m).lt, putM_at wr m⟩
                have HGn : Hid (_) := HX.out.1
                clear pst hld HX
                generalize putM wr m = W2 at *
                generalize wr.heap.size = mb at *
                go_cut [13] from 84 to 97 (fun o wx => ∃ a', o = .slice a' (on2 - 1 : Nat) (oc2 - 1 : Nat) ∧ a' = some (if oc2 = 1 then ⟨mb0, mo, none⟩ else ⟨mb0, mo + 11, none⟩) ∧ wx = W2)
                case first =>
                  by_cases hc1 : oc2 = 1
                  · subst hc1
                    go_wp2_with (fail)
                    all_goals
                      go_meet
                      case rel => exact ⟨some ⟨mb0, mo, none⟩, rfl, by simp, rfl⟩
                  · have hc2 : ¬ oc2 - 1 = 0 := by omega
                    have hc3 : ¬ (oc2 : Int) - 1 = 0 := by omega
                    go_wp2_with (fail)
                    all_goals
                      go_meet
                      case rel => exact ⟨some ⟨mb0, mo + 11, none⟩, rfl, by rw [if_neg hc1], rfl⟩
                case rest =>
                  obtain ⟨a', rfl, ha', rfl⟩ := hcut
                  obtain ⟨⟨ht0, ht4⟩, htk, hlen, hs7, hs4, hkd⟩ := W.ok_parts HOK.out.2.1
                  obtain ⟨K, hK4, hKe⟩ : ∃ K : Nat, K < 4 ∧ m.t = K := ⟨m.t.toNat, by omega, by omega⟩
                  have HX3 : Hid (_ ∧ _) := ⟨HX2.out.1.tail a' ha', HX2.out.2⟩
                  have HP : Hid (_ ∧ _ ∧ _ ∧ _ ∧ _) := ⟨htk, hlen, hs7, hs4, hkd⟩
                  have HKK : Hid (K < 4 ∧ m.t = K ∧ a' = some (if oc2 = 1 then ⟨mb0, mo, none⟩ else ⟨mb0, mo + 11, none⟩)) := ⟨hK4, hKe, ha'⟩
                  have hK3 : (K : Int) < 4 := by omega
                  have ct : wc.cell? ⟨mb, 3, none⟩ = some (.int .i64 K) := by rw [← hKe]; exact HX2.out.2.cAt 3
                  have bd := bdM_23 K
                  have pst := putM_run wc ⟨0, 0, K, -1, 0, 0, 0, 0, false, false, false⟩
                  clear ht0 ht4 htk hlen hs7 hs4 hkd hK4 hKe ha' HX2
                  go_upto_region 28 with fail
                  have HX4 : Hid (_ ∧ _ ∧ _) := ⟨HX3.out.1.add (putM_below wc ⟨0, 0, K, -1, 0, 0, 0, 0, false, false, false⟩) wc.heap.size (Nat.le_refl _) (putM_at wc _).lt, HX3.out.2.below (putM_below wc ⟨0, 0, K, -1, 0, 0, 0, 0, false, false, false⟩), putM_at wc ⟨0, 0, K, -1, 0, 0, 0, 0, false, false, false⟩⟩
                  have HNE : Hid (mb ≠ wc.heap.size) := Nat.ne_of_lt HX3.out.2.lt
                  clear pst ct bd HX3
                  generalize putM wc _ = W3 at *
                  generalize wc.heap.size = ab at *
                  have ct : W3.cell? ⟨mb, 3, none⟩ = some (.int .i64 K) := by rw [← HKK.out.2.1]; exact HX4.out.2.1.cAt 3
                  have c0 : W3.cell? ⟨mb, 0, none⟩ = some (.int .i64 m.k) := HX4.out.2.1.cAt 0
                  go_upto_block 4 with fail
                  clear ct c0
                  go_cut [14] from 84 to 204 (fun t wx => t = .bool (xt || (decide (m.k = 7) || decide (m.k = 8))) ∧ Aj w1.heap.size hb sb nb ab (fun b => (False ∨ b = mb) ∨ b = ab) (∀ m' l', (⟨xs, xg, m :: l, xt⟩ : W.Al).o = m' :: l' → m'.k = 7 ∨ m'.k = 8) xs (W.aG xg m R wt) y ⟨a', on2 - 1, oc2 - 1⟩ l (W.aMsg xg m y) w1 wx)
                  case first =>
                    rcases HP.out.2.2.2.2 with hk4 | ⟨hk56, hv0, hv1⟩ | ⟨hk7, htr⟩ | ⟨hk8, htr, hg3⟩
                    · as_aux_lemma =>
                        have p4 : (m.k == 4) = true := by simp [hk4]
                        have p5 : (m.k == 5) = false := by simp [hk4]
                        have p6 : (m.k == 6) = false := by simp [hk4]
                        have p7 : (m.k == 7) = false := by simp [hk4]
                        have p8 : (m.k == 8) = false := by simp [hk4]
                        have HJ : Hid (Aj w1.heap.size hb sb nb ab (fun b => (False ∨ b = mb) ∨ b = ab) (∀ m' l', (⟨xs, xg, m :: l, xt⟩ : W.Al).o = m' :: l' → m'.k = 7 ∨ m'.k = 8) xs xg y ⟨a', on2 - 1, oc2 - 1⟩ l ⟨0, 0, K, -1, 0, 0, 0, 0, false, false, false⟩ w1 W3) := ⟨HX4.out.1, HX4.out.2.2, Or.inr rfl⟩
                        have hK4 := HKK.out.1
                        have ct : W3.cell? ⟨mb, 3, none⟩ = some (.int .i64 K) := by rw [← HKK.out.2.1]; exact HX4.out.2.1.cAt 3
                        have c0 : W3.cell? ⟨mb, 0, none⟩ = some (.int .i64 m.k) := HX4.out.2.1.cAt 0
                        have n1 : ab ≠ sb := (HX4.out.1.xz ab (Or.inr rfl)).1
                        have n1' : sb ≠ ab := fun e => n1 e.symm
                        have n2 : ab ≠ nb := (HX4.out.1.xz ab (Or.inr rfl)).2.1
                        have n2' : nb ≠ ab := fun e => n2 e.symm
                        have n3 : mb ≠ ab := HNE.out
                        have n3' : ab ≠ mb := fun e => n3 e.symm
                        have n4 : mb ≠ sb := (HX4.out.1.xz mb (Or.inl (Or.inr rfl))).1
                        have n4' : sb ≠ mb := fun e => n4 e.symm
                        have a0 : W3.cell? ⟨ab, 0, none⟩ = some (.int .i64 0) := HX4.out.2.2.cAt 0
                        have af := fun j => HX4.out.2.2.fz j
                        have gk := HX4.out.1.cg.c K hK4
                        have gf := fun j => HX4.out.1.cg.fz j
                        have HF : Hid (_) := (HJ.out.set (M' := ⟨10, 0, K, -1, 0, 0, 0, 0, false, false, false⟩) 0 (.int .i64 10) rfl).setG K hK4 0
                        have eG : W.aG xg m R wt = W.gSet xg K 0 := by unfold W.aG; rw [if_pos hk4, HKK.out.2.1]
                        have eM : W.aMsg xg m y = ⟨10, 0, K, -1, 0, 0, 0, 0, false, false, false⟩ := by unfold W.aMsg; rw [if_pos hk4, HKK.out.2.1]
                        clear HJ HX4
                        go_wp2_with (fail)
                        go_meet
                        case rel => exact ⟨by simp [hk4], by rw [eG, eM]; exact HF.out⟩
                    · rw [HKK.out.2.1] at hv0 hv1
                      rcases hk56 with hk5 | hk6
                      · generalize hGG : Code.wp _ _ _ _ _ = GG
                        letI iGG : Bx GG := ⟨by
                          subst hGG
                          have p4 : (m.k == 4) = false := by simp [hk5]
                          have p5 : (m.k == 5) = true := by simp [hk5]
                          have p6 : (m.k == 6) = false := by simp [hk5]
                          have p7 : (m.k == 7) = false := by simp [hk5]
                          have p8 : (m.k == 8) = false := by simp [hk5]
                          have HJ : Hid (Aj w1.heap.size hb sb nb ab (fun b => (False ∨ b = mb) ∨ b = ab) (∀ m' l', (⟨xs, xg, m :: l, xt⟩ : W.Al).o = m' :: l' → m'.k = 7 ∨ m'.k = 8) xs xg y ⟨a', on2 - 1, oc2 - 1⟩ l ⟨0, 0, K, -1, 0, 0, 0, 0, false, false, false⟩ w1 W3) := ⟨HX4.out.1, HX4.out.2.2, Or.inr rfl⟩
                          have hK4 := HKK.out.1
                          have ct : W3.cell? ⟨mb, 3, none⟩ = some (.int .i64 K) := by rw [← HKK.out.2.1]; exact HX4.out.2.1.cAt 3
                          have c0 : W3.cell? ⟨mb, 0, none⟩ = some (.int .i64 m.k) := HX4.out.2.1.cAt 0
                          have n1 : ab ≠ sb := (HX4.out.1.xz ab (Or.inr rfl)).1
                          have n1' : sb ≠ ab := fun e => n1 e.symm
                          have n2 : ab ≠ nb := (HX4.out.1.xz ab (Or.inr rfl)).2.1
                          have n2' : nb ≠ ab := fun e => n2 e.symm
                          have n3 : mb ≠ ab := HNE.out
                          have n3' : ab ≠ mb := fun e => n3 e.symm
                          have n4 : mb ≠ sb := (HX4.out.1.xz mb (Or.inl (Or.inr rfl))).1
                          have n4' : sb ≠ mb := fun e => n4 e.symm
                          have a0 : W3.cell? ⟨ab, 0, none⟩ = some (.int .i64 0) := HX4.out.2.2.cAt 0
                          have af := fun j => HX4.out.2.2.fz j
                          have gk := HX4.out.1.cg.c K hK4
                          have gf := fun j => HX4.out.1.cg.fz j
                          have b8 : W3.cell? ⟨ab, 8, none⟩ = some (.bool false) := HX4.out.2.2.cAt 8
                          have b4 : W3.cell? ⟨ab, 4, none⟩ = some (.int .u32 0) := HX4.out.2.2.cAt 4
                          have b5 : W3.cell? ⟨ab, 5, none⟩ = some (.int .u32 0) := HX4.out.2.2.cAt 5
                          have b6 : W3.cell? ⟨ab, 6, none⟩ = some (.int .u32 0) := HX4.out.2.2.cAt 6
                          have b7 : W3.cell? ⟨ab, 7, none⟩ = some (.int .u32 0) := HX4.out.2.2.cAt 7
                          have b9 : W3.cell? ⟨ab, 9, none⟩ = some (.bool false) := HX4.out.2.2.cAt 9
                          have y0 := HX4.out.1.y.c0
                          have y1 := HX4.out.1.y.c1
                          have y2 := HX4.out.1.y.c2
                          have y3 := HX4.out.1.y.c3
                          have v0 : (W.gAt xg K == 0) = false := by simp [hv0]
                          have v1 : (W.gAt xg K == 1) = false := by simp [hv1]
                          go_upto_region 43 with fail
                          by_cases hv4 : W.gAt xg K = 4
                          · have HF : Hid (_) := ((((HJ.out.set (M' := ⟨11, 0, K, -1, 0, 0, 0, 0, false, false, false⟩) 0 (.int .i64 11) rfl).set (M' := ⟨11, 0, K, -1, 0, 0, 0, 0, true, false, false⟩) 8 (.bool true) rfl).dat).set (M' := ⟨11, 0, K, -1, y.1, y.2.1, y.2.2.1, y.2.2.2, true, true, false⟩) 9 (.bool true) rfl).setG K hK4 3
                            rw [hv4] at gk
                            have eD : W.dty (W.gAt xg m.t) = true := by rw [HKK.out.2.1, hv4]; rfl
                            have eG : W.aG xg m R wt = W.gSet xg K 3 := by unfold W.aG; rw [if_neg (by omega), if_neg (by omega), if_pos hk5, eD, HKK.out.2.1]; rfl
                            have eM : W.aMsg xg m y = ⟨11, 0, K, -1, y.1, y.2.1, y.2.2.1, y.2.2.2, true, true, false⟩ := by unfold W.aMsg; rw [if_neg (by omega), if_pos (by omega), eD, HKK.out.2.1]
                            clear HJ HX4 eD hv0 hv1 hv4
                            go_wp2_with (fail)
                            go_meet
                            case rel => exact ⟨by simp [hk5], by rw [eG, eM]; exact HF.out⟩
                          · by_cases hv3 : W.gAt xg K = 3
                            · have HF : Hid (_) := ((((HJ.out.set (M' := ⟨11, 0, K, -1, 0, 0, 0, 0, false, false, false⟩) 0 (.int .i64 11) rfl).set (M' := ⟨11, 0, K, -1, 0, 0, 0, 0, true, false, false⟩) 8 (.bool true) rfl).dat).set (M' := ⟨11, 0, K, -1, y.1, y.2.1, y.2.2.1, y.2.2.2, true, true, false⟩) 9 (.bool true) rfl).setG K hK4 3
                              rw [hv3] at gk
                              have eD : W.dty (W.gAt xg m.t) = true := by rw [HKK.out.2.1, hv3]; rfl
                              have eG : W.aG xg m R wt = W.gSet xg K 3 := by unfold W.aG; rw [if_neg (by omega), if_neg (by omega), if_pos hk5, eD, HKK.out.2.1]; rfl
                              have eM : W.aMsg xg m y = ⟨11, 0, K, -1, y.1, y.2.1, y.2.2.1, y.2.2.2, true, true, false⟩ := by unfold W.aMsg; rw [if_neg (by omega), if_pos (by omega), eD, HKK.out.2.1]
                              clear HJ HX4 eD hv0 hv1 hv3
                              go_wp2_with (fail)
                              go_meet
                              case rel => exact ⟨by simp [hk5], by rw [eG, eM]; exact HF.out⟩
                            · have HF : Hid (_) := ((((HJ.out.set (M' := ⟨11, 0, K, -1, 0, 0, 0, 0, false, false, false⟩) 0 (.int .i64 11) rfl).set (M' := ⟨11, 0, K, -1, 0, 0, 0, 0, true, false, false⟩) 8 (.bool true) rfl).dat).set (M' := ⟨11, 0, K, -1, y.1, y.2.1, y.2.2.1, y.2.2.2, true, false, false⟩) 9 (.bool false) rfl).setG K hK4 1
                              have v4 : (W.gAt xg K == 4) = false := by simp [hv4]
                              have v3 : (W.gAt xg K == 3) = false := by simp [hv3]
                              have eD : W.dty (W.gAt xg m.t) = false := by rw [HKK.out.2.1]; unfold W.dty; simp [hv4, hv3]
                              have eG : W.aG xg m R wt = W.gSet xg K 1 := by unfold W.aG; rw [if_neg (by omega), if_neg (by omega), if_pos hk5, eD, HKK.out.2.1]; rfl
                              have eM : W.aMsg xg m y = ⟨11, 0, K, -1, y.1, y.2.1, y.2.2.1, y.2.2.2, true, false, false⟩ := by unfold W.aMsg; rw [if_neg (by omega), if_pos (by omega), eD, HKK.out.2.1]
                              clear HJ HX4 eD hv0 hv1 hv4 hv3
                              go_wp2_with (fail)
                              go_meet
                              case rel => exact ⟨by simp [hk5], by rw [eG, eM]; exact HF.out⟩⟩
                        exact @Bx.out GG (inferInstanceAs (Bx GG))
                      · generalize hGG : Code.wp _ _ _ _ _ = GG
                        letI iGG : Bx GG := ⟨by
                          subst hGG
                          have p4 : (m.k == 4) = false := by simp [hk6]
                          have p5 : (m.k == 5) = false := by simp [hk6]
                          have p6 : (m.k == 6) = true := by simp [hk6]
                          have p7 : (m.k == 7) = false := by simp [hk6]
                          have p8 : (m.k == 8) = false := by simp [hk6]
                          have HJ : Hid (Aj w1.heap.size hb sb nb ab (fun b => (False ∨ b = mb) ∨ b = ab) (∀ m' l', (⟨xs, xg, m :: l, xt⟩ : W.Al).o = m' :: l' → m'.k = 7 ∨ m'.k = 8) xs xg y ⟨a', on2 - 1, oc2 - 1⟩ l ⟨0, 0, K, -1, 0, 0, 0, 0, false, false, false⟩ w1 W3) := ⟨HX4.out.1, HX4.out.2.2, Or.inr rfl⟩
                          have hK4 := HKK.out.1
                          have ct : W3.cell? ⟨mb, 3, none⟩ = some (.int .i64 K) := by rw [← HKK.out.2.1]; exact HX4.out.2.1.cAt 3
                          have c0 : W3.cell? ⟨mb, 0, none⟩ = some (.int .i64 m.k) := HX4.out.2.1.cAt 0
                          have n1 : ab ≠ sb := (HX4.out.1.xz ab (Or.inr rfl)).1
                          have n1' : sb ≠ ab := fun e => n1 e.symm
                          have n2 : ab ≠ nb := (HX4.out.1.xz ab (Or.inr rfl)).2.1
                          have n2' : nb ≠ ab := fun e => n2 e.symm
                          have n3 : mb ≠ ab := HNE.out
                          have n3' : ab ≠ mb := fun e => n3 e.symm
                          have n4 : mb ≠ sb := (HX4.out.1.xz mb (Or.inl (Or.inr rfl))).1
                          have n4' : sb ≠ mb := fun e => n4 e.symm
                          have a0 : W3.cell? ⟨ab, 0, none⟩ = some (.int .i64 0) := HX4.out.2.2.cAt 0
                          have af := fun j => HX4.out.2.2.fz j
                          have gk := HX4.out.1.cg.c K hK4
                          have gf := fun j => HX4.out.1.cg.fz j
                          have b8 : W3.cell? ⟨ab, 8, none⟩ = some (.bool false) := HX4.out.2.2.cAt 8
                          have b4 : W3.cell? ⟨ab, 4, none⟩ = some (.int .u32 0) := HX4.out.2.2.cAt 4
                          have b5 : W3.cell? ⟨ab, 5, none⟩ = some (.int .u32 0) := HX4.out.2.2.cAt 5
                          have b6 : W3.cell? ⟨ab, 6, none⟩ = some (.int .u32 0) := HX4.out.2.2.cAt 6
                          have b7 : W3.cell? ⟨ab, 7, none⟩ = some (.int .u32 0) := HX4.out.2.2.cAt 7
                          have b9 : W3.cell? ⟨ab, 9, none⟩ = some (.bool false) := HX4.out.2.2.cAt 9
                          have y0 := HX4.out.1.y.c0
                          have y1 := HX4.out.1.y.c1
                          have y2 := HX4.out.1.y.c2
                          have y3 := HX4.out.1.y.c3
                          have v0 : (W.gAt xg K == 0) = false := by simp [hv0]
                          have v1 : (W.gAt xg K == 1) = false := by simp [hv1]
                          go_upto_region 43 with fail
                          by_cases hv4 : W.gAt xg K = 4
                          · have HF : Hid (_) := ((((HJ.out.set (M' := ⟨11, 0, K, -1, 0, 0, 0, 0, false, false, false⟩) 0 (.int .i64 11) rfl).set (M' := ⟨11, 0, K, -1, 0, 0, 0, 0, true, false, false⟩) 8 (.bool true) rfl).dat).set (M' := ⟨11, 0, K, -1, y.1, y.2.1, y.2.2.1, y.2.2.2, true, true, false⟩) 9 (.bool true) rfl).setG K hK4 0
                            rw [hv4] at gk
                            have eD : W.dty (W.gAt xg m.t) = true := by rw [HKK.out.2.1, hv4]; rfl
                            have eG : W.aG xg m R wt = W.gSet xg K 0 := by unfold W.aG; rw [if_neg (by omega), if_pos hk6, HKK.out.2.1]
                            have eM : W.aMsg xg m y = ⟨11, 0, K, -1, y.1, y.2.1, y.2.2.1, y.2.2.2, true, true, false⟩ := by unfold W.aMsg; rw [if_neg (by omega), if_pos (by omega), eD, HKK.out.2.1]
                            clear HJ HX4 eD hv0 hv1 hv4
                            go_wp2_with (fail)
                            go_meet
                            case rel => exact ⟨by simp [hk6], by rw [eG, eM]; exact HF.out⟩
                          · by_cases hv3 : W.gAt xg K = 3
                            · have HF : Hid (_) := ((((HJ.out.set (M' := ⟨11, 0, K, -1, 0, 0, 0, 0, false, false, false⟩) 0 (.int .i64 11) rfl).set (M' := ⟨11, 0, K, -1, 0, 0, 0, 0, true, false, false⟩) 8 (.bool true) rfl).dat).set (M' := ⟨11, 0, K, -1, y.1, y.2.1, y.2.2.1, y.2.2.2, true, true, false⟩) 9 (.bool true) rfl).setG K hK4 0
                              rw [hv3] at gk
                              have eD : W.dty (W.gAt xg m.t) = true := by rw [HKK.out.2.1, hv3]; rfl
                              have eG : W.aG xg m R wt = W.gSet xg K 0 := by unfold W.aG; rw [if_neg (by omega), if_pos hk6, HKK.out.2.1]
                              have eM : W.aMsg xg m y = ⟨11, 0, K, -1, y.1, y.2.1, y.2.2.1, y.2.2.2, true, true, false⟩ := by unfold W.aMsg; rw [if_neg (by omega), if_pos (by omega), eD, HKK.out.2.1]
                              clear HJ HX4 eD hv0 hv1 hv3
                              go_wp2_with (fail)
                              go_meet
                              case rel => exact ⟨by simp [hk6], by rw [eG, eM]; exact HF.out⟩
                            · have HF : Hid (_) := ((((HJ.out.set (M' := ⟨11, 0, K, -1, 0, 0, 0, 0, false, false, false⟩) 0 (.int .i64 11) rfl).set (M' := ⟨11, 0, K, -1, 0, 0, 0, 0, true, false, false⟩) 8 (.bool true) rfl).dat).set (M' := ⟨11, 0, K, -1, y.1, y.2.1, y.2.2.1, y.2.2.2, true, false, false⟩) 9 (.bool false) rfl).setG K hK4 0
                              have v4 : (W.gAt xg K == 4) = false := by simp [hv4]
                              have v3 : (W.gAt xg K == 3) = false := by simp [hv3]
                              have eD : W.dty (W.gAt xg m.t) = false := by rw [HKK.out.2.1]; unfold W.dty; simp [hv4, hv3]
                              have eG : W.aG xg m R wt = W.gSet xg K 0 := by unfold W.aG; rw [if_neg (by omega), if_pos hk6, HKK.out.2.1]
                              have eM : W.aMsg xg m y = ⟨11, 0, K, -1, y.1, y.2.1, y.2.2.1, y.2.2.2, true, false, false⟩ := by unfold W.aMsg; rw [if_neg (by omega), if_pos (by omega), eD, HKK.out.2.1]
                              clear HJ HX4 eD hv0 hv1 hv4 hv3
                              go_wp2_with (fail)
                              go_meet
                              case rel => exact ⟨by simp [hk6], by rw [eG, eM]; exact HF.out⟩⟩
                        exact @Bx.out GG (inferInstanceAs (Bx GG))
                    · as_aux_lemma =>
                      obtain rfl : K = R := by have := HKK.out.2.1; omega
                      have p4 : (m.k == 4) = false := by simp [hk7]
                      have p5 : (m.k == 5) = false := by simp [hk7]
                      have p6 : (m.k == 6) = false := by simp [hk7]
                      have p7 : (m.k == 7) = true := by simp [hk7]
                      have p8 : (m.k == 8) = false := by simp [hk7]
                      have HJ : Hid (Aj w1.heap.size hb sb nb ab (fun b => (False ∨ b = mb) ∨ b = ab) (∀ m' l', (⟨xs, xg, m :: l, xt⟩ : W.Al).o = m' :: l' → m'.k = 7 ∨ m'.k = 8) xs xg y ⟨a', on2 - 1, oc2 - 1⟩ l ⟨0, 0, K, -1, 0, 0, 0, 0, false, false, false⟩ w1 W3) := ⟨HX4.out.1, HX4.out.2.2, Or.inr rfl⟩
                      have hK4 := HKK.out.1
                      have ct : W3.cell? ⟨mb, 3, none⟩ = some (.int .i64 K) := by rw [← HKK.out.2.1]; exact HX4.out.2.1.cAt 3
                      have c0 : W3.cell? ⟨mb, 0, none⟩ = some (.int .i64 m.k) := HX4.out.2.1.cAt 0
                      have n1 : ab ≠ sb := (HX4.out.1.xz ab (Or.inr rfl)).1
                      have n1' : sb ≠ ab := fun e => n1 e.symm
                      have n2 : ab ≠ nb := (HX4.out.1.xz ab (Or.inr rfl)).2.1
                      have n2' : nb ≠ ab := fun e => n2 e.symm
                      have n3 : mb ≠ ab := HNE.out
                      have n3' : ab ≠ mb := fun e => n3 e.symm
                      have n4 : mb ≠ sb := (HX4.out.1.xz mb (Or.inl (Or.inr rfl))).1
                      have n4' : sb ≠ mb := fun e => n4 e.symm
                      have a0 : W3.cell? ⟨ab, 0, none⟩ = some (.int .i64 0) := HX4.out.2.2.cAt 0
                      have af := fun j => HX4.out.2.2.fz j
                      have gk := HX4.out.1.cg.c K hK4
                      have gf := fun j => HX4.out.1.cg.fz j
                      have y0 := HX4.out.1.y.c0
                      have y1 := HX4.out.1.y.c1
                      have y2 := HX4.out.1.y.c2
                      have y3 := HX4.out.1.y.c3
                      have hyy := HOK.out.2.2.1 hk7
                      have d4 : W3.cell? ⟨mb, 4, none⟩ = some (.int .u32 y.1) := by rw [← hyy]; exact HX4.out.2.1.cAt 4
                      have d5 : W3.cell? ⟨mb, 5, none⟩ = some (.int .u32 y.2.1) := by rw [← hyy]; exact HX4.out.2.1.cAt 5
                      have d6 : W3.cell? ⟨mb, 6, none⟩ = some (.int .u32 y.2.2.1) := by rw [← hyy]; exact HX4.out.2.1.cAt 6
                      have d7 : W3.cell? ⟨mb, 7, none⟩ = some (.int .u32 y.2.2.2) := by rw [← hyy]; exact HX4.out.2.1.cAt 7
                      have hMB : Hid (MsgAt mb m W3) := HX4.out.2.1
                      have hkk : ((K : Int) != (K : Int)) = false := by simp
                      clear hyy a0 af gk gf HX4
                      go_wp2_with (fail)
                      refine (sameline_self y.1 y.2.1 y.2.2.1 y.2.2.2 W3).mono ?_
                      rintro e w6 ⟨rfl, hb6⟩
                      have HJ6 : Hid (Aj w1.heap.size hb sb nb ab (fun b => (False ∨ b = mb) ∨ b = ab) (∀ m' l', (⟨xs, xg, m :: l, xt⟩ : W.Al).o = m' :: l' → m'.k = 7 ∨ m'.k = 8) xs xg y ⟨a', on2 - 1, oc2 - 1⟩ l ⟨0, 0, K, -1, 0, 0, 0, 0, false, false, false⟩ w1 w6) := HJ.out.below hb6
                      have m6 := hMB.out.below hb6
                      clear hb6 HJ y0 y1 y2 y3 d4 d5 d6 d7 c0 ct hMB
                      have c0 : w6.cell? ⟨mb, 0, none⟩ = some (.int .i64 m.k) := m6.cAt 0
                      have ca : w6.cell? ⟨mb, 10, none⟩ = some (.bool m.a) := m6.cAt 10
                      have a0 : w6.cell? ⟨ab, 0, none⟩ = some (.int .i64 0) := HJ6.out.m.cAt 0
                      have af := fun j => HJ6.out.m.fz j
                      have gk := HJ6.out.a.cg.c K hK4
                      have gf := fun j => HJ6.out.a.cg.fz j
                      clear m6
                      have eM : W.aMsg xg m y = ⟨12, 0, K, -1, 0, 0, 0, 0, false, false, false⟩ := by unfold W.aMsg; rw [if_neg (by omega), if_neg (by omega), HKK.out.2.1]
                      cases hma : m.a
                      · rw [hma] at ca
                        cases wt
                        · have HF : Hid (_) := (HJ6.out.set (M' := ⟨12, 0, K, -1, 0, 0, 0, 0, false, false, false⟩) 0 (.int .i64 12) rfl).setG K hK4 1
                          have eG : W.aG xg m K false = W.gSet xg K 1 := by unfold W.aG; rw [if_neg (by omega), if_neg (by omega), if_neg (by omega), hma]; rfl
                          clear HJ6 hma
                          go_wp2_with (fail)
                          go_meet
                          case rel => exact ⟨by simp [hk7], by rw [eG, eM]; exact HF.out⟩
                        · have HF : Hid (_) := ((HJ6.out.set (M' := ⟨12, 0, K, -1, 0, 0, 0, 0, false, false, false⟩) 0 (.int .i64 12) rfl).setG K hK4 1).setG K hK4 2
                          have eG : W.aG xg m K true = W.gSet (W.gSet xg K 1) K 2 := by rw [gSet_2]; unfold W.aG; rw [if_neg (by omega), if_neg (by omega), if_neg (by omega), hma]; rfl
                          clear HJ6 hma
                          go_wp2_with (fail)
                          go_meet
                          case rel => exact ⟨by simp [hk7], by rw [eG, eM]; exact HF.out⟩
                      · rw [hma] at ca
                        have HF : Hid (_) := ((HJ6.out.set (M' := ⟨12, 0, K, -1, 0, 0, 0, 0, false, false, false⟩) 0 (.int .i64 12) rfl).setG K hK4 1).setG K hK4 2
                        have eG : W.aG xg m K wt = W.gSet (W.gSet xg K 1) K 2 := by rw [gSet_2]; unfold W.aG; rw [if_neg (by omega), if_neg (by omega), if_neg (by omega), hma]; cases wt <;> rfl
                        clear HJ6 hma
                        cases wt
                        · go_wp2_with (fail)
                          go_meet
                          case rel => exact ⟨by simp [hk7], by rw [eG, eM]; exact HF.out⟩
                        · go_wp2_with (fail)
                          go_meet
                          case rel => exact ⟨by simp [hk7], by rw [eG, eM]; exact HF.out⟩
                    · as_aux_lemma =>
                      obtain rfl : K = R := by have := HKK.out.2.1; omega
                      have p4 : (m.k == 4) = false := by simp [hk8]
                      have p5 : (m.k == 5) = false := by simp [hk8]
                      have p6 : (m.k == 6) = false := by simp [hk8]
                      have p7 : (m.k == 7) = false := by simp [hk8]
                      have p8 : (m.k == 8) = true := by simp [hk8]
                      have HJ : Hid (Aj w1.heap.size hb sb nb ab (fun b => (False ∨ b = mb) ∨ b = ab) (∀ m' l', (⟨xs, xg, m :: l, xt⟩ : W.Al).o = m' :: l' → m'.k = 7 ∨ m'.k = 8) xs xg y ⟨a', on2 - 1, oc2 - 1⟩ l ⟨0, 0, K, -1, 0, 0, 0, 0, false, false, false⟩ w1 W3) := ⟨HX4.out.1, HX4.out.2.2, Or.inr rfl⟩
                      have hK4 := HKK.out.1
                      have ct : W3.cell? ⟨mb, 3, none⟩ = some (.int .i64 K) := by rw [← HKK.out.2.1]; exact HX4.out.2.1.cAt 3
                      have c0 : W3.cell? ⟨mb, 0, none⟩ = some (.int .i64 m.k) := HX4.out.2.1.cAt 0
                      have n1 : ab ≠ sb := (HX4.out.1.xz ab (Or.inr rfl)).1
                      have n1' : sb ≠ ab := fun e => n1 e.symm
                      have n2 : ab ≠ nb := (HX4.out.1.xz ab (Or.inr rfl)).2.1
                      have n2' : nb ≠ ab := fun e => n2 e.symm
                      have n3 : mb ≠ ab := HNE.out
                      have n3' : ab ≠ mb := fun e => n3 e.symm
                      have n4 : mb ≠ sb := (HX4.out.1.xz mb (Or.inl (Or.inr rfl))).1
                      have n4' : sb ≠ mb := fun e => n4 e.symm
                      have a0 : W3.cell? ⟨ab, 0, none⟩ = some (.int .i64 0) := HX4.out.2.2.cAt 0
                      have af := fun j => HX4.out.2.2.fz j
                      have gk := HX4.out.1.cg.c K hK4
                      have gf := fun j => HX4.out.1.cg.fz j
                      have hkk : ((K : Int) != (K : Int)) = false := by simp
                      have HJ6 : Hid (Aj w1.heap.size hb sb nb ab (fun b => (False ∨ b = mb) ∨ b = ab) (∀ m' l', (⟨xs, xg, m :: l, xt⟩ : W.Al).o = m' :: l' → m'.k = 7 ∨ m'.k = 8) xs xg y ⟨a', on2 - 1, oc2 - 1⟩ l ⟨0, 0, K, -1, 0, 0, 0, 0, false, false, false⟩ w1 W3) := HJ.out
                      have m6 := HX4.out.2.1
                      clear HJ a0 af gk gf c0 ct HX4
                      have c0 : W3.cell? ⟨mb, 0, none⟩ = some (.int .i64 m.k) := m6.cAt 0
                      have ca : W3.cell? ⟨mb, 10, none⟩ = some (.bool m.a) := m6.cAt 10
                      have a0 : W3.cell? ⟨ab, 0, none⟩ = some (.int .i64 0) := HJ6.out.m.cAt 0
                      have af := fun j => HJ6.out.m.fz j
                      have gk := HJ6.out.a.cg.c K hK4
                      have gf := fun j => HJ6.out.a.cg.fz j
                      rw [hg3] at gk
                      clear m6
                      have eM : W.aMsg xg m y = ⟨12, 0, K, -1, 0, 0, 0, 0, false, false, false⟩ := by unfold W.aMsg; rw [if_neg (by omega), if_neg (by omega), HKK.out.2.1]
                      cases hma : m.a
                      · rw [hma] at ca
                        cases wt
                        · have HF : Hid (_) := (HJ6.out.set (M' := ⟨12, 0, K, -1, 0, 0, 0, 0, false, false, false⟩) 0 (.int .i64 12) rfl).setG K hK4 1
                          have eG : W.aG xg m K false = W.gSet xg K 1 := by unfold W.aG; rw [if_neg (by omega), if_neg (by omega), if_neg (by omega), hma]; rfl
                          clear HJ6 hma
                          go_wp2_with (fail)
                          go_meet
                          case rel => exact ⟨by simp [hk8], by rw [eG, eM]; exact HF.out⟩
                        · have HF : Hid (_) := ((HJ6.out.set (M' := ⟨12, 0, K, -1, 0, 0, 0, 0, false, false, false⟩) 0 (.int .i64 12) rfl).setG K hK4 1).setG K hK4 2
                          have eG : W.aG xg m K true = W.gSet (W.gSet xg K 1) K 2 := by rw [gSet_2]; unfold W.aG; rw [if_neg (by omega), if_neg (by omega), if_neg (by omega), hma]; rfl
                          clear HJ6 hma
                          go_wp2_with (fail)
                          go_meet
                          case rel => exact ⟨by simp [hk8], by rw [eG, eM]; exact HF.out⟩
                      · rw [hma] at ca
                        have HF : Hid (_) := ((HJ6.out.set (M' := ⟨12, 0, K, -1, 0, 0, 0, 0, false, false, false⟩) 0 (.int .i64 12) rfl).setG K hK4 1).setG K hK4 2
                        have eG : W.aG xg m K wt = W.gSet (W.gSet xg K 1) K 2 := by rw [gSet_2]; unfold W.aG; rw [if_neg (by omega), if_neg (by omega), if_neg (by omega), hma]; cases wt <;> rfl
                        clear HJ6 hma
                        cases wt
                        · go_wp2_with (fail)
                          go_meet
                          case rel => exact ⟨by simp [hk8], by rw [eG, eM]; exact HF.out⟩
                        · go_wp2_with (fail)
                          go_meet
                          case rel => exact ⟨by simp [hk8], by rw [eG, eM]; exact HF.out⟩
                  case rest =>
                   as_aux_lemma =>
                    obtain ⟨rfl, haj⟩ := hcut
                    have HY : Hid (_ ∧ _) := ⟨haj.a, haj.m⟩
                    clear haj HX4
                    have HAK : Hid (_) := W.aMsg_k xg m y
                    have hla := HY.out.2.ld
                    go_wp2_with (fail)
                    refine (HY.out.1.q.takes (W.aMsg xg m y) HAK.out).mono ?_
                    rintro e w8 ⟨rfl, hb8⟩
                    rw [HP.out.1]
                    have HY2 : Hid (_ ∧ _) := ⟨HY.out.1.below hb8, HY.out.2.below hb8⟩
                    clear hla hb8 HY
                    have hla := HY2.out.2.ld
                    go_wp2_with (fail)
                    refine (HY2.out.1.q.takeS (W.aMsg xg m y) HAK.out).mono ?_
                    rintro e w9 ⟨⟨a9, n9, c9⟩, rfl, hm9, hq9, hk9, hs9, hz9⟩
                    have HZ : Hid (_ ∧ _ ∧ _ ∧ _ ∧ _) := ⟨hm9, hq9, hk9, hs9, hz9⟩
                    have hncT := HY2.out.1.ms.nc
                    have hnT : on2 - 1 = l.length := HY2.out.1.ms.n
                    have hk5 : k < 5 := by have := HOK.out.1; omega
                    dsimp only at hncT
                    clear hm9 hq9 hk9 hs9 hz9 hla
                    unfold slV
                    dsimp only
                    rcases HP.out.2.1 with h0 | ⟨⟨M, hM⟩, hl1⟩
                    · obtain rfl : n9 = 0 := by have := HZ.out.1.n; rw [h0] at this; exact this
                      have happ := fun ty w => append_nilM 25 ty w Try.underlying25 a' (on2 - 1) (oc2 - 1) hncT a9 c9
                      have HAP : Hid (_) := happ
                      have HF : Hid (_ ∧ _) := ⟨HY2.out.1.took0 HZ.out.2.1 HZ.out.2.2.2.2 HZ.out.2.2.1, h0⟩
                      clear happ hncT hnT h0
                      go_wp2_with (at_builtin; refine Lib.wpList_append_run _ rfl _ _ _ _ rfl _ _ rfl rfl _ _ (HAP.out _ _) ?_)
                      go_roundw
                      case rel =>
                        refine ⟨k + 1, W.astep R wt y ⟨xs, xg, m :: l, xt⟩ m l, ⟨a', on2 - 1, oc2 - 1⟩, by omega, by go_num, rfl, rfl, ?_, ?_⟩
                        · have : 5 - (k + 1) = k' := by have := HOK.out.1; omega
                          rw [this]
                          exact HOK.out.2.2.2
                        · have ho : (W.astep R wt y ⟨xs, xg, m :: l, xt⟩ m l).o = l := by
                            show l ++ (W.take xs (W.aMsg xg m y)).2 = l
                            rw [HF.out.2, List.append_nil]
                          rw [ho]
                          refine HF.out.1.zmap (fun z m' l' e => ?_)
                          have h7 := (HP.out.2.2.1 (z m l rfl)).2
                          rw [e] at h7
                          simp at h7
                      case measure => simp [intOf]; omega
                    · obtain rfl : l = [] := by simpa using hl1
                      have hm9 := HZ.out.1
                      rw [hM] at hm9
                      obtain ⟨b9, o9, c9', es9, hc9, hl9, hr9⟩ := ms_1 hm9
                      obtain ⟨rfl, rfl, rfl⟩ : a9 = some ⟨b9, o9, none⟩ ∧ n9 = 1 ∧ c9 = c9' := by
                        cases es9
                        exact ⟨rfl, rfl, rfl⟩
                      have hM78 : M.k = 7 ∨ M.k = 8 := by
                        refine HP.out.2.2.2.1 (fun q => ?_) M (by rw [hM]; simp)
                        have := (HP.out.2.2.1 q).1
                        rw [hM] at this
                        cases this
                      have hspr : Spr ⟨a', on2 - 1, oc2 - 1⟩ w9 := by
                        have h1 := HY2.out.1.took0 HZ.out.2.1 HZ.out.2.2.2.2 HZ.out.2.2.1
                        rcases h1.sp with z | z
                        · have := (HP.out.2.2.1 (z m [] rfl)).1
                          rw [hM] at this
                          cases this
                        · exact z
                      have HN9 : Hid (_ ∧ _ ∧ _ ∧ _) := ⟨HY2.out.1.took0 HZ.out.2.1 HZ.out.2.2.2.2 HZ.out.2.2.1, hspr, hM78, hM⟩
                      have HNW : Hid (∀ i u, (mgL M)[i]? = some u → w9.cell? ((⟨b9, o9, none⟩ : Addr).add i) = some u) := fun i u hu => by
                        rw [Addr.add_mid]
                        exact hr9 i u hu
                      have hon : on2 = 1 := by
                        have : on2 - 1 = 0 := hnT
                        omega
                      obtain ⟨ti, hti, hzz⟩ := Option.map_eq_some_iff.1 infoMg
                      simp only [Prod.mk.injEq] at hzz
                      obtain ⟨hz0, hz1, hz2⟩ := hzz
                      clear hm9 hr9 hl9 es9 hspr hM78 hM HY2 HZ hncT hnT hl1
                      subst hon
                      by_cases hc1 : oc2 = 1
                      · subst hc1
                        go_wp2_with (at_builtin; refine wpList_append_grows _ rfl _ _ 25 rfl 35 ti (.agg zMg) 11 56 Try.underlying25 hti hz0 hz1 hz2 rfl (by decide) a' 0 0 [] rfl (fun _ => ⟨rfl, rfl⟩) rfl (fun b _ j u hu => by simp at hu) ⟨b9, o9, none⟩ 1 c9 (mgL M) rfl rfl HNW.out (oneM M) (by decide) (by unfold maxLen; omega) (by omega) ?_; intro v6 w6 hown6 hg6)
                        obtain ⟨s6, hs6, hm6, hr6⟩ := ms_omS (show Om w9.heap.size v6 [M] w6 from hown6) (by simp)
                        subst hs6
                        have HF : Hid (_) := HN9.out.1.grows (Z' := ∀ m' l', ([M] : List W.Mg) = m' :: l' → m'.k = 7 ∨ m'.k = 8) (B := 0) hg6 hm6 hr6
                        clear hown6 hg6 hm6 hr6
                        go_roundw
                        case rel =>
                          refine ⟨k + 1, W.astep R wt y ⟨xs, xg, [m], xt⟩ m [], s6, by omega, by go_num, rfl, rfl, ?_, ?_⟩
                          · have : 5 - (k + 1) = k' := by have := HOK.out.1; omega
                            rw [this]
                            exact HOK.out.2.2.2
                          · have ho : (W.astep R wt y ⟨xs, xg, [m], xt⟩ m []).o = [M] := HN9.out.2.2.2
                            rw [ho]
                            exact HF.out
                        case measure => simp [intOf]; omega
                      · obtain rfl : a' = some ⟨mb0, mo + 11, none⟩ := by rw [HKK.out.2.2, if_neg hc1]
                        have hth := HN9.out.2.1 mb0 (mo + 11) rfl
                        dsimp only at hth
                        have HT : Hid (w9.there mb0 (mo + 11) 11) := fun j hj => by
                          have := hth j (by omega)
                          rwa [show mo + 11 + (1 - 1) * 11 + j = mo + 11 + j by omega] at this
                        clear hth
                        go_wp2_with (at_builtin; refine wpList_append_arg _ rfl _ _ 25 rfl 35 ti (.agg zMg) 11 56 Try.underlying25 hti hz0 hz1 hz2 rfl (by decide) mb0 (mo + 11) 0 (oc2 - 1) [] rfl rfl (fun j u hu => by simp at hu) ⟨b9, o9, none⟩ 1 c9 (mgL M) rfl rfl HNW.out (oneM M) (fun _ j hj => HT.out j hj) (by decide) (by omega) (fun _ => ?_) (fun h => absurd h (by omega)))
                        have HF : Hid (_) := HN9.out.1.room (Z' := ∀ m' l', ([M] : List W.Mg) = m' :: l' → m'.k = 7 ∨ m'.k = 8) (by omega) M (fun m' l' e => by cases e; exact HN9.out.2.2.1) HT.out
                        go_wp2
                        go_roundw
                        case rel =>
                          refine ⟨k + 1, W.astep R wt y ⟨xs, xg, [m], xt⟩ m [], ⟨some ⟨mb0, mo + 11, none⟩, 1, oc2 - 1⟩, by omega, by go_num, rfl, rfl, ?_, ?_⟩
                          · have : 5 - (k + 1) = k' := by have := HOK.out.1; omega
                            rw [this]
                            exact HOK.out.2.2.2
                          · have ho : (W.astep R wt y ⟨xs, xg, [m], xt⟩ m []).o = [M] := HN9.out.2.2.2
                            rw [ho]
                            exact HF.out
                        case measure => simp [intOf]; omega
    · obtain rfl : j = N := by omega
      go_wp2
      go_ret
      exact ⟨rfl, HW.out.2.trans (HA.out.q.b.mono HW.out.1)⟩
end Go.Proofs.Ytadkpelcbnljbaa
