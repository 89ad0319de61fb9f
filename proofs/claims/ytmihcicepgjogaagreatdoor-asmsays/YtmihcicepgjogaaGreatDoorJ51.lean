/- Texts in one: PaB. -/
import Derived.Test.YtmihcicepgjogaaGreatDoorJ50
/- The document's Parse, its head: the name and the flags. -/
namespace Go.Proofs.YtmihcicepgjogaaGreatDoor
open Go.ChangeShapes Go.WideShapes Go.ChangeAt Go.RowKit
set_option linter.unusedVariables false
set_option linter.unusedSimpArgs false

set_option maxRecDepth 100000 in
set_option maxHeartbeats 6400000 in
theorem rp_trial (A : Nat → Addr) (L N0 N1 N2 : List UInt8) (rl aq : Bool) (hL : L.length ≤ 200) (sp : Nat) (hsp : sp ≤ L.length) (hpre : ∀ j (h : j < L.length), j < sp → ((L[j]'h).toNat == 32) = false) (hend : ∀ h : sp < L.length, ((L[sp]'h).toNat == 32) = true) (hN0 : L.take sp = N0)
    (hbrl : W.hasSuf [46, 114, 108] N0 = rl) (hN1 : W.cutS [46, 114, 108] N0 = N1) (hbaq : W.hasSuf [46, 97, 113] N1 = aq) (hN2 : W.cutS [46, 97, 113] N1 = N2) (K : Nat) (hK : K ≤ 69) (hbef : ∀ j, j < K → (W.nameAt (j + 1) == N2) = false) (hat : K < 69 → (W.nameAt (K + 1) == N2) = true) (R : Nat → W.I) (b : Nat → Bool) (hR : R 69 = ⟨0, 0, 0, 0, 0, 0, false, false⟩ ∧ b 69 = false) (N : List Int) (hN : (W.numsL (L.drop sp)).getD [] = N) (I1 : W.I) (hI1 : I1 = { W.rdI ((K : Int) + 1) (N.getD 0 0) (N.getD 1 0) (N.getD 2 0) with aq := aq, rl := rl }) (hRK : K < 69 → W.encE I1 = 0 → W.textL I1 = L → R K = I1 ∧ b K = true) (hRN : K < 69 → ¬ (W.encE I1 = 0 ∧ W.textL I1 = L) → R K = ⟨0, 0, 0, 0, 0, 0, false, false⟩ ∧ b K = false) (w : World) (hS : Sg A w) :
    Calls Tryz.prog 13 #[.string ⟨L.toArray⟩] w fun e w' => e = .returned (.tuple #[inV (R K), .bool (b K)]) ∧ Below w.heap.size w w' := by
  have hx0 : (⟨L.toArray⟩ : ByteArray).extract 0 sp = ⟨N0.toArray⟩ := by rw [ba_extract]; simp [hN0]
  have hspi : (sp : Int) ≤ (L.length : Int) := by omega
  have hl0 : N0.length ≤ 200 := by rw [← hN0]; simp; omega
  go_enter Tryz.func13, Tryz.ntmps13
  go_upto_block 0 with fail
  have hbW : Below w.heap.size w (w.alloc (.cells #[.int .i64 0, .int .i64 0, .int .i64 0, .int .i64 0, .int .i64 0, .int .u32 0, .bool false, .bool false] 24)) := (Below.refl _ _).alloc (Nat.le_refl _) _
  have hres : (w.alloc (.cells #[.int .i64 0, .int .i64 0, .int .i64 0, .int .i64 0, .int .i64 0, .int .u32 0, .bool false, .bool false] 24)).heap[w.heap.size]? = some (.cells #[.int .i64 0, .int .i64 0, .int .i64 0, .int .i64 0, .int .i64 0, .int .u32 0, .bool false, .bool false] 24) := heap_alloc_last w _
  have hlw : w.heap.size < (w.alloc (.cells #[.int .i64 0, .int .i64 0, .int .i64 0, .int .i64 0, .int .i64 0, .int .u32 0, .bool false, .bool false] 24)).heap.size := by simp
  generalize World.alloc w _ = W0 at *
  go_cut [4] from 13 to 24 (fun v wx => v = .int .i64 sp ∧ wx = W0)
  case first =>
    go_wp2_with (fail)
    go_loopw [4] (fun i wr => ∃ j : Nat, j ≤ sp ∧ i = .int .i64 j ∧ wr = W0) (fun i _ => sp - (intOf i).toNat)
    case atStart => exact ⟨0, by omega, rfl, rfl⟩
    case round =>
      obtain ⟨j, hj, rfl, rfl⟩ := hrel
      by_cases hjl : j < L.length
      · have hji : (j : Int) < (L.length : Int) := by omega
        obtain ⟨c, hc⟩ : ∃ c, L[j]'hjl = c := ⟨_, rfl⟩
        have hck : ((⟨L.toArray⟩ : ByteArray)[j]'(by rw [ba_len]; exact hjl)) = c := hc
        by_cases hlt : j < sp
        · have h32 : ((c.toNat : Int) != 32) = true := by
            have := hpre j hjl hlt
            rw [hc] at this
            simp at this ⊢; omega
          clear hpre hend
          go_wp2
          go_roundw
          case rel => exact ⟨j + 1, by omega, by go_num, trivial⟩
          case measure => simp [intOf]; omega
        · obtain rfl : j = sp := by omega
          have h32 : ((c.toNat : Int) != 32) = false := by
            have := hend hjl
            rw [hc] at this
            simp at this ⊢; omega
          clear hpre hend
          go_wp2
          go_meet
          case rel => exact ⟨rfl, rfl⟩
      · obtain rfl : j = sp := by omega
        have hji : (L.length : Int) ≤ (j : Int) := by omega
        clear hpre hend
        go_wp2
        go_meet
        case rel => exact ⟨rfl, rfl⟩
  case rest =>
    obtain ⟨rfl, rfl⟩ := hcut
    clear hpre hend
    go_upto_region 5 with fail
    go_cut [6] from 28 to 38 (fun v wx => v = .bool rl ∧ wx = wc)
    case first =>
      by_cases h3 : 3 < N0.length
      · have i3 : (3 : Int) < (N0.length : Int) := by omega
        obtain ⟨m, hm⟩ : ∃ m : Nat, N0.length - 3 = m := ⟨_, rfl⟩
        have hmi : (N0.length : Int) - 3 = (m : Int) := by omega
        have hml : (m : Int) ≤ (N0.length : Int) := by omega
        have hx : (⟨N0.toArray⟩ : ByteArray).extract m N0.length = ⟨(N0.drop m).toArray⟩ := by rw [ba_extract, List.take_of_length_le (by simp)]
        generalize hD : N0.drop m = D at hx
        have hB : rl = (D == [46, 114, 108]) := by rw [← hbrl, W.hasSuf, hm, hD]; simp [h3]
        cases hc : (D == [46, 114, 108])
        all_goals
          rw [hc] at hB
          have hB2 : Hid (_ = _) := hB
          clear hD hm h3 hB hbrl hN1
          go_wp2_with (fail)
          go_meet
          case rel => exact ⟨by rw [hB2.out], rfl⟩
      · have i3 : (N0.length : Int) ≤ 3 := by omega
        have hB : Hid (rl = false) := by show rl = false; rw [← hbrl, W.hasSuf]; simp [h3]
        clear h3 hbrl hN1
        go_wp2_with (fail)
        go_meet
        case rel => exact ⟨by rw [hB.out], rfl⟩
    case rest =>
    obtain ⟨rfl, rfl⟩ := hcut
    go_upto_if 39 with fail
    go_cut [5, 6] from 39 to 44 (fun v b wx => v = .string ⟨N1.toArray⟩ ∧ b = .bool rl ∧ wx = wc)
    case first =>
      cases hrl2 : rl
      · have hM : Hid (N1 = N0) := by show N1 = N0; rw [← hN1, W.cutS, hbrl, hrl2]; rfl
        clear hN1 hbrl
        go_wp2_with (fail)
        go_meet
        case rel => exact ⟨by rw [hM.out], by rw [hrl2], rfl⟩
      · have h3 : 3 < N0.length := by
          have h := hbrl
          rw [hrl2, W.hasSuf] at h
          simp at h
          omega
        obtain ⟨m, hm⟩ : ∃ m : Nat, N0.length - 3 = m := ⟨_, rfl⟩
        have hmi : (N0.length : Int) - 3 = (m : Int) := by omega
        have hml : (m : Int) ≤ (N0.length : Int) := by omega
        have hx : (⟨N0.toArray⟩ : ByteArray).extract 0 m = ⟨N1.toArray⟩ := by
          rw [ba_extract, ← hN1, W.cutS, hbrl, hrl2, hm]; simp
        clear hN1 hbrl hm h3
        go_wp2_with (fail)
        go_meet
        case rel => exact ⟨rfl, by rw [hrl2], rfl⟩
    case rest =>
    obtain ⟨rfl, rfl, rfl⟩ := hcut
    have hl1 : N1.length ≤ 200 := by rw [← hN1, W.cutS]; cases W.hasSuf [46, 114, 108] N0 <;> simp <;> omega
    go_upto_region 8 with fail
    go_cut [7] from 45 to 55 (fun v wx => v = .bool aq ∧ wx = wc)
    case first =>
      by_cases h3 : 3 < N1.length
      · have i3 : (3 : Int) < (N1.length : Int) := by omega
        obtain ⟨m, hm⟩ : ∃ m : Nat, N1.length - 3 = m := ⟨_, rfl⟩
        have hmi : (N1.length : Int) - 3 = (m : Int) := by omega
        have hml : (m : Int) ≤ (N1.length : Int) := by omega
        have hx : (⟨N1.toArray⟩ : ByteArray).extract m N1.length = ⟨(N1.drop m).toArray⟩ := by rw [ba_extract, List.take_of_length_le (by simp)]
        generalize hD : N1.drop m = D at hx
        have hB : aq = (D == [46, 97, 113]) := by rw [← hbaq, W.hasSuf, hm, hD]; simp [h3]
        cases hc : (D == [46, 97, 113])
        all_goals
          rw [hc] at hB
          have hB2 : Hid (_ = _) := hB
          clear hD hm h3 hB hbaq hN2
          go_wp2_with (fail)
          go_meet
          case rel => exact ⟨by rw [hB2.out], rfl⟩
      · have i3 : (N1.length : Int) ≤ 3 := by omega
        have hB : Hid (aq = false) := by show aq = false; rw [← hbaq, W.hasSuf]; simp [h3]
        clear h3 hbaq hN2
        go_wp2_with (fail)
        go_meet
        case rel => exact ⟨by rw [hB.out], rfl⟩
    case rest =>
    obtain ⟨rfl, rfl⟩ := hcut
    go_upto_if 56 with fail
    go_cut [5, 7] from 56 to 61 (fun v b wx => v = .string ⟨N2.toArray⟩ ∧ b = .bool aq ∧ wx = wc)
    case first =>
      cases haq2 : aq
      · have hM : Hid (N2 = N1) := by show N2 = N1; rw [← hN2, W.cutS, hbaq, haq2]; rfl
        clear hN2 hbaq
        go_wp2_with (fail)
        go_meet
        case rel => exact ⟨by rw [hM.out], by rw [haq2], rfl⟩
      · have h3 : 3 < N1.length := by
          have h := hbaq
          rw [haq2, W.hasSuf] at h
          simp at h
          omega
        obtain ⟨m, hm⟩ : ∃ m : Nat, N1.length - 3 = m := ⟨_, rfl⟩
        have hmi : (N1.length : Int) - 3 = (m : Int) := by omega
        have hml : (m : Int) ≤ (N1.length : Int) := by omega
        have hx : (⟨N1.toArray⟩ : ByteArray).extract 0 m = ⟨N2.toArray⟩ := by
          rw [ba_extract, ← hN2, W.cutS, hbaq, haq2, hm]; simp
        clear hN2 hbaq hm h3
        go_wp2_with (fail)
        go_meet
        case rel => exact ⟨rfl, by rw [haq2], rfl⟩
    case rest =>
    obtain ⟨rfl, rfl, rfl⟩ := hcut
    clear hx0 hspi hN0 hN1 hN2 hbrl hbaq
    go_wp2_with (go_at_call 36; refine (rows_tb _).mono ?_; rintro e w1 ⟨g, rfl, hT, hm⟩; have HT : Hid (Tb g w1) := hT; replace hbW := hbW.trans (hm.mono hbW.size); replace hres := (hm.block _ hlw).trans hres; replace hlw := Nat.lt_of_lt_of_le hlw hm.size; clear hm hT)
    go_loopw [9] (fun i wr => ∃ j : Nat, j ≤ K ∧ i = .int .i64 j ∧ wr = w1) (fun i _ => (69 - intOf i).toNat)
    case atStart => exact ⟨0, by omega, rfl, rfl⟩
    case round =>
      obtain ⟨j, hj, rfl, rfl⟩ := hrel
      by_cases hj9 : j < 69
      · have hj0 : (0 : Int) ≤ (j : Int) := by omega
        have hj1 : (j : Int) < 69 := by omega
        obtain ⟨r, hr, ho, c0, c1, c2, c3, c4, c5, c6, c7, c8, c9, c10, c11, c12, c13⟩ := HT.out.at j (by omega)
        have hrn : r.name = W.nameAt (j + 1) := by rw [← hr]; rfl
        by_cases hlt : j < K
        · have hne := hbef j hlt
          rw [← hrn] at hne
          clear hr ho hrn hbef hat
          go_wp2
          go_roundw
          case rel => exact ⟨j + 1, by omega, by go_num, trivial⟩
          case measure => simp [intOf]; omega
        · obtain rfl : j = K := by omega
          have heq := hat hj9
          rw [← hrn] at heq
          clear hr hrn hbef hat
          have hgl := HT.out.lt
          have hNl : N.length ≤ 1000 := by
            rw [← hN]
            have := W.numsL_len (L.drop sp)
            simp at this ⊢
            omega
          have hnum := fun w => numbers_any L (by omega) sp hsp w
          rw [hN] at hnum
          have hrd := fun v base w h1 h2 => rread5_any r.op v N base (by omega) (by omega) hNl w h1 h2
          rw [ho] at hrd
          have hio : ∃ p0 p1 p2 p3 p4 p5 p6 p7, W.rdI ((j : Int) + 1) (N.getD 0 0) (N.getD 1 0) (N.getD 2 0) = ⟨p0, p1, p2, p3, p4, p5, p6, p7⟩ := ⟨_, _, _, _, _, _, _, _, rfl⟩
          obtain ⟨p0, p1, p2, p3, p4, p5, p6, p7, hp⟩ := hio
          have hpb : 0 ≤ p5 ∧ p5 < 4294967296 := by
            have := W.rdI_imm ((j : Int) + 1) (N.getD 0 0) (N.getD 1 0) (N.getD 2 0)
            rw [hp] at this
            exact this
          rw [hp] at hrd hI1
          dsimp only at hI1
          unfold inV at hrd
          dsimp only at hrd
          rw [ho] at c0
          clear ho hp hN c2 c3 c4 c5 c6 c7 c8 c9 c10 c11 c12 c13
          have q0 : Qp w g (j * 14) ((j : Int) + 1) wr := ⟨hbW, hres, c0, hgl⟩
          go_upto_region 16 with fail
          go_cut [10] from 76 to 82 (fun v wx => ∃ bi, v = .pointer (some ⟨bi, 0, none⟩) ∧ wx.heap[bi]? = some (.cells #[.int .i64 p0, .int .i64 p1, .int .i64 p2, .int .i64 p3, .int .i64 p4, .int .u32 p5, .bool p6, .bool p7] 24) ∧ w.heap.size < bi ∧ wx.heap[w.heap.size]? = some Z8 ∧ Below w.heap.size w wx)
          case first =>
            go_region_with (first
              | (go_at_call 38; refine (hnum _).mono ?_; rintro e w3 ⟨v, rfl, hown, hb3⟩
                 first
                   | (have q3 := Qp.below q0.drew hb3)
                   | (have q3 := Qp.below q0 hb3)
                   | (have q3 := Qp.below (q0.drew.alloc Z8) hb3; have z3 : w3.heap[wr.heap.size]? = some Z8 := (hb3.block _ (by simp)).trans (heap_alloc_last wr.drew _))
                   | (have q3 := Qp.below (q0.alloc Z8) hb3; have z3 : w3.heap[wr.heap.size]? = some Z8 := (hb3.block _ (by simp)).trans (heap_alloc_last wr _))
                 have c3 := q3.row
                 have g3 := q3.gl)
              | (go_at_call 37
                 first
                   | (refine (hrd _ _ _ hown hb3.size).mono ?_; rintro e w4 ⟨rfl, hb4⟩; have q4 := Qp.below q3 hb4)
                   | (refine (hrd _ _ _ (hown.alloc _) (Nat.le_trans hb3.size (by simp))).mono ?_; rintro e w4 ⟨rfl, hb4⟩; have q4 := Qp.below (q3.alloc Z8) hb4; have z4 : w4.heap[w3.heap.size]? = some Z8 := (hb4.block _ (by simp)).trans (heap_alloc_last w3 _))
                 first
                   | (have _q := z3; have z5 : w4.heap[wr.heap.size]? = some Z8 := (hb4.block _ (Array.getElem?_eq_some_iff.1 z3).1).trans z3; obtain ⟨t0, t1, t2, t3, t4, t5, t6, t7, tf⟩ := ires_cells z5)
                   | (have _q := z4; obtain ⟨t0, t1, t2, t3, t4, t5, t6, t7, tf⟩ := ires_cells _q)
                   | skip))
            all_goals
              go_wp2
              go_meet
              case rel =>
                first
                  | (have _q := z5; exact ⟨wr.heap.size, rfl, set8 _q _ _ _ _ _ _ _ _, hlw, (set8_far (Nat.ne_of_lt hlw) _ _ _ _ _ _ _ _).trans q4.res, fin8 q4.base (Nat.le_of_lt hlw) _ _ _ _ _ _ _ _⟩)
                  | (have _q := z4; exact ⟨w3.heap.size, rfl, set8 _q _ _ _ _ _ _ _ _, q3.lt, (set8_far (Nat.ne_of_lt q3.lt) _ _ _ _ _ _ _ _).trans q4.res, fin8 q4.base (Nat.le_of_lt q3.lt) _ _ _ _ _ _ _ _⟩)
                  | exact ⟨w4.heap.size, rfl, heap_alloc_last w4 _, q4.lt, (q4.alloc _).res, (q4.alloc _).base⟩
          case rest =>
            obtain ⟨bi, rfl, hbi, hlt2, hrs, hb2⟩ := hcut
            clear q0 hbW hres hlw c0 c1 hgl hnum hrd HT
            obtain ⟨t0, t1, t2, t3, t4, t5, t6, t7, tf⟩ := ires_cells hbi
            have henc := fun w => renc_any ⟨p0, p1, p2, p3, p4, p5, aq, rl⟩ w hpb.1 hpb.2
            have hpr := fun he w hS => rprint_any A ⟨p0, p1, p2, p3, p4, p5, aq, rl⟩ he hpb.1 hpb.2 w hS
            unfold inV at henc hpr
            dsimp only at henc hpr
            have hbi5 := set2 hbi aq rl
            have hrs5 := (set2_far (w := wc) (b := bi) (Nat.ne_of_lt hlt2) (.bool aq) (.bool rl)).trans hrs
            have hb5 : Below w.heap.size w ((wc.setCell ⟨bi, 6, none⟩ (.bool aq)).setCell ⟨bi, 7, none⟩ (.bool rl)) := (hb2.setCell (Nat.le_of_lt hlt2) _).setCell (Nat.le_of_lt hlt2) _
            subst hI1
            generalize W.encV ⟨p0, p1, p2, p3, p4, p5, aq, rl⟩ = ev at *
            generalize W.encE ⟨p0, p1, p2, p3, p4, p5, aq, rl⟩ = en at *
            generalize W.textL ⟨p0, p1, p2, p3, p4, p5, aq, rl⟩ = T at *
            go_wp2_with (fail)
            clear t0 t1 t2 t3 t4 t5 t6 t7 tf hbi hrs hb2
            generalize World.setCell (World.setCell wc _ _) _ _ = W5 at *
            refine (henc _).mono ?_
            rintro e w6 ⟨rfl, hb6⟩
            have hi6 := (hb6.block _ (Array.getElem?_eq_some_iff.1 hbi5).1).trans hbi5
            have hr6 := (hb6.block _ (Array.getElem?_eq_some_iff.1 hrs5).1).trans hrs5
            have hw6 := hb5.trans (hb6.mono hb5.size)
            clear hbi5 hrs5 hb5 hb6 henc
            by_cases he : en = 0
            · subst he
              have hnm : num 0 = 0 := rfl
              have hp6 := hpr rfl w6 (hS.below hw6)
              clear hpr
              obtain ⟨t0, t1, t2, t3, t4, t5, t6, t7, tf⟩ := ires_cells hi6
              cases ht : (T == L)
              · have HR : Hid (_ ∧ _) := hRN hj9 (fun h => by rw [h.2] at ht; simp at ht)
                clear hR hRK hRN
                go_wp2_with (go_at_call 11; refine hp6.mono ?_; rintro e w7 ⟨rfl, hb7⟩; have hr7 := (hb7.block _ (Array.getElem?_eq_some_iff.1 hr6).1).trans hr6; have hw7 := hw6.trans (hb7.mono hw6.size); clear t0 t1 t2 t3 t4 t5 t6 t7 tf; obtain ⟨z0, z1, z2, z3, z4, z5, z6, z7, zf⟩ := ires_cells hr7)
                exact bodyPost_ret (v := .tuple #[.agg #[.int .i64 0, .int .i64 0, .int .i64 0, .int .i64 0, .int .i64 0, .int .u32 0, .bool false, .bool false], .bool false]) (by simp [results, Tryz.results13, go_sem, *]) rfl ⟨by rw [HR.out.1, HR.out.2]; rfl, fin8 hw7 (Nat.le_refl _) _ _ _ _ _ _ _ _⟩
              · have HR : Hid (_ ∧ _) := hRK hj9 rfl (by simpa using ht)
                clear hR hRK hRN
                go_wp2_with (go_at_call 11; refine hp6.mono ?_; rintro e w7 ⟨rfl, hb7⟩; have hr7 := (hb7.block _ (Array.getElem?_eq_some_iff.1 hr6).1).trans hr6; have hi7 := (hb7.block _ (Array.getElem?_eq_some_iff.1 hi6).1).trans hi6; have hw7 := hw6.trans (hb7.mono hw6.size); clear t0 t1 t2 t3 t4 t5 t6 t7 tf; obtain ⟨z0, z1, z2, z3, z4, z5, z6, z7, zf⟩ := ires_cells hr7; obtain ⟨t0, t1, t2, t3, t4, t5, t6, t7, tf⟩ := ires_cells hi7)
                exact bodyPost_ret (v := .tuple #[.agg #[.int .i64 p0, .int .i64 p1, .int .i64 p2, .int .i64 p3, .int .i64 p4, .int .u32 p5, .bool aq, .bool rl], .bool true]) (by simp [results, Tryz.results13, go_sem, *]) rfl ⟨by rw [HR.out.1, HR.out.2]; rfl, fin8 hw7 (Nat.le_refl _) _ _ _ _ _ _ _ _⟩
            · have hnm := num_zero en he
              have HR : Hid (_ ∧ _) := hRN hj9 (fun h => he h.1)
              clear hR hRK hRN hpr he
              obtain ⟨z0, z1, z2, z3, z4, z5, z6, z7, zf⟩ := ires_cells hr6
              generalize num en = nn at *
              go_wp2
              exact bodyPost_ret (v := .tuple #[.agg #[.int .i64 0, .int .i64 0, .int .i64 0, .int .i64 0, .int .i64 0, .int .u32 0, .bool false, .bool false], .bool false]) (by simp [results, Tryz.results13, go_sem, *]) rfl ⟨by rw [HR.out.1, HR.out.2]; rfl, fin8 hw6 (Nat.le_refl _) _ _ _ _ _ _ _ _⟩
      · obtain rfl : j = 69 := by omega
        obtain rfl : K = 69 := by omega
        clear hbef hat
        obtain ⟨z0, z1, z2, z3, z4, z5, z6, z7, zf⟩ := ires_cells hres
        have hR' : Hid (_ ∧ _) := hR
        clear hR
        go_wp2
        exact bodyPost_ret (v := .tuple #[.agg #[.int .i64 0, .int .i64 0, .int .i64 0, .int .i64 0, .int .i64 0, .int .u32 0, .bool false, .bool false], .bool false]) (by simp [results, Tryz.results13, go_sem, *]) rfl ⟨by rw [hR'.out.1, hR'.out.2]; rfl, fin8 hbW (Nat.le_refl _) _ _ _ _ _ _ _ _⟩
end Go.Proofs.YtmihcicepgjogaaGreatDoor
