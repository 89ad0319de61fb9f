/- Of. -/
import Derived.Test.YtibohlbkkaghkaaDoorPpoV0
import Derived.Deep.AppendLies
namespace Go.Proofs.YtibohlbkkaghkaaDoor
open Go.ChangeShapes Go.WideShapes Go.ChangeAt Go.RowKit
set_option linter.unusedVariables false
set_option linter.unusedSimpArgs false

theorem news_i (x : Int) (w : World) : ∀ j u, [Value.int .i64 x][j]? = some u → (w.alloc (.cells #[.int .i64 x] 3)).cell? ((⟨w.heap.size, 0, none⟩ : Addr).add j) = some u := by
  intro j u hu
  match j, hu with
  | 0, hu =>
    simp at hu
    subst hu
    exact cell_of_row _ _ 0 _ _ (0, 0) (heap_alloc_last w _)
theorem of1_lk {w w1 w5 : World} {a : Option Addr} {n c kb ab pb rb hb : Nat} {P : Nat → Int} {A : Nat → W.Act} (eb : Nat) (hb1 : Below w.heap.size w w1) (L : LkF F0 w1 (kdU kb ab pb rb hb n (.slice a n c) P A) w5) (hB : Bh w.heap.size eb n (fun _ => W.Sl.nil) (fun _ => []) w5) (hno : (kdU kb ab pb rb hb n (.slice a n c) P A).no eb) : Of1 w (kdU kb ab pb rb hb n (.slice a n c) P A) eb (fun _ => W.Sl.nil) (fun _ => []) w5 :=
  ⟨L.rebase hb1, hB, fun x hx => by rw [pb_made eb _ x hx]; exact hno⟩
theorem lk_old {w1 w5 : World} {d : Kd} (L : LkF F0 w1 d w5) (hd : d.H = W.Sl.nil) (c : Nat) (hc : c < w1.heap.size) : d.no c := by
  have h1 := L.nk
  have h2 := L.na
  have h3 := L.np
  have h4 := L.nr
  have h5 := L.ng
  refine ⟨by omega, by omega, by omega, by omega, by omega, fun e => ?_⟩
  rw [hd] at e
  simp [slV, W.Sl.nil, Value.ownBlock] at e
set_option maxRecDepth 10000 in
set_option maxHeartbeats 3200000 in
theorem of_any (a : Option Addr) (n c : Nat) (x : Nat → W.Oz) (w : World) (hO : Ol a n x w) (hn : n ≤ 4000) (hz : ∀ j, j < n → W.OzOk (x j)) :
    Calls Tryd.prog 52 #[.slice a n c] w fun e w' => ∃ eb S, e = .returned (.slice (some ⟨eb, 0, none⟩) n n) ∧ Bh w.heap.size eb n S (W.ofL x n) w' ∧ Below w.heap.size w w' := by
  obtain ⟨it, ht, hzz⟩ := Option.map_eq_some_iff.1 (show (Tryd.prog.info? 3).map (fun i => (i.zero, i.size, i.bytes)) = some (some (.int .i64 0), 1, 8) by kernel_rfl)
  simp only [Prod.mk.injEq] at hzz
  obtain ⟨hy0, hy1, hy2⟩ := hzz
  obtain ⟨OB, hOB, hmB⟩ : ∃ o : Obj, Hid (o = (.cells (madeCells #[.slice none 0 0] n) 23)) ∧ ∀ w, (Instr.makeSlice 64 (.int .i64 (n : Int)) (.int .i64 (n : Int))).run Tryd.prog w = .ok (.slice (some ⟨w.heap.size, 0, none⟩) n n) (w.alloc o) := ⟨_, rfl, make_rows n (by omega)⟩
  have hLk := fun w' (hb : Below w.heap.size w w') => lookAt_any a n c x w' (hO.below hb) (by omega) (fun j hj => ⟨(hz j hj).z0, (hz j hj).z1⟩)
  have HH : Hid (_ ∧ _ ∧ _) := ⟨hLk, hO, hz⟩
  clear hLk hO hz
  go_enter Tryd.func52, Tryd.ntmps52
  go_wp2_with (fail)
  go_cut [3, 4] from 8 to 13 (fun v k wx => ∃ eb kb ab pb rb hb, v = .slice (some ⟨eb, 0, none⟩) n n ∧ k = .pointer (some ⟨kb, 0, none⟩) ∧ Of1 w (kdU kb ab pb rb hb n (.slice a n c) (W.pairO x) fun i => W.actO (x i).o) eb (fun _ => W.Sl.nil) (fun _ => []) wx)
  case first =>
    go_region_with ((go_at_call 58; refine (HH.out.1 _ (by first | exact (Below.refl _ _).drew | exact ((Below.refl _ _).alloc (Nat.le_refl _) _).drew)).mono ?_; rintro e w5 ⟨kb, ab, pb, rb, hb, rfl, L5⟩))
    all_goals
      go_wp2
      go_meet
      case rel => (first
        | exact ⟨w.heap.size, kb, ab, pb, rb, hb, rfl, rfl, of1_lk w.heap.size ((Below.refl _ _).alloc (Nat.le_refl _) OB).drew L5 (by have := bh_made w.heap.size n w (Nat.le_refl _); rw [← hOB.out] at this; exact (this.below (Below.refl _ _).drew).below L5.bl) (lk_old L5 rfl _ (by show w.heap.size < (w.alloc OB).heap.size; simp))⟩
        | exact ⟨w5.heap.size, kb, ab, pb, rb, hb, rfl, rfl, of1_lk w5.heap.size (Below.refl _ _).drew (L5.below ((Below.refl _ _).alloc (Nat.le_refl _) OB)) (by have := bh_made w.heap.size n w5 L5.bl.size; rw [← hOB.out] at this; exact this) (L5.new _ (Nat.le_refl _))⟩)
  case rest =>
    obtain ⟨eb, kb, ab, pb, rb, hb, rfl, rfl, hL⟩ := hcut
    have hL0 : Of1 w (kdU kb ab pb rb hb n (.slice a n c) (W.pairO x) (W.acts x 0)) eb (fun _ => W.Sl.nil) (W.ofL x 0) wc := ⟨LkF.congrA (d := kdU kb ab pb rb hb n (.slice a n c) (W.pairO x) (W.acts x 0)) (A := fun i => W.actO (x i).o) hL.k (fun i _ => (W.acts_zero x i).symm), hL.h, hL.ap⟩
    have HL0 : Hid _ := hL0
    clear hL hL0 hmB
    go_wp2
    go_loopw [15] (fun i wr => ∃ b : Nat, b ≤ n ∧ i = .int .i64 (b : Int) ∧ ∃ S R G B k H hid, Of1 w ⟨kb, ab, pb, rb, hb, n, .slice a n c, W.acts x b, W.pairO x, R, G, B, k, H, hid⟩ eb S (W.ofL x b) wr) (fun i _ => n - (intOf i).toNat)
    case atStart => exact ⟨0, by omega, rfl, _, _, _, _, _, _, _, HL0.out⟩
    case round =>
      clear HL0
      obtain ⟨b, hbn, rfl, S, R, G, B, k, H, hid, hL⟩ := hrel
      by_cases hlt : b < n
      · obtain ⟨g, o, rfl, hx⟩ := HH.out.2.1.at_ (by omega)
        have hBk := back2_any w _ wr hL.frame b 0 (Nat.zero_le _) (by show b < n; omega) (by show n ≤ 4000; omega) g o c rfl x (fun j hj => hx j (by omega)) (fun j hj => W.acts_sp x b j (HH.out.2.2 j hj))
        try dsimp only at hBk
        have hbI : (b : Int) < (n : Int) := by omega
        have HB : Hid (Calls _ _ _ _ _ ∧ _ ∧ _) := ⟨hBk, hL, hx⟩
        clear hBk hL hx
        go_wp2_with (fail)
        refine HB.out.1.mono ?_
        rintro e w2 ⟨rfl, B2, k2, H2, hid2, G2, R2, L2, hR⟩
        have o2 := HB.out.2.1.back L2 rfl
        try dsimp only at o2
        have hRw : ∀ q, q < b → R2 q = W.whyO x q b := fun q hq => hR q (Nat.zero_le _) hq
        have c3 := o2.k.k.c 3 (by decide)
        have kl := o2.k.k.lt
        simp only [Kd.f] at c3 kl
        have HO : Hid (_ ∧ _ ∧ _) := ⟨o2.congr (M := W.ofJ x b 0) (fun q _ => by unfold W.ofJ; rw [if_neg (by omega)]), hRw, HB.out.2.2⟩
        clear o2 L2 hR hRw HB
        go_wp2
        go_loopw [28] (fun i wr => ∃ j : Nat, j ≤ b ∧ i = .int .i64 (j : Int) ∧ ∃ S, Of1 w ⟨kb, ab, pb, rb, hb, n, .slice (some ⟨g, o, none⟩) n c, W.acts x b, W.pairO x, R2, G2, B2, k2, H2, hid2⟩ eb S (W.ofJ x b j) wr) (fun i _ => b - (intOf i).toNat)
        case atStart => exact ⟨0, by omega, rfl, _, HO.out.1⟩
        case round =>
          clear c3 kl
          obtain ⟨j, hjb, rfl, S3, o3⟩ := hrel
          by_cases hj : j < b
          · have hjI : (j : Int) < (b : Int) := by omega
            have hjn : (j : Int) < (n : Int) := by omega
            have rj := o3.k.r.c j (by show j < n; omega)
            have rl := o3.k.r.lt
            have ej := o3.h.e.c j (by show j < n; omega)
            have el := o3.h.e.lt
            have ef := o3.h.e.fz j
            have hw := HO.out.2.1 j hj
            dsimp only at rj rl
            rw [hw] at rj
            have hlen := W.ofJ_len x b j j
            have oj := o3.h.i j (by show j < n; omega)
            by_cases q0 : W.whyO x j b = 0
            · rw [q0] at rj
              have X := o3.congr (M := W.ofJ x b (j + 1)) (fun q _ => W.ofJ_miss x b j q q0)
              have HX : Hid _ := X
              clear X o3 oj q0 hw hlen ej el ef
              go_wp2
              go_roundw
              case rel => exact ⟨j + 1, by omega, by go_num, S3, HX.out⟩
              case measure => simp [intOf]; omega
            · have q1 : (W.whyO x j b != 0) = true := by simpa using q0
              have al := (Below.refl wr.heap.size wr).alloc (Nat.le_refl _) (.cells #[.int .i64 (b : Int)] 3)
              have oA := o3.below al
              have n5 := news_i (b : Int) wr
              have d3 : ∀ u ∈ [Value.int .i64 (b : Int)], u.oneCell' = true := by intro u hu; simp at hu; rw [hu]; rfl
              have d6 : w.heap.size ≤ (wr.alloc (.cells #[.int .i64 (b : Int)] 3)).heap.size := by have := o3.k.bl.size; simp; omega
              have d7 : (wr.alloc (.cells #[.int .i64 (b : Int)] 3)).heap.size = wr.heap.size + 1 := by simp
              have hit := fun q => W.ofJ_hit x b j q hj q0
              have ew : eb ≠ wr.heap.size := by omega
              have HX : Hid (_ ∧ _ ∧ _ ∧ _ ∧ _ ∧ _ ∧ _ ∧ _) := ⟨oA, n5, d3, d6, d7, hit, hlen, oA.h.i j (by show j < n; omega)⟩
              clear oA n5 d3 d6 d7 hit o3 oj q0 hw al
              generalize W.whyO x j b = WY at *
              generalize hLJ : W.ofJ x b j j = LJ at *
              generalize hSJ : slV (S3 j) = SJ at *
              have HS : Hid (_ ∧ _) := ⟨hLJ, hSJ⟩
              clear hLJ hSJ
              go_wp2_with (at_builtin; refine wpList_append_lies _ rfl _ _ 23 rfl w.heap.size 3 it (.int .i64 0) 1 8 Tryd.underlying23 ht hy0 hy1 hy2 rfl (by decide) SJ LJ.length (intsV LJ) rfl HX.out.2.2.2.2.2.2.2 ⟨wr.heap.size, 0, none⟩ 1 1 [.int .i64 (b : Int)] rfl rfl HX.out.2.1 HX.out.2.2.1 (by decide) (by have := HX.out.2.2.2.2.2.2.1; unfold maxLen; omega) (by have := HX.out.2.2.2.2.2.2.1; omega) HX.out.2.2.2.1 (wr.heap.size + 1) HX.out.2.2.2.2.1 ?_)
              intro g5 cap5 w5 own5 hg5 hat5 hlt5
              have X5 := HX.out.1.app j (by show j < n; omega) (b : Int) g5 cap5 (by rw [HS.out.2]; exact hg5) (by rw [HS.out.1]; exact own5) (by rw [HS.out.2, HX.out.2.2.2.2.1]; exact hat5)
              rw [HS.out.1] at X5
              have X6 := X5.congr (M := W.ofJ x b (j + 1)) (fun q _ => HX.out.2.2.2.2.2.1 q)
              have ej5 : w5.cell? ⟨eb, j, none⟩ = some SJ := by
                have := (HX.out.1.h.e.grown hg5 (by rw [← HS.out.2]; exact HX.out.1.h.d j (by show j < n; omega))).c j (by show j < n; omega)
                rw [this, HS.out.2]
              have ef5 : w5.frozen? ⟨eb, j, none⟩ = false := (HX.out.1.h.e.grown hg5 (by rw [← HS.out.2]; exact HX.out.1.h.d j (by show j < n; omega))).fz j
              have el5 : eb < w5.heap.size := (HX.out.1.h.e.grown hg5 (by rw [← HS.out.2]; exact HX.out.1.h.d j (by show j < n; omega))).lt
              have HX6 : Hid _ := X6
              clear X5 X6 own5 hg5 hat5 HX HS ej el ef rj rl hlen
              go_wp2
              go_roundw
              case rel => exact ⟨j + 1, by omega, by go_num, _, HX6.out⟩
              case measure => simp [intOf]; omega
          · have ejb : j = b := by omega
            subst ejb
            have hjI : ¬ (j : Int) < (j : Int) := by omega
            have o4 := o3.congr (M := W.ofL x (j + 1)) (fun q _ => W.ofJ_end x j q)
            have hLd := lead_any w _ wr o4.frame j (by show j < n; omega) (by show n ≤ 4096; omega) (fun i => W.acts_rg x j i) g o c rfl (x j) (HO.out.2.2 j (by omega))
            try dsimp only at hLd
            have HD : Hid (Calls _ _ _ _ _ ∧ _) := ⟨hLd, o4⟩
            clear hLd o3 o4
            go_wp2_with (fail)
            refine HD.out.1.mono ?_
            rintro e w2 ⟨rfl, L2⟩
            have L3 := LkF.congrA (d := ⟨kb, ab, pb, rb, hb, n, .slice (some ⟨g, o, none⟩) n c, W.acts x j, W.pairO x, R2, G2, B2, k2, H2, hid2⟩) (B := W.acts x (j + 1)) L2 (fun i _ => W.acts_succ x j i)
            have o5 := HD.out.2.back L3 rfl
            try dsimp only at o5
            have HO5 : Hid _ := o5
            clear L2 L3 HD o5
            go_wp2
            go_roundw
            case rel => exact ⟨j + 1, by omega, by go_num, _, _, _, _, _, _, _, HO5.out⟩
            case measure => simp [intOf]; omega
      · have e : b = n := by omega
        subst e
        have HF : Hid (_ ∧ _) := ⟨hL.h, hL.k.bl⟩
        clear hL
        go_wp2
        go_ret
        first | exact ⟨eb, rfl, ⟨S, HF.out.1⟩, HF.out.2⟩ | exact ⟨eb, S, rfl, HF.out.1, HF.out.2⟩
end Go.Proofs.YtibohlbkkaghkaaDoor
