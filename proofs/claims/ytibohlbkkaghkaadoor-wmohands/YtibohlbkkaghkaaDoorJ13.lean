/- Texts in one: PpoS. -/
import Derived.Test.YtibohlbkkaghkaaDoorJ10
import Derived.Test.YtibohlbkkaghkaaDoorJ12
/- lookAt. -/
namespace Go.Proofs.YtibohlbkkaghkaaDoor
open Go.ChangeShapes Go.WideShapes Go.ChangeAt Go.RowKit
set_option linter.unusedVariables false
set_option linter.unusedSimpArgs false
variable {F : Nat → Option Obj}

theorem LkF.setAct {w0 : World} {d : Kd} {w : World} (h : LkF F w0 d w) (j : Nat) (y : W.Act) : LkF F w0 { d with A := fun i => if i = j then y else d.A i } (((w.setCell ⟨d.ab, j * 3, none⟩ (.int .u32 y.p.f)).setCell ⟨d.ab, j * 3 + 1, none⟩ (.int .u64 y.p.s)).setCell ⟨d.ab, j * 3 + 2, none⟩ (.int .u8 y.t)) :=
  h.onA (gtrans (gtrans (gsetCell _ _ _ _) (gsetCell _ _ _ _)) (gsetCell _ _ _ _)) _ ((((h.a.set (j * 3) _).set (j * 3 + 1) _).set (j * 3 + 2) _).congr fun i hi => by
    unfold updV acF
    dsimp only
    by_cases e2 : i = j * 3 + 2
    · subst e2
      rw [if_pos rfl, show (j * 3 + 2) % 3 = 2 by omega, show (j * 3 + 2) / 3 = j by omega, if_pos rfl]
      try rfl
    · rw [if_neg e2]
      by_cases e1 : i = j * 3 + 1
      · subst e1
        rw [if_pos rfl, show (j * 3 + 1) % 3 = 1 by omega, show (j * 3 + 1) / 3 = j by omega, if_pos rfl]
        try rfl
      · rw [if_neg e1]
        by_cases e0 : i = j * 3
        · subst e0
          rw [if_pos rfl, show (j * 3) % 3 = 0 by omega, show (j * 3) / 3 = j by omega, if_pos rfl]
          try rfl
        · rw [if_neg e0, if_neg (by omega)])
def actU (x : Nat → W.Oz) (j i : Nat) : W.Act := if i < j then W.actO (x i).o else W.act0
theorem actU_succ (x : Nat → W.Oz) (j i : Nat) : (if i = j then W.actO (x j).o else actU x j i) = actU x (j + 1) i := by
  unfold actU
  by_cases e : i = j
  · rw [if_pos e, if_pos (by omega), e]
  · rw [if_neg e]
    by_cases e2 : i < j
    · rw [if_pos e2, if_pos (by omega)]
    · rw [if_neg e2, if_neg (by omega)]
def kdU (kb ab pb rb hb n : Nat) (l : Value) (P : Nat → Int) (A : Nat → W.Act) : Kd := ⟨kb, ab, pb, rb, hb, n, l, A, P, fun _ => 0, fun _ => 0, W.act0, 0, W.Sl.nil, []⟩
set_option maxRecDepth 10000 in
set_option maxHeartbeats 3200000 in
theorem lookAt_any (a : Option Addr) (n c : Nat) (x : Nat → W.Oz) (w : World) (hO : Ol a n x w) (hn : n ≤ 4096) (hz : ∀ j, j < n → -9223372036854775808 ≤ (x j).o.sz ∧ (x j).o.sz ≤ 9223372036854775807) :
    Calls Tryd.prog 58 #[.slice a n c] w fun e w' => ∃ kb ab pb rb hb, e = .returned (.pointer (some ⟨kb, 0, none⟩)) ∧ LkF F0 w (kdU kb ab pb rb hb n (.slice a n c) (W.pairO x) fun i => W.actO (x i).o) w' := by
  obtain ⟨OA, hOA, hmA⟩ : ∃ o : Obj, Hid (o = (.cells (madeCells #[.int .u32 0, .int .u64 0, .int .u8 0] (n * 3)) 117)) ∧ ∀ w, (Instr.makeSlice 111 (.int .i64 (n : Int)) (.int .i64 (n : Int))).run Tryd.prog w = .ok (.slice (some ⟨w.heap.size, 0, none⟩) n n) (w.alloc o) := ⟨_, rfl, make_acts n (by omega)⟩
  obtain ⟨OR, hOR, hmR⟩ : ∃ o : Obj, Hid (o = (.cells (madeCells #[.int .u8 0] n) 121)) ∧ ∀ w, (Instr.makeSlice 110 (.int .i64 (n : Int)) (.int .i64 (n : Int))).run Tryd.prog w = .ok (.slice (some ⟨w.heap.size, 0, none⟩) n n) (w.alloc o) := ⟨_, rfl, make_rules n (by omega)⟩
  have hP := fun w' (hb : Below w.heap.size w w') => pairs_any a n c x w' (hO.below hb) hn
  have HP : Hid _ := hP
  have HO : Hid _ := hO
  clear hP hO
  have HZ : Hid _ := hz
  clear hz
  go_enter Tryd.func58, Tryd.ntmps58
  go_wp2_with (fail)
  go_cut [3] from 5 to 18 (fun v wx => ∃ kb ab pb rb hb, v = .pointer (some ⟨kb, 0, none⟩) ∧ LkF F0 w (kd0 kb ab pb rb hb n (.slice a n c) (W.pairO x)) wx)
  case first =>
    go_region_with ((go_at_call 39; refine (HP.out _ (by first | exact (Below.refl _ _).drew | exact ((Below.refl _ _).alloc (Nat.le_refl _) _).drew | exact (((Below.refl _ _).alloc (Nat.le_refl _) _).alloc (by simp) _).drew | exact ((((Below.refl _ _).alloc (Nat.le_refl _) _).alloc (by simp) _).alloc (by simp; omega) _).drew)).mono ?_; rintro e w5 ⟨⟨g, rfl, hg, hBc⟩, b5⟩))
    all_goals
      go_wp2
      go_meet
      case rel => (first
        | with_reducible exact leaf_ACRG _ _ _ _ _ _ _ _ _ hOA hOR b5 hg hBc
        | with_reducible exact leaf_ACGR _ _ _ _ _ _ _ _ _ hOA hOR b5 hg hBc
        | with_reducible exact leaf_ARCG _ _ _ _ _ _ _ _ _ hOA hOR b5 hg hBc
        | with_reducible exact leaf_ARGC _ _ _ _ _ _ _ _ _ hOA hOR b5 hg hBc
        | with_reducible exact leaf_AGCR _ _ _ _ _ _ _ _ _ hOA hOR b5 hg hBc
        | with_reducible exact leaf_AGRC _ _ _ _ _ _ _ _ _ hOA hOR b5 hg hBc
        | with_reducible exact leaf_CARG _ _ _ _ _ _ _ _ _ hOA hOR b5 hg hBc
        | with_reducible exact leaf_CAGR _ _ _ _ _ _ _ _ _ hOA hOR b5 hg hBc
        | with_reducible exact leaf_CRAG _ _ _ _ _ _ _ _ _ hOA hOR b5 hg hBc
        | with_reducible exact leaf_CRGA _ _ _ _ _ _ _ _ _ hOA hOR b5 hg hBc
        | with_reducible exact leaf_CGAR _ _ _ _ _ _ _ _ _ hOA hOR b5 hg hBc
        | with_reducible exact leaf_CGRA _ _ _ _ _ _ _ _ _ hOA hOR b5 hg hBc
        | with_reducible exact leaf_RACG _ _ _ _ _ _ _ _ _ hOA hOR b5 hg hBc
        | with_reducible exact leaf_RAGC _ _ _ _ _ _ _ _ _ hOA hOR b5 hg hBc
        | with_reducible exact leaf_RCAG _ _ _ _ _ _ _ _ _ hOA hOR b5 hg hBc
        | with_reducible exact leaf_RCGA _ _ _ _ _ _ _ _ _ hOA hOR b5 hg hBc
        | with_reducible exact leaf_RGAC _ _ _ _ _ _ _ _ _ hOA hOR b5 hg hBc
        | with_reducible exact leaf_RGCA _ _ _ _ _ _ _ _ _ hOA hOR b5 hg hBc
        | with_reducible exact leaf_GACR _ _ _ _ _ _ _ _ _ hOA hOR b5 hg hBc
        | with_reducible exact leaf_GARC _ _ _ _ _ _ _ _ _ hOA hOR b5 hg hBc
        | with_reducible exact leaf_GCAR _ _ _ _ _ _ _ _ _ hOA hOR b5 hg hBc
        | with_reducible exact leaf_GCRA _ _ _ _ _ _ _ _ _ hOA hOR b5 hg hBc
        | with_reducible exact leaf_GRAC _ _ _ _ _ _ _ _ _ hOA hOR b5 hg hBc
        | with_reducible exact leaf_GRCA _ _ _ _ _ _ _ _ _ hOA hOR b5 hg hBc
        )
  case rest =>
    obtain ⟨kb, ab, pb, rb, hb, rfl, hL⟩ := hcut
    have hL0 : LkF F0 w (kdU kb ab pb rb hb n (.slice a n c) (W.pairO x) (actU x 0)) wc := LkF.congrA (d := kd0 kb ab pb rb hb n (.slice a n c) (W.pairO x)) (A := fun _ => W.act0) hL (fun i _ => by unfold actU; rw [if_neg (by omega)])
    have HL0 : Hid _ := hL0
    clear hL hL0 hmA hmR
    go_wp2
    go_loopw [21] (fun i wr => ∃ j : Nat, j ≤ n ∧ i = .int .i64 (j : Int) ∧ LkF F0 w (kdU kb ab pb rb hb n (.slice a n c) (W.pairO x) (actU x j)) wr) (fun i _ => n - (intOf i).toNat)
    case atStart => exact ⟨0, by omega, rfl, HL0.out⟩
    case round =>
      clear HL0
      obtain ⟨j, hj, rfl, hL⟩ := hrel
      by_cases hlt : j < n
      · obtain ⟨g, o, rfl, hx⟩ := HO.out.at_ (by omega)
        have oj := hx j hlt
        have gl : g < wr.heap.size := Nat.lt_of_lt_of_le oj.o.lt hL.bl.size
        have hA := fun w' (h : LkF F0 w (kdU kb ab pb rb hb n (.slice (some ⟨g, o, none⟩) n c) (W.pairO x) (actU x j)) w') => actOf_any g (o + j * 13) (x j).o w' (oj.o.below h.bl) (HZ.out j hlt).1 (HZ.out j hlt).2
        have k1 := hL.k.c 1 (by decide)
        have kl := hL.k.lt
        have al := hL.a.lt
        unfold kdU at k1 kl al
        simp only [Kd.f] at k1 kl al
        have jn : (j : Int) < (n : Int) := by omega
        have HA : Hid (_ ∧ _) := ⟨hA, hL⟩
        clear hA hL oj hx
        go_wp2_with (fail)
        go_region_with ((go_at_call 65; refine (HA.out.1 _ (HA.out.2.below (Below.refl _ _).drew)).mono ?_; rintro e w5 ⟨rfl, b5⟩; have L5 := HA.out.2.below ((Below.refl _ _).drew.trans b5); have k15 := L5.k.c 1 (by decide); have kl5 := L5.k.lt; have al5 := L5.a.lt; have rf5 := L5.a.fz; (obtain ⟨y0, y1, y2⟩ := L5.act j hlt); unfold kdU at k15 kl5 al5 rf5 y0 y1 y2; simp only [Kd.f] at k15 kl5 al5 rf5 y0 y1 y2; unfold acC; generalize hY : W.actO (x j).o = Y at *))
        all_goals
          have L6 := L5.setAct j Y
          have L7 := LkF.congrA (d := kdU kb ab pb rb hb n (.slice (some ⟨g, o, none⟩) n c) (W.pairO x) (actU x j)) (B := actU x (j + 1)) L6 (fun i _ => by rw [← hY]; exact actU_succ x j i)
          have HL7 : Hid _ := L7
          clear L5 L6 L7 k15 kl5 al5 rf5 y0 y1 y2 HA b5 k1 kl al hY
          go_wp2
          go_roundw
          case rel => exact ⟨j + 1, by omega, by go_num, HL7.out⟩
          case measure => simp [intOf]; omega
      · have e : j = n := by omega
        subst e
        have L := LkF.congrA (d := kdU kb ab pb rb hb j (.slice a j c) (W.pairO x) (actU x j)) (A := actU x j) (B := fun i => W.actO (x i).o) hL (fun i hi => if_pos hi)
        have HL : Hid _ := L
        clear L hL
        go_wp2
        go_ret
        exact ⟨kb, ab, pb, rb, hb, rfl, HL.out⟩
end Go.Proofs.YtibohlbkkaghkaaDoor
