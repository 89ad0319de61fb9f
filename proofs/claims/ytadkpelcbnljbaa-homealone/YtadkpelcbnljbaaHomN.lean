/- home: shareBack. -/
import Derived.Test.YtadkpelcbnljbaaHomL3
import Derived.Test.YtadkpelcbnljbaaHomL2
import Derived.Deep.CutBlock
namespace Go.Proofs.Ytadkpelcbnljbaa
open Go.ChangeShapes Go.WideShapes Go.ChangeAt Go.RowKit
set_option linter.unusedVariables false
set_option linter.unusedSimpArgs false
attribute [local go_sem ↓] ldM_eq stM_eq bdM_eq bsM_eq
variable {n0 hb : Nat} {s s' : W.Hm} {sv av sv' av' sv'' av'' : Value} {w w' w'' : World}

theorem W.ins_len (x : Int) : ∀ l : List Int, (W.ins x l).length ≤ l.length + 1
  | [] => Nat.le_refl _
  | y :: l => by
    unfold W.ins
    split
    · simp only [List.length_cons]
      have := W.ins_len x l
      omega
    · split <;> simp only [List.length_cons] <;> omega
/-- A block holds these data. -/
def LnAt (b : Nat) (x0 x1 x2 x3 : Int) (w : World) : Prop := w.heap[b]? = some (.cells #[.int .u32 x0, .int .u32 x1, .int .u32 x2, .int .u32 x3] 24)
variable {db : Nat} {x0 x1 x2 x3 : Int}
theorem LnAt.lt (h : LnAt db x0 x1 x2 x3 w) : db < w.heap.size := (Array.getElem?_eq_some_iff.1 h).1
theorem LnAt.below (h : LnAt db x0 x1 x2 x3 w) (hb : Below w.heap.size w w') : LnAt db x0 x1 x2 x3 w' := (hb.block db h.lt).trans h
theorem LnAt.grown {r : Option Nat} (h : LnAt db x0 x1 x2 x3 w) (hg : w.grownBy w' r) (hne : some db ≠ r) : LnAt db x0 x1 x2 x3 w' := (hg.block db h.lt hne).trans h
theorem LnAt.up (h : LnAt db x0 x1 x2 x3 w) (hu : Hu hb sv av sv' av' w w') (ha : Hpt hb sv av db) : LnAt db x0 x1 x2 x3 w' := (hu.other h.lt ha).trans h
theorem LnAt.c0 (h : LnAt db x0 x1 x2 x3 w) : w.cell? ⟨db, 0, none⟩ = some (.int .u32 x0) := by rw [cell_of_row _ _ 0 _ _ (0, 0) h]; rfl
theorem LnAt.c1 (h : LnAt db x0 x1 x2 x3 w) : w.cell? ⟨db, 1, none⟩ = some (.int .u32 x1) := by rw [cell_of_row _ _ 1 _ _ (0, 0) h]; rfl
theorem LnAt.c2 (h : LnAt db x0 x1 x2 x3 w) : w.cell? ⟨db, 2, none⟩ = some (.int .u32 x2) := by rw [cell_of_row _ _ 2 _ _ (0, 0) h]; rfl
theorem LnAt.c3 (h : LnAt db x0 x1 x2 x3 w) : w.cell? ⟨db, 3, none⟩ = some (.int .u32 x3) := by rw [cell_of_row _ _ 3 _ _ (0, 0) h]; rfl
theorem LnAt.fz (h : LnAt db x0 x1 x2 x3 w) (j : Nat) : w.frozen? ⟨db, j, none⟩ = false := by
  have h' : w.heap[db]? = some (.cells #[.int .u32 x0, .int .u32 x1, .int .u32 x2, .int .u32 x3] 24) := h
  simp [World.frozen?, h']
theorem lnAt_new (w : World) (x0 x1 x2 x3 : Int) : LnAt w.heap.size x0 x1 x2 x3 (w.alloc (.cells #[.int .u32 x0, .int .u32 x1, .int .u32 x2, .int .u32 x3] 24)) := heap_alloc_last w _

theorem LnAt.st4 (h : LnAt db x0 x1 x2 x3 w) (y0 y1 y2 y3 : Int) : LnAt db y0 y1 y2 y3 ((((w.setCell ⟨db, 0, none⟩ (.int .u32 y0)).setCell ⟨db, 1, none⟩ (.int .u32 y1)).setCell ⟨db, 2, none⟩ (.int .u32 y2)).setCell ⟨db, 3, none⟩ (.int .u32 y3)) := by
  have h' : w.heap[db]? = some (.cells #[.int .u32 x0, .int .u32 x1, .int .u32 x2, .int .u32 x3] 24) := h
  unfold LnAt World.setCell
  simp [Array.getElem?_modify, h']
set_option maxRecDepth 10000 in
set_option maxHeartbeats 1600000 in
theorem shareBack_any (H : Ho n0 hb s sv av w) (hu : W.Up1 s.sh) (hl : s.sh.length ≤ 4090) (m : W.Mg) : Calls Try.prog 32 #[.pointer (some ⟨hb, 0, none⟩), mgV m] w fun e w' => Res n0 hb (W.sB s m) sv av w e w' := by
  have hba := below_alloc w (.cells (mgL m).toArray 35)
  have H1 := H.below hba
  have hm := msgAt_new w m
  have hpt := H.pt_new (Nat.le_refl w.heap.size)
  have HB : Hid (Below w.heap.size w (w.alloc (.cells (mgL m).toArray 35))) := hba
  have HU : Hid (W.Up1 s.sh ∧ s.sh.length ≤ 4090) := ⟨hu, hl⟩
  have hl1 : Hid (w.heap.size < (w.alloc (.cells (mgL m).toArray 35)).heap.size) := (by simp : w.heap.size < (w.alloc (.cells (mgL m).toArray 35)).heap.size)
  clear H hba hu hl
  unfold mgV
  have c4 : (w.alloc (.cells (mgL m).toArray 35)).cell? ⟨w.heap.size, 4, none⟩ = some (.int .u32 m.d0) := hm.cAt 4
  have c5 : (w.alloc (.cells (mgL m).toArray 35)).cell? ⟨w.heap.size, 5, none⟩ = some (.int .u32 m.d1) := hm.cAt 5
  have c6 : (w.alloc (.cells (mgL m).toArray 35)).cell? ⟨w.heap.size, 6, none⟩ = some (.int .u32 m.d2) := hm.cAt 6
  have c7 : (w.alloc (.cells (mgL m).toArray 35)).cell? ⟨w.heap.size, 7, none⟩ = some (.int .u32 m.d3) := hm.cAt 7
  have HM : Hid (MsgAt w.heap.size m (w.alloc (.cells (mgL m).toArray 35)) ∧ Hpt hb sv av w.heap.size ∧ Ho n0 hb s sv av (w.alloc (.cells (mgL m).toArray 35))) := ⟨hm, hpt, H1⟩
  clear H1 hm hpt
  go_enter Try.func32, Try.ntmps32
  go_upto_region 1 with fail
  have HB' : Hid (Below w.heap.size w (w.alloc (.cells (mgL m).toArray 35)) ∧ w.heap.size ≤ w.heap.size) := ⟨HB.out, Nat.le_refl _⟩
  clear HB
  generalize World.alloc w _ = W1 at *
  generalize hmb0 : w.heap.size = mb at HM c4 c5 c6 c7 HB' hl1 ⊢
  have HB : Hid (Below w.heap.size w W1 ∧ w.heap.size ≤ mb) := by rw [hmb0]; exact HB'.out
  clear HB' hmb0
  go_upto_block 0 with fail
  have hb2 := below_alloc W1 (.cells #[.int .u32 m.d0, .int .u32 m.d1, .int .u32 m.d2, .int .u32 m.d3] 24)
  have ln := lnAt_new W1 m.d0 m.d1 m.d2 m.d3
  have HP : Hid (_ ∧ _ ∧ _ ∧ _ ∧ _ ∧ _) := ⟨HM.out.2.2.below hb2, HM.out.1.below hb2, ln, HM.out.2.2.pt_new (Nat.le_refl _), (Hu.of_below (HB.out.1.trans (hb2.mono HB.out.1.size)) : Hu hb sv av sv av w _), Nat.le_trans HB.out.1.size (Nat.le_refl W1.heap.size)⟩
  have HMM : Hid (Hpt hb sv av mb ∧ mb ≠ W1.heap.size) := ⟨HM.out.2.1, Nat.ne_of_lt hl1.out⟩
  clear hb2 ln HM HB hl1 c4 c5 c6 c7
  generalize World.alloc W1 _ = W2 at *
  generalize W1.heap.size = db at *
  have c9 : W2.cell? ⟨mb, 9, none⟩ = some (.bool m.d) := HP.out.2.1.cAt 9
  have c8 : W2.cell? ⟨mb, 8, none⟩ = some (.bool m.h) := HP.out.2.1.cAt 8
  cases hd : m.d
  case true =>
    rw [hd] at c9
    obtain ⟨s1, hs1⟩ : ∃ s1 : W.Hm, s1 = s := ⟨_, rfl⟩
    have HQ : Hid (W.sB s m = ({ s1 with sh := W.ins s1.sv s1.sh }, [W.dat s1 s1.sv m.d0 m.d1 m.d2 m.d3 false false])) := by
      show W.sB s m = _
      unfold W.sB
      rw [if_pos hd, hs1]
    have HS : Hid (W.Up1 s1.sh ∧ s1.sh.length ≤ 4092) := ⟨by rw [hs1]; exact HU.out.1, by rw [hs1]; have := HU.out.2; omega⟩
    have HT : Hid (Ho n0 hb s1 sv av W2 ∧ LnAt db m.d0 m.d1 m.d2 m.d3 W2 ∧ Hpt hb sv av db ∧ Hu hb sv av sv av w W2 ∧ w.heap.size ≤ db) := ⟨by rw [hs1]; exact HP.out.1, HP.out.2.2.1, HP.out.2.2.2.1, HP.out.2.2.2.2.1, HP.out.2.2.2.2.2⟩
    clear HP hs1 hd
    go_wp2_with (fail)
    clear c8 c9
    have hdw : Below W2.heap.size W2 W2.drew := (Below.refl _ _).drew
    have H5 := HT.out.1.below hdw
    have ln5 := HT.out.2.1.below hdw
    have HW : Hid (Calls _ _ _ _ _) := with_any n0 sv s1.sh s1.sv HS.out.1 (Nat.le_trans HS.out.2 (by decide)) W2.drew H5.os (Nat.le_trans H5.n0 (Nat.le_of_lt H5.b.lt))
    have r7 : W2.drew.cell? ⟨hb, 7, none⟩ = some (sv) := H5.c 7 (by decide)
    have r7' : W2.cell? ⟨hb, 7, none⟩ = some (sv) := HT.out.1.c 7 (by decide)
    have r8 : W2.drew.cell? ⟨hb, 8, none⟩ = some (.int .i64 s1.sv) := H5.c 8 (by decide)
    have r8' : W2.cell? ⟨hb, 8, none⟩ = some (.int .i64 s1.sv) := HT.out.1.c 8 (by decide)
    have HK : Hid (_ ∧ _ ∧ _ ∧ _ ∧ _) := ⟨H5, ln5, HT.out.2.2.1, HT.out.2.2.2.1.trans (Hu.of_below hdw), HT.out.2.2.2.2⟩
    clear hdw H5 ln5 HT
    go_region_with (first
      | (go_at_call 43; refine HW.out.mono ?_; rintro e w5 ⟨v5, rfl, ho, hg, hv⟩; obtain ⟨a5, cap5, hv5, hcap5⟩ := ho.len; generalize (W.ins s1.sv s1.sh).length = n5 at hv5 hcap5; subst hv5
         have B5 := HK.out.1.b.grown hg (fun e => HK.out.1.sn e.symm)
         have t7 := B5.c 7 (by decide)
         have f7 := B5.fz 7
         dsimp only [hoF] at t7))
    all_goals
      have h6 := HK.out.1.setS hg ho hv
      have u6 := HK.out.2.2.2.1.trans h6.2
      have ln6 := HK.out.2.1.up h6.2 HK.out.2.2.1
      have HR : Hid (_ ∧ _ ∧ _) := ⟨h6.1, ln6, u6⟩
      clear h6 u6 ln6 ho hg hv B5 t7 f7 r7 r7' r8 r8' HK HW
      generalize World.setCell w5 _ _ = W6 at *
      have hdw : Below W6.heap.size W6 W6.drew := (Below.refl _ _).drew
      have H7 := HR.out.1.below hdw
      have ln7 := HR.out.2.1.below hdw
      have HD : Hid (Calls _ _ _ _ _) := dataTo_any (s := s1) (H7.c 0 (by decide)) s1.sv m.d0 m.d1 m.d2 m.d3
      have K6 : W6.drew.cell? ⟨hb, 8, none⟩ = some (.int .i64 s1.sv) ∧ W6.drew.cell? ⟨db, 0, none⟩ = some (.int .u32 m.d0) ∧ W6.drew.cell? ⟨db, 1, none⟩ = some (.int .u32 m.d1) ∧ W6.drew.cell? ⟨db, 2, none⟩ = some (.int .u32 m.d2) ∧ W6.drew.cell? ⟨db, 3, none⟩ = some (.int .u32 m.d3) := ⟨H7.c 8 (by decide), ln7.c0, ln7.c1, ln7.c2, ln7.c3⟩
      have HH7 : Hid (_ ∧ _) := ⟨H7, ln7⟩
      have bs := bsM_any (W.dat s1 s1.sv m.d0 m.d1 m.d2 m.d3 false false)
      have HX : Hid (Res n0 hb ({ s1 with sh := W.ins s1.sv s1.sh }, [W.dat s1 s1.sv m.d0 m.d1 m.d2 m.d3 false false]) sv av w = Res n0 hb (W.sB s m) sv av w) := by rw [HQ.out]; exact rfl
      generalize W.dat s1 s1.sv m.d0 m.d1 m.d2 m.d3 false false = M at *
      clear hdw H7 ln7 HQ
      go_wp2_with (fail)
      go_region_held3 (fun w' => w'.cell? ⟨hb, 8, none⟩ = some (.int .i64 s1.sv) ∧ w'.cell? ⟨db, 0, none⟩ = some (.int .u32 m.d0) ∧ w'.cell? ⟨db, 1, none⟩ = some (.int .u32 m.d1) ∧ w'.cell? ⟨db, 2, none⟩ = some (.int .u32 m.d2) ∧ w'.cell? ⟨db, 3, none⟩ = some (.int .u32 m.d3))
        (first | exact K6 | exact K8 | exact K9 | with_reducible assumption)
        (first
          | (go_at_call 42; refine HD.out.mono ?_; rintro e w8 ⟨rfl, hb8⟩
             have H8 := HH7.out.1.below hb8
             have ln8 := HH7.out.2.below hb8
             have K8 : w8.cell? ⟨hb, 8, none⟩ = some (.int .i64 s1.sv) ∧ w8.cell? ⟨db, 0, none⟩ = some (.int .u32 m.d0) ∧ w8.cell? ⟨db, 1, none⟩ = some (.int .u32 m.d1) ∧ w8.cell? ⟨db, 2, none⟩ = some (.int .u32 m.d2) ∧ w8.cell? ⟨db, 3, none⟩ = some (.int .u32 m.d3) := ⟨H8.c 8 (by decide), ln8.c0, ln8.c1, ln8.c2, ln8.c3⟩
             have ba := below_alloc w8 (.cells (mgL M).toArray 35)
             have H9 := H8.below ba
             have ln9 := ln8.below ba
             have K9 : (w8.alloc (.cells (mgL M).toArray 35)).cell? ⟨hb, 8, none⟩ = some (.int .i64 s1.sv) ∧ (w8.alloc (.cells (mgL M).toArray 35)).cell? ⟨db, 0, none⟩ = some (.int .u32 m.d0) ∧ (w8.alloc (.cells (mgL M).toArray 35)).cell? ⟨db, 1, none⟩ = some (.int .u32 m.d1) ∧ (w8.alloc (.cells (mgL M).toArray 35)).cell? ⟨db, 2, none⟩ = some (.int .u32 m.d2) ∧ (w8.alloc (.cells (mgL M).toArray 35)).cell? ⟨db, 3, none⟩ = some (.int .u32 m.d3) := ⟨H9.c 8 (by decide), ln9.c0, ln9.c1, ln9.c2, ln9.c3⟩))
      all_goals
        go_wp2
        go_ret
        rw [← HX.out]
        exact Res.one H8 ((HR.out.2.2.trans (Hu.of_below (Below.refl _ _).drew)).trans (Hu.of_below hb8)) M
  case false =>
    rw [hd] at c9
    have c6 := HP.out.1.c 6 (by decide)
    have f6 := HP.out.1.b.fz 6
    cases hh : m.h
    case false =>
      rw [hh] at c8
      have k2 : W2.cell? ⟨hb, 2, none⟩ = some (.int .u32 s.e0) := HP.out.1.c 2 (by decide)
      have k3 : W2.cell? ⟨hb, 3, none⟩ = some (.int .u32 s.e1) := HP.out.1.c 3 (by decide)
      have k4 : W2.cell? ⟨hb, 4, none⟩ = some (.int .u32 s.e2) := HP.out.1.c 4 (by decide)
      have k5 : W2.cell? ⟨hb, 5, none⟩ = some (.int .u32 s.e3) := HP.out.1.c 5 (by decide)
      have p0 := HP.out.2.2.1.c0
      have p1 := HP.out.2.2.1.c1
      have p2 := HP.out.2.2.1.c2
      have p3 := HP.out.2.2.1.c3
      have q0 := HP.out.2.2.1.fz 0
      have q1 := HP.out.2.2.1.fz 1
      have q2 := HP.out.2.2.1.fz 2
      have q3 := HP.out.2.2.1.fz 3
      have ne1 := HP.out.2.2.2.1.1
      have ne2 := ne1.symm
      obtain ⟨s1, hs1⟩ : ∃ s1 : W.Hm, s1 = { s with ow := -1 } := ⟨_, rfl⟩
      have HQ : Hid (W.sB s m = ({ s1 with sh := W.ins s1.sv s1.sh }, [W.dat s1 s1.sv s.e0 s.e1 s.e2 s.e3 false false])) := by
        show W.sB s m = _
        unfold W.sB
        rw [if_neg (by simp [hd]), if_neg (by simp [hh]), hs1]
        exact rfl
      have HS : Hid (W.Up1 s1.sh ∧ s1.sh.length ≤ 4092) := ⟨by rw [hs1]; exact HU.out.1, by rw [hs1]; have := HU.out.2; dsimp only; omega⟩
      have h1 := HP.out.1.put 6 (.int .i64 (-1)) s1 (by rw [hs1]; exact upd_ow s sv av (-1)) (by rw [hs1]) (by rw [hs1])
      have ln1 := (HP.out.2.2.1.up h1.2 HP.out.2.2.2.1).st4 s.e0 s.e1 s.e2 s.e3
      have g4 := gtrans (gtrans (gtrans (gsetCell (W2.setCell ⟨hb, 6, none⟩ (.int .i64 (-1))) db 0 (.int .u32 s.e0)) (gsetCell _ db 1 (.int .u32 s.e1))) (gsetCell _ db 2 (.int .u32 s.e2))) (gsetCell _ db 3 (.int .u32 s.e3))
      have h2 := h1.1.oth g4 HP.out.2.2.2.1
      have HT : Hid (Ho n0 hb s1 sv av _ ∧ LnAt db s.e0 s.e1 s.e2 s.e3 _ ∧ Hpt hb sv av db ∧ Hu hb sv av sv av w _ ∧ w.heap.size ≤ db) := ⟨h2, ln1, HP.out.2.2.2.1, (HP.out.2.2.2.2.1.trans h1.2).new g4 HP.out.2.2.2.2.2, HP.out.2.2.2.2.2⟩
      clear HP hs1 hd hh h1 ln1 g4 h2
      go_wp2_with (fail)
      clear c6 f6 c8 c9 k2 k3 k4 k5 p0 p1 p2 p3 q0 q1 q2 q3 ne1 ne2
      generalize World.setCell (World.setCell (World.setCell _ _ _) _ _) _ _ = W4 at *
      have hdw : Below W4.heap.size W4 W4.drew := (Below.refl _ _).drew
      have H5 := HT.out.1.below hdw
      have ln5 := HT.out.2.1.below hdw
      have HW : Hid (Calls _ _ _ _ _) := with_any n0 sv s1.sh s1.sv HS.out.1 (Nat.le_trans HS.out.2 (by decide)) W4.drew H5.os (Nat.le_trans H5.n0 (Nat.le_of_lt H5.b.lt))
      have r7 : W4.drew.cell? ⟨hb, 7, none⟩ = some (sv) := H5.c 7 (by decide)
      have r7' : W4.cell? ⟨hb, 7, none⟩ = some (sv) := HT.out.1.c 7 (by decide)
      have r8 : W4.drew.cell? ⟨hb, 8, none⟩ = some (.int .i64 s1.sv) := H5.c 8 (by decide)
      have r8' : W4.cell? ⟨hb, 8, none⟩ = some (.int .i64 s1.sv) := HT.out.1.c 8 (by decide)
      have HK : Hid (_ ∧ _ ∧ _ ∧ _ ∧ _) := ⟨H5, ln5, HT.out.2.2.1, HT.out.2.2.2.1.trans (Hu.of_below hdw), HT.out.2.2.2.2⟩
      clear hdw H5 ln5 HT
      go_region_with (first
        | (go_at_call 43; refine HW.out.mono ?_; rintro e w5 ⟨v5, rfl, ho, hg, hv⟩; obtain ⟨a5, cap5, hv5, hcap5⟩ := ho.len; generalize (W.ins s1.sv s1.sh).length = n5 at hv5 hcap5; subst hv5
           have B5 := HK.out.1.b.grown hg (fun e => HK.out.1.sn e.symm)
           have t7 := B5.c 7 (by decide)
           have f7 := B5.fz 7
           dsimp only [hoF] at t7))
      all_goals
        have h6 := HK.out.1.setS hg ho hv
        have u6 := HK.out.2.2.2.1.trans h6.2
        have ln6 := HK.out.2.1.up h6.2 HK.out.2.2.1
        have HR : Hid (_ ∧ _ ∧ _) := ⟨h6.1, ln6, u6⟩
        clear h6 u6 ln6 ho hg hv B5 t7 f7 r7 r7' r8 r8' HK HW
        generalize World.setCell w5 _ _ = W6 at *
        have hdw : Below W6.heap.size W6 W6.drew := (Below.refl _ _).drew
        have H7 := HR.out.1.below hdw
        have ln7 := HR.out.2.1.below hdw
        have HD : Hid (Calls _ _ _ _ _) := dataTo_any (s := s1) (H7.c 0 (by decide)) s1.sv s.e0 s.e1 s.e2 s.e3
        have K6 : W6.drew.cell? ⟨hb, 8, none⟩ = some (.int .i64 s1.sv) ∧ W6.drew.cell? ⟨db, 0, none⟩ = some (.int .u32 s.e0) ∧ W6.drew.cell? ⟨db, 1, none⟩ = some (.int .u32 s.e1) ∧ W6.drew.cell? ⟨db, 2, none⟩ = some (.int .u32 s.e2) ∧ W6.drew.cell? ⟨db, 3, none⟩ = some (.int .u32 s.e3) := ⟨H7.c 8 (by decide), ln7.c0, ln7.c1, ln7.c2, ln7.c3⟩
        have HH7 : Hid (_ ∧ _) := ⟨H7, ln7⟩
        have bs := bsM_any (W.dat s1 s1.sv s.e0 s.e1 s.e2 s.e3 false false)
        have HX : Hid (Res n0 hb ({ s1 with sh := W.ins s1.sv s1.sh }, [W.dat s1 s1.sv s.e0 s.e1 s.e2 s.e3 false false]) sv av w = Res n0 hb (W.sB s m) sv av w) := by rw [HQ.out]; exact rfl
        generalize W.dat s1 s1.sv s.e0 s.e1 s.e2 s.e3 false false = M at *
        clear hdw H7 ln7 HQ
        go_wp2_with (fail)
        go_region_held3 (fun w' => w'.cell? ⟨hb, 8, none⟩ = some (.int .i64 s1.sv) ∧ w'.cell? ⟨db, 0, none⟩ = some (.int .u32 s.e0) ∧ w'.cell? ⟨db, 1, none⟩ = some (.int .u32 s.e1) ∧ w'.cell? ⟨db, 2, none⟩ = some (.int .u32 s.e2) ∧ w'.cell? ⟨db, 3, none⟩ = some (.int .u32 s.e3))
          (first | exact K6 | exact K8 | exact K9 | with_reducible assumption)
          (first
            | (go_at_call 42; refine HD.out.mono ?_; rintro e w8 ⟨rfl, hb8⟩
               have H8 := HH7.out.1.below hb8
               have ln8 := HH7.out.2.below hb8
               have K8 : w8.cell? ⟨hb, 8, none⟩ = some (.int .i64 s1.sv) ∧ w8.cell? ⟨db, 0, none⟩ = some (.int .u32 s.e0) ∧ w8.cell? ⟨db, 1, none⟩ = some (.int .u32 s.e1) ∧ w8.cell? ⟨db, 2, none⟩ = some (.int .u32 s.e2) ∧ w8.cell? ⟨db, 3, none⟩ = some (.int .u32 s.e3) := ⟨H8.c 8 (by decide), ln8.c0, ln8.c1, ln8.c2, ln8.c3⟩
               have ba := below_alloc w8 (.cells (mgL M).toArray 35)
               have H9 := H8.below ba
               have ln9 := ln8.below ba
               have K9 : (w8.alloc (.cells (mgL M).toArray 35)).cell? ⟨hb, 8, none⟩ = some (.int .i64 s1.sv) ∧ (w8.alloc (.cells (mgL M).toArray 35)).cell? ⟨db, 0, none⟩ = some (.int .u32 s.e0) ∧ (w8.alloc (.cells (mgL M).toArray 35)).cell? ⟨db, 1, none⟩ = some (.int .u32 s.e1) ∧ (w8.alloc (.cells (mgL M).toArray 35)).cell? ⟨db, 2, none⟩ = some (.int .u32 s.e2) ∧ (w8.alloc (.cells (mgL M).toArray 35)).cell? ⟨db, 3, none⟩ = some (.int .u32 s.e3) := ⟨H9.c 8 (by decide), ln9.c0, ln9.c1, ln9.c2, ln9.c3⟩))
        all_goals
          go_wp2
          go_ret
          rw [← HX.out]
          exact Res.one H8 ((HR.out.2.2.trans (Hu.of_below (Below.refl _ _).drew)).trans (Hu.of_below hb8)) M
    case true =>
      rw [hh] at c8
      have h1 := HP.out.1.put 6 (.int .i64 (-1)) { s with ow := -1 } (upd_ow s sv av (-1)) rfl rfl
      have m1 := HP.out.2.1.up h1.2 HMM.out.1
      have ln1 := HP.out.2.2.1.up h1.2 HP.out.2.2.2.1
      have HT : Hid (Ho n0 hb { s with ow := -1 } sv av _ ∧ LnAt db m.d0 m.d1 m.d2 m.d3 _ ∧ Hpt hb sv av db ∧ Hu hb sv av sv av w _ ∧ w.heap.size ≤ db ∧ MsgAt mb m _) := ⟨h1.1, ln1, HP.out.2.2.2.1, HP.out.2.2.2.2.1.trans h1.2, HP.out.2.2.2.2.2, m1⟩
      have HQ0 : Hid (W.sB s m = ({ s with ow := -1, sh := W.ins s.sv (W.ins m.f s.sh) }, [W.dat s s.sv m.d0 m.d1 m.d2 m.d3 false false])) := by
        show W.sB s m = _
        unfold W.sB
        rw [if_neg (by simp [hd]), if_pos hh]
      clear HP hd hh h1 m1 ln1
      go_wp2_with (fail)
      clear c6 f6 c8 c9
      generalize World.setCell _ _ _ = W3 at *
      have hdw : Below W3.heap.size W3 W3.drew := (Below.refl _ _).drew
      have H5 := HT.out.1.below hdw
      have ln5 := HT.out.2.1.below hdw
      have m5 := HT.out.2.2.2.2.2.below hdw
      have HW : Hid (Calls _ _ _ _ _) := with_any n0 sv s.sh m.f HU.out.1 (Nat.le_trans HU.out.2 (by decide)) W3.drew H5.os (Nat.le_trans H5.n0 (Nat.le_of_lt H5.b.lt))
      have r7 : W3.drew.cell? ⟨hb, 7, none⟩ = some (sv) := H5.c 7 (by decide)
      have r7' : W3.cell? ⟨hb, 7, none⟩ = some (sv) := HT.out.1.c 7 (by decide)
      have r2 : W3.drew.cell? ⟨mb, 2, none⟩ = some (.int .i64 m.f) := m5.cAt 2
      have r2' : W3.cell? ⟨mb, 2, none⟩ = some (.int .i64 m.f) := HT.out.2.2.2.2.2.cAt 2
      have HK : Hid (_ ∧ _ ∧ _ ∧ _ ∧ _) := ⟨H5, ln5, HT.out.2.2.1, HT.out.2.2.2.1.trans (Hu.of_below hdw), HT.out.2.2.2.2.1⟩
      clear hdw H5 ln5 m5 HT
      go_region_with (first
        | (go_at_call 43; refine HW.out.mono ?_; rintro e w5 ⟨v5, rfl, ho, hg, hv⟩; obtain ⟨a5, cap5, hv5, hcap5⟩ := ho.len; generalize (W.ins m.f s.sh).length = n5 at hv5 hcap5; subst hv5
           have B5 := HK.out.1.b.grown hg (fun e => HK.out.1.sn e.symm)
           have t7 := B5.c 7 (by decide)
           have f7 := B5.fz 7
           dsimp only [hoF] at t7))
      all_goals
        have h6 := HK.out.1.setS hg ho hv
        have u6 := HK.out.2.2.2.1.trans h6.2
        have ln6 := HK.out.2.1.up h6.2 HK.out.2.2.1
        have pt6 := h6.2.pt HK.out.2.1.lt HK.out.2.2.1
        obtain ⟨s1, hs1⟩ : ∃ s1 : W.Hm, s1 = { s with ow := -1, sh := W.ins m.f s.sh } := ⟨_, rfl⟩
        have HT : Hid (Ho n0 hb s1 (.slice a5 n5 cap5) av _ ∧ LnAt db m.d0 m.d1 m.d2 m.d3 _ ∧ Hpt hb (.slice a5 n5 cap5) av db ∧ Hu hb sv av (.slice a5 n5 cap5) av w _ ∧ w.heap.size ≤ db) := ⟨by rw [hs1]; exact h6.1, ln6, pt6, u6, HK.out.2.2.2.2⟩
        have HS : Hid (W.Up1 s1.sh ∧ s1.sh.length ≤ 4092) := ⟨by rw [hs1]; exact W.ins_up _ _ HU.out.1, by rw [hs1]; have := HU.out.2; have := W.ins_len m.f s.sh; dsimp only; omega⟩
        have HQ : Hid (W.sB s m = ({ s1 with sh := W.ins s1.sv s1.sh }, [W.dat s1 s1.sv m.d0 m.d1 m.d2 m.d3 false false])) := by
          show W.sB s m = _
          rw [HQ0.out, hs1]
          exact rfl
        clear h6 u6 ln6 pt6 hs1 ho hg hv B5 t7 f7 r7 r7' r2 r2' HK HW HQ0 hcap5
        generalize World.setCell w5 _ _ = W4 at *
        clear w5
        have hdw : Below W4.heap.size W4 W4.drew := (Below.refl _ _).drew
        have H5 := HT.out.1.below hdw
        have ln5 := HT.out.2.1.below hdw
        have HW : Hid (Calls _ _ _ _ _) := with_any n0 (.slice a5 n5 cap5) s1.sh s1.sv HS.out.1 (Nat.le_trans HS.out.2 (by decide)) W4.drew H5.os (Nat.le_trans H5.n0 (Nat.le_of_lt H5.b.lt))
        have r7 : W4.drew.cell? ⟨hb, 7, none⟩ = some ((.slice a5 n5 cap5)) := H5.c 7 (by decide)
        have r7' : W4.cell? ⟨hb, 7, none⟩ = some ((.slice a5 n5 cap5)) := HT.out.1.c 7 (by decide)
        have r8 : W4.drew.cell? ⟨hb, 8, none⟩ = some (.int .i64 s1.sv) := H5.c 8 (by decide)
        have r8' : W4.cell? ⟨hb, 8, none⟩ = some (.int .i64 s1.sv) := HT.out.1.c 8 (by decide)
        have HK : Hid (_ ∧ _ ∧ _ ∧ _ ∧ _) := ⟨H5, ln5, HT.out.2.2.1, HT.out.2.2.2.1.trans (Hu.of_below hdw), HT.out.2.2.2.2⟩
        clear hdw H5 ln5 HT
        go_wp2_with (fail)
        go_region_with (first
          | (go_at_call 43; refine HW.out.mono ?_; rintro e w5 ⟨v5, rfl, ho, hg, hv⟩; obtain ⟨a6, cap6, hv5, hcap6⟩ := ho.len; generalize (W.ins s1.sv s1.sh).length = n6 at hv5 hcap6; subst hv5
             have B5 := HK.out.1.b.grown hg (fun e => HK.out.1.sn e.symm)
             have t7 := B5.c 7 (by decide)
             have f7 := B5.fz 7
             dsimp only [hoF] at t7))
        all_goals
          have h6 := HK.out.1.setS hg ho hv
          have u6 := HK.out.2.2.2.1.trans h6.2
          have ln6 := HK.out.2.1.up h6.2 HK.out.2.2.1
          have HR : Hid (_ ∧ _ ∧ _) := ⟨h6.1, ln6, u6⟩
          clear h6 u6 ln6 ho hg hv B5 t7 f7 r7 r7' r8 r8' HK HW
          generalize World.setCell w5 _ _ = W6 at *
          have hdw : Below W6.heap.size W6 W6.drew := (Below.refl _ _).drew
          have H7 := HR.out.1.below hdw
          have ln7 := HR.out.2.1.below hdw
          have HD : Hid (Calls _ _ _ _ _) := dataTo_any (s := s1) (H7.c 0 (by decide)) s1.sv m.d0 m.d1 m.d2 m.d3
          have K6 : W6.drew.cell? ⟨hb, 8, none⟩ = some (.int .i64 s1.sv) ∧ W6.drew.cell? ⟨db, 0, none⟩ = some (.int .u32 m.d0) ∧ W6.drew.cell? ⟨db, 1, none⟩ = some (.int .u32 m.d1) ∧ W6.drew.cell? ⟨db, 2, none⟩ = some (.int .u32 m.d2) ∧ W6.drew.cell? ⟨db, 3, none⟩ = some (.int .u32 m.d3) := ⟨H7.c 8 (by decide), ln7.c0, ln7.c1, ln7.c2, ln7.c3⟩
          have HH7 : Hid (_ ∧ _) := ⟨H7, ln7⟩
          have bs := bsM_any (W.dat s1 s1.sv m.d0 m.d1 m.d2 m.d3 false false)
          have HX : Hid (Res n0 hb ({ s1 with sh := W.ins s1.sv s1.sh }, [W.dat s1 s1.sv m.d0 m.d1 m.d2 m.d3 false false]) sv av w = Res n0 hb (W.sB s m) sv av w) := by rw [HQ.out]; exact rfl
          generalize W.dat s1 s1.sv m.d0 m.d1 m.d2 m.d3 false false = M at *
          clear hdw H7 ln7 HQ
          go_wp2_with (fail)
          go_region_held3 (fun w' => w'.cell? ⟨hb, 8, none⟩ = some (.int .i64 s1.sv) ∧ w'.cell? ⟨db, 0, none⟩ = some (.int .u32 m.d0) ∧ w'.cell? ⟨db, 1, none⟩ = some (.int .u32 m.d1) ∧ w'.cell? ⟨db, 2, none⟩ = some (.int .u32 m.d2) ∧ w'.cell? ⟨db, 3, none⟩ = some (.int .u32 m.d3))
            (first | exact K6 | exact K8 | exact K9 | with_reducible assumption)
            (first
              | (go_at_call 42; refine HD.out.mono ?_; rintro e w8 ⟨rfl, hb8⟩
                 have H8 := HH7.out.1.below hb8
                 have ln8 := HH7.out.2.below hb8
                 have K8 : w8.cell? ⟨hb, 8, none⟩ = some (.int .i64 s1.sv) ∧ w8.cell? ⟨db, 0, none⟩ = some (.int .u32 m.d0) ∧ w8.cell? ⟨db, 1, none⟩ = some (.int .u32 m.d1) ∧ w8.cell? ⟨db, 2, none⟩ = some (.int .u32 m.d2) ∧ w8.cell? ⟨db, 3, none⟩ = some (.int .u32 m.d3) := ⟨H8.c 8 (by decide), ln8.c0, ln8.c1, ln8.c2, ln8.c3⟩
                 have ba := below_alloc w8 (.cells (mgL M).toArray 35)
                 have H9 := H8.below ba
                 have ln9 := ln8.below ba
                 have K9 : (w8.alloc (.cells (mgL M).toArray 35)).cell? ⟨hb, 8, none⟩ = some (.int .i64 s1.sv) ∧ (w8.alloc (.cells (mgL M).toArray 35)).cell? ⟨db, 0, none⟩ = some (.int .u32 m.d0) ∧ (w8.alloc (.cells (mgL M).toArray 35)).cell? ⟨db, 1, none⟩ = some (.int .u32 m.d1) ∧ (w8.alloc (.cells (mgL M).toArray 35)).cell? ⟨db, 2, none⟩ = some (.int .u32 m.d2) ∧ (w8.alloc (.cells (mgL M).toArray 35)).cell? ⟨db, 3, none⟩ = some (.int .u32 m.d3) := ⟨H9.c 8 (by decide), ln9.c0, ln9.c1, ln9.c2, ln9.c3⟩))
          all_goals
            go_wp2
            go_ret
            rw [← HX.out]
            exact Res.one H8 ((HR.out.2.2.trans (Hu.of_below (Below.refl _ _).drew)).trans (Hu.of_below hb8)) M
end Go.Proofs.Ytadkpelcbnljbaa
