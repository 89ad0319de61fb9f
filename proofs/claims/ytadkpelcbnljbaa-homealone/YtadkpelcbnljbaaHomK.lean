/- home: own, where something came back with data. -/
import Derived.Test.YtadkpelcbnljbaaHomJ
namespace Go.Proofs.Ytadkpelcbnljbaa
open Go.ChangeShapes Go.WideShapes Go.ChangeAt Go.RowKit
set_option linter.unusedVariables false
set_option linter.unusedSimpArgs false
attribute [local go_sem ↓] ldM_eq stM_eq bdM_eq bsM_eq
variable {n0 hb : Nat} {s s' : W.Hm} {sv av sv' av' sv'' av'' : Value} {w w' w'' : World}

set_option maxRecDepth 10000 in
set_option maxHeartbeats 1600000 in
theorem own_back (H : Ho n0 hb s sv av w) (hw : W.wt s = false) (he : s.ow ≠ s.sv) (hh : s.bk.h = true) : Calls Try.prog 31 #[.pointer (some ⟨hb, 0, none⟩)] w fun e w' => Res n0 hb (W.ow s) sv av w e w' := by
  have HW : Hid (Calls _ _ _ _ _) := waits_any H
  rw [hw] at HW
  have HO : Hid (W.ow s = ({ s with ow := s.sv, sh := [], bk := W.mg0 }, [W.dat s s.sv s.bk.d0 s.bk.d1 s.bk.d2 s.bk.d3 s.bk.d true])) := by
    show W.ow s = _
    unfold W.ow W.gv
    rw [hw, if_neg (by simp), if_neg he, if_pos hh]
  have c8 : w.cell? ⟨hb, 8, none⟩ = some (.int .i64 s.sv) := H.c 8 (by decide)
  have HM : Hid (Calls _ _ _ _ _) := msg_any (H.c 0 (by decide)) 8 s.sv
  have HH : Hid (Ho n0 hb s sv av w) := H
  have HB0 : Hid (s.bk.h = true) := hh
  clear H hw hh
  go_enter Try.func31, Try.ntmps31
  go_wp2_with (fail)
  refine HW.out.mono ?_
  rintro e w' ⟨rfl, rfl⟩
  go_wp2_with (fail)
  refine HM.out.mono ?_
  rintro e w1 ⟨rfl, hb1⟩
  have hst := stM_new w1 (W.msg s 8 s.sv) z11 rfl
  have hm := msgAt_new w1 (W.msg s 8 s.sv)
  have hb2 := hb1.trans ((below_alloc w1 (.cells (mgL (W.msg s 8 s.sv)).toArray 35)).mono hb1.size)
  have H2 := HH.out.below hb2
  have HQ : Hid (_ ∧ _ ∧ _ ∧ w.heap.size ≤ w1.heap.size) := ⟨hm.room, hb2, H2, hb1.size⟩
  have a6 : (w1.alloc (.cells (mgL (W.msg s 8 s.sv)).toArray 35)).cell? ⟨hb, 6, none⟩ = some (.int .i64 s.ow) := H2.c 6 (by decide)
  have a8 : (w1.alloc (.cells (mgL (W.msg s 8 s.sv)).toArray 35)).cell? ⟨hb, 8, none⟩ = some (.int .i64 s.sv) := H2.c 8 (by decide)
  have hn : (s.ow != s.sv) = true := by simpa using he
  clear hm hb1 hb2 H2 c8
  go_wp2_with (fail)
  clear hst
  generalize hmb : w1.heap.size = mb at *
  clear hmb
  generalize World.alloc w1 _ = W2 at *
  go_quiet (fail)
  have hbq := below_drewN (Below.refl W2.heap.size W2) nq
  have H3 := HQ.out.2.2.1.below hbq
  have hr3 := HQ.out.1.below hbq
  have hpt : Hpt hb sv av mb := HH.out.pt_new HQ.out.2.2.2
  have hb3 := HQ.out.2.1.trans (hbq.mono HQ.out.2.1.size)
  have hmw : w.heap.size ≤ mb := HQ.out.2.2.2
  clear a6 a8 hbq HQ
  generalize W2.drewN nq = W3 at *
  have K3 : SOw hb mb s W3.drew := sow_of (n0 := n0) (sv := sv) (av := av) (H3.below (Below.refl _ _).drew) (hr3.below (Below.refl _ _).drew)
  have c0 : W3.drew.cell? ⟨hb, 0, none⟩ = some (.int .i64 s.ln) := H3.c 0 (by decide)
  have HK : Hid (SOw hb mb s W3.drew) := K3
  have HC : Hid (Calls _ _ _ _ _) := dataTo_any (s := s) c0 s.sv s.e0 s.e1 s.e2 s.e3
  have HZ : Hid (_ ∧ _ ∧ _ ∧ _ ∧ _) := ⟨H3, hr3, hpt, hb3, hmw⟩
  clear H3 hr3 hpt hb3 hmw K3 c0
  go_wp2_with (fail)
  go_region_held3 (fun w' => w'.cell? ⟨hb, 8, none⟩ = some (.int .i64 s.sv) ∧ w'.cell? ⟨hb, 2, none⟩ = some (.int .u32 s.e0) ∧ w'.cell? ⟨hb, 3, none⟩ = some (.int .u32 s.e1) ∧ w'.cell? ⟨hb, 4, none⟩ = some (.int .u32 s.e2) ∧ w'.cell? ⟨hb, 5, none⟩ = some (.int .u32 s.e3) ∧ ∀ m, (stM ⟨mb, 0, none⟩ (mgV m)).run Try.prog w' = .ok () (w'.setRow mb (mgL m).toArray))
    (first
      | exact HK.out
      | exact K5
      | exact K6
      | with_reducible assumption)
    (first
      | (go_at_call 42; refine HC.out.mono ?_; rintro e w5 ⟨rfl, hb5⟩
         have b5 := ((Below.refl W3.heap.size W3).drew).trans hb5
         have H5 := HZ.out.1.below b5
         have r5 := HZ.out.2.1.below b5
         have K5 : SOw hb mb s w5 := sow_of H5 r5
         have K6 : SOw hb mb s (w5.setRow mb (mgL (W.dat s s.sv s.e0 s.e1 s.e2 s.e3 false false)).toArray) := sow_of (H5.oth (gsetRow _ _ _) HZ.out.2.2.1) (r5.set _).room))
  all_goals
    have hg6 := gsetRow w5 mb (mgL (W.dat s s.sv s.e0 s.e1 s.e2 s.e3 false false)).toArray
    have H6 := H5.oth hg6 HZ.out.2.2.1
    have m6 := r5.set (W.dat s s.sv s.e0 s.e1 s.e2 s.e3 false false)
    have b6 : Below w.heap.size w (w5.setRow mb (mgL (W.dat s s.sv s.e0 s.e1 s.e2 s.e3 false false)).toArray) := (HZ.out.2.2.2.1.trans (b5.mono HZ.out.2.2.2.1.size)).grown hg6 (Nat.le_trans HZ.out.2.2.2.1.size b5.size) (fun k e => by cases e; exact HZ.out.2.2.2.2)
    clear K5 K6 H5 r5 b5 hb5 hg6
    generalize World.setRow w5 _ _ = W6 at *
    have c10 : W6.cell? ⟨mb, 10, none⟩ = some (.bool false) := m6.cAt 10
    have f10 := m6.fz 10
    have hg7 := gsetCell W6 mb 10 (.bool true)
    have H7 := H6.oth hg7 HZ.out.2.2.1
    have m7 : MsgAt mb (W.dat s s.sv s.e0 s.e1 s.e2 s.e3 false true) (W6.setCell ⟨mb, 10, none⟩ (.bool true)) := MsgAt.set1 m6 10 (.bool true) rfl
    have b7 : Below w.heap.size w (W6.setCell ⟨mb, 10, none⟩ (.bool true)) := b6.grown hg7 b6.size (fun k e => by cases e; exact HZ.out.2.2.2.2)
    have c20 : (W6.setCell ⟨mb, 10, none⟩ (.bool true)).cell? ⟨hb, 20, none⟩ = some (.bool true) := by
      rw [H7.c 20 (by decide)]
      show some (Value.bool s.bk.h) = _
      rw [HB0.out]
    have c20' : W6.cell? ⟨hb, 20, none⟩ = some (.bool true) := by
      rw [H6.c 20 (by decide)]
      show some (Value.bool s.bk.h) = _
      rw [HB0.out]
    have hne := HZ.out.2.2.1.1
    have hne' := hne.symm
    have HF : Hid (_ ∧ _ ∧ _) := ⟨H7, m7, b7⟩
    clear H6 m6 b6 hg7 H7 m7 b7 HK
    go_wp2_with (fail)
    clear c10 f10 c20 c20'
    generalize World.setCell W6 _ _ = W7 at *
    have H7 := HF.out.1
    have m7 := HF.out.2.1
    have d16 : W7.cell? ⟨hb, 16, none⟩ = some (.int .u32 s.bk.d0) := H7.c 16 (by decide)
    have d17 : W7.cell? ⟨hb, 17, none⟩ = some (.int .u32 s.bk.d1) := H7.c 17 (by decide)
    have d18 : W7.cell? ⟨hb, 18, none⟩ = some (.int .u32 s.bk.d2) := H7.c 18 (by decide)
    have d19 : W7.cell? ⟨hb, 19, none⟩ = some (.int .u32 s.bk.d3) := H7.c 19 (by decide)
    have d21 : W7.cell? ⟨hb, 21, none⟩ = some (.bool s.bk.d) := H7.c 21 (by decide)
    have e4 : W7.cell? ⟨mb, 4, none⟩ = some (.int .u32 s.e0) := m7.cAt 4
    have e5 : W7.cell? ⟨mb, 5, none⟩ = some (.int .u32 s.e1) := m7.cAt 5
    have e6 : W7.cell? ⟨mb, 6, none⟩ = some (.int .u32 s.e2) := m7.cAt 6
    have e7 : W7.cell? ⟨mb, 7, none⟩ = some (.int .u32 s.e3) := m7.cAt 7
    have e9 : W7.cell? ⟨mb, 9, none⟩ = some (.bool false) := m7.cAt 9
    have g4 := m7.fz 4
    have g5 := m7.fz 5
    have g6 := m7.fz 6
    have g7 := m7.fz 7
    have g9 := m7.fz 9
    clear H7 m7
    go_region
    have hgg : W7.grownBy (((((W7.setCell ⟨mb, 4, none⟩ (.int .u32 s.bk.d0)).setCell ⟨mb, 5, none⟩ (.int .u32 s.bk.d1)).setCell ⟨mb, 6, none⟩ (.int .u32 s.bk.d2)).setCell ⟨mb, 7, none⟩ (.int .u32 s.bk.d3)).setCell ⟨mb, 9, none⟩ (.bool s.bk.d)).drew (some mb) := gtrans (gtrans (gtrans (gtrans (gtrans (gsetCell _ _ _ _) (gsetCell _ _ _ _)) (gsetCell _ _ _ _)) (gsetCell _ _ _ _)) (gsetCell _ _ _ _)) (gdrew _ _)
    have H9 := HF.out.1.oth hgg HZ.out.2.2.1
    have m9 : MsgAt mb (W.dat s s.sv s.bk.d0 s.bk.d1 s.bk.d2 s.bk.d3 s.bk.d true) (((((W7.setCell ⟨mb, 4, none⟩ (.int .u32 s.bk.d0)).setCell ⟨mb, 5, none⟩ (.int .u32 s.bk.d1)).setCell ⟨mb, 6, none⟩ (.int .u32 s.bk.d2)).setCell ⟨mb, 7, none⟩ (.int .u32 s.bk.d3)).setCell ⟨mb, 9, none⟩ (.bool s.bk.d)).drew := by
      have q1 := MsgAt.set1 (m' := ⟨7, s.ln, -1, s.sv, s.bk.d0, s.e1, s.e2, s.e3, true, false, true⟩) HF.out.2.1 4 (.int .u32 s.bk.d0) rfl
      have q2 := MsgAt.set1 (m' := ⟨7, s.ln, -1, s.sv, s.bk.d0, s.bk.d1, s.e2, s.e3, true, false, true⟩) q1 5 (.int .u32 s.bk.d1) rfl
      have q3 := MsgAt.set1 (m' := ⟨7, s.ln, -1, s.sv, s.bk.d0, s.bk.d1, s.bk.d2, s.e3, true, false, true⟩) q2 6 (.int .u32 s.bk.d2) rfl
      have q4 := MsgAt.set1 (m' := ⟨7, s.ln, -1, s.sv, s.bk.d0, s.bk.d1, s.bk.d2, s.bk.d3, true, false, true⟩) q3 7 (.int .u32 s.bk.d3) rfl
      exact MsgAt.set1 (m' := W.dat s s.sv s.bk.d0 s.bk.d1 s.bk.d2 s.bk.d3 s.bk.d true) q4 9 (.bool s.bk.d) rfl
    have b9 : Below w.heap.size w (((((W7.setCell ⟨mb, 4, none⟩ (.int .u32 s.bk.d0)).setCell ⟨mb, 5, none⟩ (.int .u32 s.bk.d1)).setCell ⟨mb, 6, none⟩ (.int .u32 s.bk.d2)).setCell ⟨mb, 7, none⟩ (.int .u32 s.bk.d3)).setCell ⟨mb, 9, none⟩ (.bool s.bk.d)).drew := HF.out.2.2.grown hgg HF.out.2.2.size (fun k e => by cases e; exact HZ.out.2.2.2.2)
    clear hgg d16 d17 d18 d19 d21 e4 e5 e6 e7 e9 g4 g5 g6 g7 g9
    generalize (((((W7.setCell ⟨mb, 4, none⟩ (.int .u32 s.bk.d0)).setCell ⟨mb, 5, none⟩ (.int .u32 s.bk.d1)).setCell ⟨mb, 6, none⟩ (.int .u32 s.bk.d2)).setCell ⟨mb, 7, none⟩ (.int .u32 s.bk.d3)).setCell ⟨mb, 9, none⟩ (.bool s.bk.d)).drew = W9 at *
    have c8 : W9.cell? ⟨hb, 8, none⟩ = some (.int .i64 s.sv) := H9.c 8 (by decide)
    have c6 : W9.cell? ⟨hb, 6, none⟩ = some (.int .i64 s.ow) := H9.c 6 (by decide)
    have c7 : W9.cell? ⟨hb, 7, none⟩ = some sv := H9.c 7 (by decide)
    have f6 := H9.b.fz 6
    have f7 := H9.b.fz 7
    obtain ⟨W8, hst8, H8, hu8⟩ := H9.done
    have m8 := m9.up hu8 HZ.out.2.2.1
    have hl8 := m8.ld
    have HG : Hid (_ ∧ _) := ⟨H8, (Hu.of_below b9).trans hu8⟩
    have bs := bsM_any (W.dat s s.sv s.bk.d0 s.bk.d1 s.bk.d2 s.bk.d3 s.bk.d true)
    have bd := bdM_0
    clear H9 m9 b9 H8 hu8 m8
    generalize W.dat s s.sv s.bk.d0 s.bk.d1 s.bk.d2 s.bk.d3 s.bk.d true = M at *
    go_wp2_with (fail)
    go_ret
    rw [HO.out]
    exact Res.one HG.out.1 HG.out.2 M

theorem own_any (H : Ho n0 hb s sv av w) : Calls Try.prog 31 #[.pointer (some ⟨hb, 0, none⟩)] w fun e w' => Res n0 hb (W.ow s) sv av w e w' := by
  cases hw : W.wt s
  · by_cases he : s.ow = s.sv
    · exact own_grant H hw he
    · cases hh : s.bk.h
      · exact own_mem H hw he hh
      · exact own_back H hw he hh
  · exact own_wait H hw
end Go.Proofs.Ytadkpelcbnljbaa
