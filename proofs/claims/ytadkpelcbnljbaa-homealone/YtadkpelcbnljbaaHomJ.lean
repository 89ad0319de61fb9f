/- home: own: what is sent when nobody is waited for any more. -/
import Derived.Test.YtadkpelcbnljbaaHomJ0
import Derived.Test.YtadkpelcbnljbaaHomH
namespace Go.Proofs.Ytadkpelcbnljbaa
open Go.ChangeShapes Go.WideShapes Go.ChangeAt Go.RowKit
set_option linter.unusedVariables false
set_option linter.unusedSimpArgs false
attribute [local go_sem ↓] ldM_eq stM_eq bdM_eq bsM_eq
variable {n0 hb : Nat} {s s' : W.Hm} {sv av sv' av' sv'' av'' : Value} {w w' w'' : World}

/-- What a call that takes a message leaves. -/
def Res (n0 hb : Nat) (r : W.Hm × List W.Mg) (sv av : Value) (w : World) (e : Ending) (w' : World) : Prop :=
  ∃ sl sv' av', e = .returned (slV sl) ∧ Ms sl r.2 w' ∧ Ho n0 hb r.1 sv' av' w' ∧ Hu hb sv av sv' av' w w' ∧ ∀ b o, sl.a = some ⟨b, o, none⟩ → w.heap.size ≤ b ∧ Hpt hb sv' av' b ∧ w'.there b (o + sl.n * 11) ((sl.c - sl.n) * 11)
theorem gid (w : World) (r : Option Nat) : w.grownBy w r := ⟨rfl, rfl, rfl, Nat.le_refl _, fun _ _ _ => rfl⟩
theorem upd_ow (s : W.Hm) (sv av : Value) (x : Int) (j : Nat) : updV (hoF s sv av) 6 (.int .i64 x) j = hoF { s with ow := x } sv av j := by
  unfold updV
  by_cases e : j = 6
  · subst e; rfl
  · rw [if_neg e]
    unfold hoF
    split <;> first | rfl | exact absurd rfl e
theorem upd_sv (s : W.Hm) (sv av : Value) (x : Int) (j : Nat) : updV (hoF s sv av) 8 (.int .i64 x) j = hoF { s with sv := x } sv av j := by
  unfold updV
  by_cases e : j = 8
  · subst e; rfl
  · rw [if_neg e]
    unfold hoF
    split <;> first | rfl | exact absurd rfl e
theorem upd_by (s : W.Hm) (sv av : Value) (x : Int) (j : Nat) : updV (hoF s sv av) 9 (.int .i64 x) j = hoF { s with b_ := x } sv av j := by
  unfold updV
  by_cases e : j = 9
  · subst e; rfl
  · rw [if_neg e]
    unfold hoF
    split <;> first | rfl | exact absurd rfl e
theorem upd_te (s : W.Hm) (sv av : Value) (x : Int) (j : Nat) : updV (hoF s sv av) 11 (.int .i64 x) j = hoF { s with te := x } sv av j := by
  unfold updV
  by_cases e : j = 11
  · subst e; rfl
  · rw [if_neg e]
    unfold hoF
    split <;> first | rfl | exact absurd rfl e
/-- The end of own: the served one's is the line, and nothing is left of the Back. -/
theorem Ho.done (H : Ho n0 hb s sv av w) : ∃ w2, (stM ⟨hb, 12, none⟩ (mgV W.mg0)).run Try.prog ((w.setCell ⟨hb, 6, none⟩ (.int .i64 s.sv)).setCell ⟨hb, 7, none⟩ (.slice none 0 0)) = .ok () w2 ∧ Ho n0 hb { s with ow := s.sv, sh := [], bk := W.mg0 } (.slice none 0 0) av w2 ∧ Hu hb sv av (.slice none 0 0) av w w2 := by
  have h1 := H.put 6 (.int .i64 s.sv) { s with ow := s.sv } (upd_ow s sv av s.sv) rfl rfl
  have h2 := h1.1.setS (w' := w.setCell ⟨hb, 6, none⟩ (.int .i64 s.sv)) (v := .slice none 0 0) (l := []) (gid _ _) (On.nil _ _) (Or.inr fun g e => by cases e)
  have h3 := h2.1.setB W.mg0
  exact ⟨_, h2.1.stB W.mg0, h3.1, (h1.2.trans h2.2).trans h3.2⟩
theorem Res.one {s' : W.Hm} (H : Ho n0 hb s' sv' av' w') (hu : Hu hb sv av sv' av' w w') (M : W.Mg) : Res n0 hb (s', [M]) sv av w (.returned (.slice (some ⟨w'.heap.size, 0, none⟩) 1 1)) (w'.alloc (.cells (mgL M).toArray 35)) :=
  ⟨⟨some ⟨w'.heap.size, 0, none⟩, 1, 1⟩, sv', av', rfl, ms_one M w', H.below (below_alloc _ _), hu.trans (Hu.of_below (below_alloc _ _)), fun b o e => by cases e; exact ⟨hu.g.size, H.pt_new (Nat.le_refl _), fun j hj => absurd hj (by show ¬ j < (1 - 1) * 11; omega)⟩⟩
theorem own_wait (H : Ho n0 hb s sv av w) (hw : W.wt s = true) : Calls Try.prog 31 #[.pointer (some ⟨hb, 0, none⟩)] w fun e w' => Res n0 hb (W.ow s) sv av w e w' := by
  have HW : Hid (Calls _ _ _ _ _) := waits_any H
  rw [hw] at HW
  have HR : Hid (Res n0 hb (W.ow s) sv av w (.returned (.slice none 0 0)) w) := by
    show Res _ _ _ _ _ _ _ _
    unfold Res W.ow
    rw [hw, if_pos rfl]
    exact ⟨⟨none, 0, 0⟩, sv, av, rfl, ms_nil _, H, Hu.refl _ _ _ _, fun b o e => by cases e⟩
  clear H hw
  go_enter Try.func31, Try.ntmps31
  go_wp2_with (fail)
  refine HW.out.mono ?_
  rintro e w' ⟨rfl, rfl⟩
  go_wp2
  go_ret
  exact HR.out

set_option maxRecDepth 10000 in
set_option maxHeartbeats 1600000 in
/-- The served one was the owner. -/
theorem own_grant (H : Ho n0 hb s sv av w) (hw : W.wt s = false) (he : s.ow = s.sv) : Calls Try.prog 31 #[.pointer (some ⟨hb, 0, none⟩)] w fun e w' => Res n0 hb (W.ow s) sv av w e w' := by
  have HW : Hid (Calls _ _ _ _ _) := waits_any H
  rw [hw] at HW
  have HO : Hid (W.ow s = ({ s with ow := s.sv, sh := [], bk := W.mg0 }, [W.msg s 8 s.sv])) := by
    show W.ow s = _
    unfold W.ow W.gv
    rw [hw, if_neg (by simp), if_pos he]
  have c8 : w.cell? ⟨hb, 8, none⟩ = some (.int .i64 s.sv) := H.c 8 (by decide)
  have HM : Hid (Calls _ _ _ _ _) := msg_any (H.c 0 (by decide)) 8 s.sv
  have HH : Hid (Ho n0 hb s sv av w) := H
  clear H hw
  go_enter Try.func31, Try.ntmps31
  go_wp2_with (fail)
  refine HW.out.mono ?_
  rintro e w' ⟨rfl, rfl⟩
  go_wp2_with (fail)
  refine HM.out.mono ?_
  rintro e w1 ⟨rfl, hb1⟩
  have hst := stM_new w1 (W.msg s 8 s.sv) z11 rfl
  have hm := msgAt_new w1 (W.msg s 8 s.sv)
  have hb2 := hb1.trans ((below_alloc w1 (.cells (mgL (W.msg s 8 s.sv)).toArray 35)).mono hb1.size)
  have H2 := HH.out.below hb2
  have HQ : Hid (_ ∧ _ ∧ _ ∧ w.heap.size ≤ w1.heap.size) := ⟨hm, hb2, H2, hb1.size⟩
  have a6 : (w1.alloc (.cells (mgL (W.msg s 8 s.sv)).toArray 35)).cell? ⟨hb, 6, none⟩ = some (.int .i64 s.ow) := H2.c 6 (by decide)
  have a8 : (w1.alloc (.cells (mgL (W.msg s 8 s.sv)).toArray 35)).cell? ⟨hb, 8, none⟩ = some (.int .i64 s.sv) := H2.c 8 (by decide)
  have a7 : (w1.alloc (.cells (mgL (W.msg s 8 s.sv)).toArray 35)).cell? ⟨hb, 7, none⟩ = some sv := H2.c 7 (by decide)
  have f6 := H2.b.fz 6
  have f7 := H2.b.fz 7
  have bd := bdM_0
  have hn : (s.ow != s.sv) = false := by simp [he]
  clear hm hb1 hb2 H2
  generalize hM : W.msg s 8 s.sv = M at *
  have HMM : Hid (W.msg s 8 s.sv = M) := hM
  clear hM c8
  go_wp2_with (fail)
  clear hst
  generalize hmb : w1.heap.size = mb at *
  clear hmb
  generalize World.alloc w1 _ = W2 at *
  go_quiet (fail)
  have hbq := below_drewN (Below.refl W2.heap.size W2) nq
  have H3 := HQ.out.2.2.1.below hbq
  obtain ⟨W5, hst3, H5, hu5⟩ := H3.done
  have hm3 := HQ.out.1.below hbq
  have hpt : Hpt hb sv av mb := HH.out.pt_new HQ.out.2.2.2
  have hm4 := hm3.up hu5 hpt
  have hl4 := hm4.ld
  have hb3 := HQ.out.2.1.trans (hbq.mono HQ.out.2.1.size)
  have HZ : Hid (_ ∧ _) := ⟨H5, (Hu.of_below hb3).trans hu5⟩
  clear hbq H3 hm3 hpt hm4 hb3 H5 hu5
  have bs := bsM_any M
  go_wp2_with (fail)
  go_ret
  rw [HO.out]
  exact Res.one HZ.out.1 HZ.out.2 M

/-- What the region reads, and that the message's block can be written. -/
def SOw (hb mb : Nat) (s : W.Hm) (w' : World) : Prop :=
  w'.cell? ⟨hb, 8, none⟩ = some (.int .i64 s.sv) ∧ w'.cell? ⟨hb, 2, none⟩ = some (.int .u32 s.e0) ∧ w'.cell? ⟨hb, 3, none⟩ = some (.int .u32 s.e1) ∧ w'.cell? ⟨hb, 4, none⟩ = some (.int .u32 s.e2) ∧ w'.cell? ⟨hb, 5, none⟩ = some (.int .u32 s.e3) ∧ ∀ m, (stM ⟨mb, 0, none⟩ (mgV m)).run Try.prog w' = .ok () (w'.setRow mb (mgL m).toArray)
theorem sow_of {mb : Nat} (H : Ho n0 hb s sv av w) (hr : MsgRoom mb w) : SOw hb mb s w := ⟨H.c 8 (by decide), H.c 2 (by decide), H.c 3 (by decide), H.c 4 (by decide), H.c 5 (by decide), hr.st⟩

set_option maxRecDepth 10000 in
set_option maxHeartbeats 1600000 in
/-- It was not, and nothing came back with data. -/
theorem own_mem (H : Ho n0 hb s sv av w) (hw : W.wt s = false) (he : s.ow ≠ s.sv) (hh : s.bk.h = false) : Calls Try.prog 31 #[.pointer (some ⟨hb, 0, none⟩)] w fun e w' => Res n0 hb (W.ow s) sv av w e w' := by
  have HW : Hid (Calls _ _ _ _ _) := waits_any H
  rw [hw] at HW
  have HO : Hid (W.ow s = ({ s with ow := s.sv, sh := [], bk := W.mg0 }, [W.dat s s.sv s.e0 s.e1 s.e2 s.e3 false true])) := by
    show W.ow s = _
    unfold W.ow W.gv
    rw [hw, if_neg (by simp), if_neg he, if_neg (by rw [hh]; simp)]
  have c8 : w.cell? ⟨hb, 8, none⟩ = some (.int .i64 s.sv) := H.c 8 (by decide)
  have HM : Hid (Calls _ _ _ _ _) := msg_any (H.c 0 (by decide)) 8 s.sv
  have HH : Hid (Ho n0 hb s sv av w) := H
  have HB0 : Hid (s.bk.h = false) := hh
  clear H hw hh
  go_enter Try.func31, Try.ntmps31
  go_wp2_with (fail)
  refine HW.out.mono ?_
  rintro e w' ⟨rfl, rfl⟩
  go_wp2_with (fail)
  refine HM.out.mono ?_
  rintro e w1 ⟨rfl, hb1⟩
  have hst := stM_new w1 (W.msg s 8 s.sv) z11 rfl
  have hm := msgAt_new w1 (W.msg s 8 s.sv)
  have hb2 := hb1.trans ((below_alloc w1 (.cells (mgL (W.msg s 8 s.sv)).toArray 35)).mono hb1.size)
  have H2 := HH.out.below hb2
  have HQ : Hid (_ ∧ _ ∧ _ ∧ w.heap.size ≤ w1.heap.size) := ⟨hm.room, hb2, H2, hb1.size⟩
  have a6 : (w1.alloc (.cells (mgL (W.msg s 8 s.sv)).toArray 35)).cell? ⟨hb, 6, none⟩ = some (.int .i64 s.ow) := H2.c 6 (by decide)
  have a8 : (w1.alloc (.cells (mgL (W.msg s 8 s.sv)).toArray 35)).cell? ⟨hb, 8, none⟩ = some (.int .i64 s.sv) := H2.c 8 (by decide)
  have hn : (s.ow != s.sv) = true := by simpa using he
  clear hm hb1 hb2 H2 c8
  go_wp2_with (fail)
  clear hst
  generalize hmb : w1.heap.size = mb at *
  clear hmb
  generalize World.alloc w1 _ = W2 at *
  go_quiet (fail)
  have hbq := below_drewN (Below.refl W2.heap.size W2) nq
  have H3 := HQ.out.2.2.1.below hbq
  have hr3 := HQ.out.1.below hbq
  have hpt : Hpt hb sv av mb := HH.out.pt_new HQ.out.2.2.2
  have hb3 := HQ.out.2.1.trans (hbq.mono HQ.out.2.1.size)
  have hmw : w.heap.size ≤ mb := HQ.out.2.2.2
  clear a6 a8 hbq HQ
  generalize W2.drewN nq = W3 at *
  have K3 : SOw hb mb s W3.drew := sow_of (n0 := n0) (sv := sv) (av := av) (H3.below (Below.refl _ _).drew) (hr3.below (Below.refl _ _).drew)
  have c0 : W3.drew.cell? ⟨hb, 0, none⟩ = some (.int .i64 s.ln) := H3.c 0 (by decide)
  have HK : Hid (SOw hb mb s W3.drew) := K3
  have HC : Hid (Calls _ _ _ _ _) := dataTo_any (s := s) c0 s.sv s.e0 s.e1 s.e2 s.e3
  have HZ : Hid (_ ∧ _ ∧ _ ∧ _ ∧ _) := ⟨H3, hr3, hpt, hb3, hmw⟩
  clear H3 hr3 hpt hb3 hmw K3 c0
  go_wp2_with (fail)
  go_region_held3 (fun w' => w'.cell? ⟨hb, 8, none⟩ = some (.int .i64 s.sv) ∧ w'.cell? ⟨hb, 2, none⟩ = some (.int .u32 s.e0) ∧ w'.cell? ⟨hb, 3, none⟩ = some (.int .u32 s.e1) ∧ w'.cell? ⟨hb, 4, none⟩ = some (.int .u32 s.e2) ∧ w'.cell? ⟨hb, 5, none⟩ = some (.int .u32 s.e3) ∧ ∀ m, (stM ⟨mb, 0, none⟩ (mgV m)).run Try.prog w' = .ok () (w'.setRow mb (mgL m).toArray))
    (first
      | exact HK.out
      | exact K5
      | exact K6
      | with_reducible assumption)
    (first
      | (go_at_call 42; refine HC.out.mono ?_; rintro e w5 ⟨rfl, hb5⟩
         have b5 := ((Below.refl W3.heap.size W3).drew).trans hb5
         have H5 := HZ.out.1.below b5
         have r5 := HZ.out.2.1.below b5
         have K5 : SOw hb mb s w5 := sow_of H5 r5
         have K6 : SOw hb mb s (w5.setRow mb (mgL (W.dat s s.sv s.e0 s.e1 s.e2 s.e3 false false)).toArray) := sow_of (H5.oth (gsetRow _ _ _) HZ.out.2.2.1) (r5.set _).room))
  all_goals
    have hg6 := gsetRow w5 mb (mgL (W.dat s s.sv s.e0 s.e1 s.e2 s.e3 false false)).toArray
    have H6 := H5.oth hg6 HZ.out.2.2.1
    have m6 := r5.set (W.dat s s.sv s.e0 s.e1 s.e2 s.e3 false false)
    have b6 : Below w.heap.size w (w5.setRow mb (mgL (W.dat s s.sv s.e0 s.e1 s.e2 s.e3 false false)).toArray) := (HZ.out.2.2.2.1.trans (b5.mono HZ.out.2.2.2.1.size)).grown hg6 (Nat.le_trans HZ.out.2.2.2.1.size b5.size) (fun k e => by cases e; exact HZ.out.2.2.2.2)
    clear K5 K6 H5 r5 b5 hb5 hg6
    generalize World.setRow w5 _ _ = W6 at *
    have c10 : W6.cell? ⟨mb, 10, none⟩ = some (.bool false) := m6.cAt 10
    have f10 := m6.fz 10
    have hg7 := gsetCell W6 mb 10 (.bool true)
    have H7 := H6.oth hg7 HZ.out.2.2.1
    have m7 : MsgAt mb (W.dat s s.sv s.e0 s.e1 s.e2 s.e3 false true) (W6.setCell ⟨mb, 10, none⟩ (.bool true)) := MsgAt.set1 m6 10 (.bool true) rfl
    have b7 : Below w.heap.size w (W6.setCell ⟨mb, 10, none⟩ (.bool true)) := b6.grown hg7 b6.size (fun k e => by cases e; exact HZ.out.2.2.2.2)
    have c20 : (W6.setCell ⟨mb, 10, none⟩ (.bool true)).cell? ⟨hb, 20, none⟩ = some (.bool false) := by
      rw [H7.c 20 (by decide)]
      show some (Value.bool s.bk.h) = _
      rw [HB0.out]
    have c20' : W6.cell? ⟨hb, 20, none⟩ = some (.bool false) := by
      rw [H6.c 20 (by decide)]
      show some (Value.bool s.bk.h) = _
      rw [HB0.out]
    have c8 : (W6.setCell ⟨mb, 10, none⟩ (.bool true)).cell? ⟨hb, 8, none⟩ = some (.int .i64 s.sv) := H7.c 8 (by decide)
    have c6 : (W6.setCell ⟨mb, 10, none⟩ (.bool true)).cell? ⟨hb, 6, none⟩ = some (.int .i64 s.ow) := H7.c 6 (by decide)
    have c7 : (W6.setCell ⟨mb, 10, none⟩ (.bool true)).cell? ⟨hb, 7, none⟩ = some sv := H7.c 7 (by decide)
    have c8' : W6.cell? ⟨hb, 8, none⟩ = some (.int .i64 s.sv) := H6.c 8 (by decide)
    have c6' : W6.cell? ⟨hb, 6, none⟩ = some (.int .i64 s.ow) := H6.c 6 (by decide)
    have c7' : W6.cell? ⟨hb, 7, none⟩ = some sv := H6.c 7 (by decide)
    have f6 := H6.b.fz 6
    have f7 := H6.b.fz 7
    have f6' := H7.b.fz 6
    have f7' := H7.b.fz 7
    obtain ⟨W8, hst8, H8, hu8⟩ := H7.done
    have m8 := m7.up hu8 HZ.out.2.2.1
    have hl8 := m8.ld
    have hne := HZ.out.2.2.1.1
    have hne' := hne.symm
    have HF : Hid (_ ∧ _) := ⟨H8, (Hu.of_below b7).trans hu8⟩
    have bs := bsM_any (W.dat s s.sv s.e0 s.e1 s.e2 s.e3 false true)
    have bd := bdM_0
    clear H6 m6 b6 hg7 H7 m7 b7 H8 hu8 m8 HK
    generalize W.dat s s.sv s.e0 s.e1 s.e2 s.e3 false true = M at *
    go_wp2_with (fail)
    go_ret
    rw [HO.out]
    exact Res.one HF.out.1 HF.out.2 M
end Go.Proofs.Ytadkpelcbnljbaa
