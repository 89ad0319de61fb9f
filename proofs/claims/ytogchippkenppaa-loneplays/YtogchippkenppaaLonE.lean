/- lone: given, take. -/
import Derived.Test.YtogchippkenppaaLonD
import Derived.Deep.CutRange
import Derived.Deep.CutBlock
namespace Go.Proofs.Ytogchippkenppaa
open Go.ChangeShapes Go.WideShapes Go.ChangeAt Go.RowKit
set_option linter.unusedVariables false
set_option linter.unusedSimpArgs false
attribute [local go_sem ↓] ldM_eq stM_eq bdM_eq bsM_eq
variable {b : Nat} {s s' : W.Lo} {w w' w'' w2 : World}

/-- What a call leaves that turns the line and answers messages. -/
def ResL (b : Nat) (s' : W.Lo) (l : List W.Mg) (sl : W.Sl) (w w' : World) : Prop := Ms sl l w' ∧ Lb b s' w' ∧ Up b w w' ∧ ∀ g o, sl.a = some ⟨g, o, none⟩ → w.heap.size ≤ g
theorem resL_one (H : Lb b s' w2) (U : Up b w w2) (m : W.Mg) : ResL b s' [m] ⟨some ⟨w2.heap.size, 0, none⟩, 1, 1⟩ w (w2.alloc (.cells (mgL m).toArray 33)) :=
  ⟨ms_one m w2, H.below (below_alloc w2 _), U.lnew (below_alloc w2 _), fun g o e => by cases e; exact U.size⟩
theorem resL_nil (H : Lb b s' w2) (U : Up b w w2) : ResL b s' [] ⟨none, 0, 0⟩ w w2 := ⟨ms_nil w2, H, U, fun g o e => by cases e⟩

theorem given_any (H : Lb b s w) (m : W.Mg) : Calls Try.prog 33 #[.pointer (some ⟨b, 0, none⟩), mgV m] w fun e w' => e = .returned (.int .i64 (s.giv m)) ∧ Below w.heap.size w w' := by
  have hba := below_alloc w (.cells (mgL m).toArray 33)
  have c2 := (H.below hba).c2
  have hm := msgAt_new w m
  have m6 : (w.alloc (.cells (mgL m).toArray 33)).cell? ⟨w.heap.size, 9, none⟩ = some (.bool m.d) := hm.cAt 9
  have m7 : (w.alloc (.cells (mgL m).toArray 33)).cell? ⟨w.heap.size, 10, none⟩ = some (.bool m.a) := hm.cAt 10
  have HB : Hid (_) := hba
  clear H hba hm
  unfold W.Lo.giv
  unfold mgV
  unfold mgL at *
  obtain ⟨k, l, f, t, d0, d1, d2, d3, h, d, a⟩ := m
  dsimp only at *
  by_cases e : s.wt = 2
  · rw [if_pos e]
    rw [e] at c2
    cases d
    all_goals
      go_enter Try.func33, Try.ntmps33
      go_wp2_with (fail)
      go_ret
      exact ⟨rfl, HB.out⟩
  · rw [if_neg e]
    have q : (s.wt == 2) = false := by simpa using e
    clear e
    cases a
    all_goals
      go_enter Try.func33, Try.ntmps33
      go_wp2_with (fail)
      go_ret
      exact ⟨rfl, HB.out⟩

theorem tak_4 (H : Lb b s w) (m : W.Mg) (hk : m.k = 4) : Calls Try.prog 31 #[.pointer (some ⟨b, 0, none⟩), mgV m] w fun e w' => ∃ sl, e = .returned (slV sl) ∧ ResL b (if s.wt = 3 then s else s.drop) [s.msg 10] sl w w' := by
  have hba := below_alloc w (.cells (mgL m).toArray 33)
  have H1 := H.below hba
  have c2 := H1.c2
  have m0 : (w.alloc (.cells (mgL m).toArray 33)).cell? ⟨w.heap.size, 0, none⟩ = some (.int .i64 m.k) := (msgAt_new w m).cAt 0
  rw [hk] at m0
  have HB : Hid (_ ∧ _) := ⟨hba, H1⟩
  clear H hba H1 hk
  unfold mgV
  by_cases e : s.wt = 3
  · rw [if_pos e]
    rw [e] at c2
    clear e
    go_enter Try.func31, Try.ntmps31
    go_wp2_with (fail)
    generalize World.alloc w _ = W1 at *
    refine (msg_any HB.out.2 10).mono ?_
    rintro e w3 ⟨rfl, hb3⟩
    have HF : Hid (_) := resL_one (HB.out.2.below hb3) ((Up.of_below HB.out.1 : Up b w _).lnew hb3) (s.msg 10)
    have bs := bsM_any (s.msg 10)
    clear hb3 HB
    go_wp2_with (fail)
    go_ret
    exact ⟨_, rfl, HF.out⟩
  · rw [if_neg e]
    have q : (s.wt != 3) = true := by simpa using e
    clear e
    go_enter Try.func31, Try.ntmps31
    go_wp2_with (fail)
    generalize World.alloc w _ = W1 at *
    refine (drop_any HB.out.2).mono ?_
    rintro e w2 ⟨rfl, hL2, hU2⟩
    have HB2 : Hid (_ ∧ _) := ⟨hL2, (Up.of_below HB.out.1 : Up b w _).trans hU2⟩
    clear hL2 hU2 HB
    go_wp2_with (fail)
    refine (msg_any HB2.out.1 10).mono ?_
    rintro e w3 ⟨rfl, hb3⟩
    have HF : Hid (_) := resL_one (HB2.out.1.below hb3) (HB2.out.2.lnew hb3) (s.msg 10)
    have bs := bsM_any (s.msg 10)
    have e1 : s.drop.msg 10 = s.msg 10 := rfl
    rw [e1]
    clear hb3 HB2 e1
    go_wp2_with (fail)
    go_ret
    exact ⟨_, rfl, HF.out⟩

theorem tak_5 (H : Lb b s w) (m : W.Mg) (hk : m.k = 5) : Calls Try.prog 31 #[.pointer (some ⟨b, 0, none⟩), mgV m] w fun e w' => ∃ sl, e = .returned (slV sl) ∧ ResL b s.share [s.tell 11] sl w w' := by
  have hba := below_alloc w (.cells (mgL m).toArray 33)
  have H1 := H.below hba
  have m0 : (w.alloc (.cells (mgL m).toArray 33)).cell? ⟨w.heap.size, 0, none⟩ = some (.int .i64 m.k) := (msgAt_new w m).cAt 0
  rw [hk] at m0
  have HB : Hid (_ ∧ _) := ⟨hba, H1⟩
  clear H hba H1 hk
  unfold mgV
  go_enter Try.func31, Try.ntmps31
  go_wp2_with (fail)
  generalize World.alloc w _ = W1 at *
  refine (tell_any HB.out.2 11).mono ?_
  rintro e w2 ⟨rfl, hb2⟩
  generalize hM : s.tell 11 = M at *
  have HM : Hid (s.tell 11 = M) := hM
  clear hM
  have hst := stM_new w2 M z11 rfl
  have hb3 := hb2.trans ((below_alloc w2 (.cells (mgL M).toArray 33)).mono hb2.size)
  have HB2 : Hid (_ ∧ _ ∧ _ ∧ _) := ⟨HB.out.2.below hb3, (Up.of_below HB.out.1 : Up b w _).lnew hb3, msgAt_new w2 M, Nat.lt_of_lt_of_le HB.out.2.lt hb2.size⟩
  clear hb2 hb3 HB
  go_wp2_with (fail)
  generalize World.alloc w2 _ = W3 at *
  refine (share_any HB2.out.1).mono ?_
  rintro e w4 ⟨rfl, hL4, hU4⟩
  have hm4 : MsgAt w2.heap.size M w4 := (hU4.block _ HB2.out.2.2.1.lt (fun e => by have := HB2.out.2.2.2; omega)).trans HB2.out.2.2.1
  have hld := hm4.ld
  have bs := bsM_any M
  have HF : Hid (_) := resL_one hL4 (HB2.out.2.1.trans hU4) M
  clear hm4 hL4 hU4 HB2 hst
  go_wp2_with (fail)
  go_ret
  exact ⟨_, rfl, by rw [HM.out]; exact HF.out⟩

theorem tak_6 (H : Lb b s w) (m : W.Mg) (hk : m.k = 6) : Calls Try.prog 31 #[.pointer (some ⟨b, 0, none⟩), mgV m] w fun e w' => ∃ sl, e = .returned (slV sl) ∧ ResL b s.drop [s.tell 11] sl w w' := by
  have hba := below_alloc w (.cells (mgL m).toArray 33)
  have H1 := H.below hba
  have m0 : (w.alloc (.cells (mgL m).toArray 33)).cell? ⟨w.heap.size, 0, none⟩ = some (.int .i64 m.k) := (msgAt_new w m).cAt 0
  rw [hk] at m0
  have HB : Hid (_ ∧ _) := ⟨hba, H1⟩
  clear H hba H1 hk
  unfold mgV
  go_enter Try.func31, Try.ntmps31
  go_wp2_with (fail)
  generalize World.alloc w _ = W1 at *
  refine (tell_any HB.out.2 11).mono ?_
  rintro e w2 ⟨rfl, hb2⟩
  generalize hM : s.tell 11 = M at *
  have HM : Hid (s.tell 11 = M) := hM
  clear hM
  have hst := stM_new w2 M z11 rfl
  have hb3 := hb2.trans ((below_alloc w2 (.cells (mgL M).toArray 33)).mono hb2.size)
  have HB2 : Hid (_ ∧ _ ∧ _ ∧ _) := ⟨HB.out.2.below hb3, (Up.of_below HB.out.1 : Up b w _).lnew hb3, msgAt_new w2 M, Nat.lt_of_lt_of_le HB.out.2.lt hb2.size⟩
  clear hb2 hb3 HB
  go_wp2_with (fail)
  generalize World.alloc w2 _ = W3 at *
  refine (drop_any HB2.out.1).mono ?_
  rintro e w4 ⟨rfl, hL4, hU4⟩
  have hm4 : MsgAt w2.heap.size M w4 := (hU4.block _ HB2.out.2.2.1.lt (fun e => by have := HB2.out.2.2.2; omega)).trans HB2.out.2.2.1
  have hld := hm4.ld
  have bs := bsM_any M
  have HF : Hid (_) := resL_one hL4 (HB2.out.2.1.trans hU4) M
  clear hm4 hL4 hU4 HB2 hst
  go_wp2_with (fail)
  go_ret
  exact ⟨_, rfl, by rw [HM.out]; exact HF.out⟩

theorem tak_9 (H : Lb b s w) (m : W.Mg) (hk : m.k = 9) : Calls Try.prog 31 #[.pointer (some ⟨b, 0, none⟩), mgV m] w fun e w' => ∃ sl, e = .returned (slV sl) ∧ ResL b ⟨s.ln, s.ht, 0, 0, 0, 0, 0, 0⟩ [] sl w w' := by
  have hba := below_alloc w (.cells (mgL m).toArray 33)
  have H1 := H.below hba
  have m0 : (w.alloc (.cells (mgL m).toArray 33)).cell? ⟨w.heap.size, 0, none⟩ = some (.int .i64 m.k) := (msgAt_new w m).cAt 0
  rw [hk] at m0
  have HB : Hid (_ ∧ _) := ⟨hba, H1⟩
  clear H hba H1 hk
  unfold mgV
  go_enter Try.func31, Try.ntmps31
  go_wp2_with (fail)
  generalize World.alloc w _ = W1 at *
  refine (drop_any HB.out.2).mono ?_
  rintro e w2 ⟨rfl, hL2, hU2⟩
  have c2 := hL2.c2
  have f2 := Rw.fz hL2 2
  have HF : Hid (_) := resL_nil (hL2.wt 0) (((Up.of_below HB.out.1 : Up b w _).trans hU2).trans (Up.set b w2 2 (.int .i64 0)))
  clear hL2 hU2 HB
  go_wp2_with (fail)
  go_ret
  exact ⟨_, rfl, HF.out⟩

theorem tak_8 (H : Lb b s w) (m : W.Mg) (hk : m.k = 8) : Calls Try.prog 31 #[.pointer (some ⟨b, 0, none⟩), mgV m] w fun e w' => ∃ sl, e = .returned (slV sl) ∧ ResL b ⟨s.ln, s.ht, 0, 4, s.e0, s.e1, s.e2, s.e3⟩ [s.msg 12] sl w w' := by
  have hba := below_alloc w (.cells (mgL m).toArray 33)
  have H1 := H.below hba
  have m0 : (w.alloc (.cells (mgL m).toArray 33)).cell? ⟨w.heap.size, 0, none⟩ = some (.int .i64 m.k) := (msgAt_new w m).cAt 0
  rw [hk] at m0
  have c2 := H1.c2
  have c3 := H1.c3
  have f2 := Rw.fz H1 2
  have f3 := Rw.fz H1 3
  have HB : Hid (_ ∧ _) := ⟨hba, H1⟩
  clear H hba H1 hk
  unfold mgV
  go_enter Try.func31, Try.ntmps31
  go_wp2_with (fail)
  have h2 := (HB.out.2.hd 4).wt 0
  have HB2 : Hid (_ ∧ _) := ⟨h2, ((Up.of_below HB.out.1 : Up b w _).trans (Up.set b _ 3 (.int .i64 4))).trans (Up.set b _ 2 (.int .i64 0))⟩
  clear h2 HB c2 c3 f2 f3 m0
  refine (msg_any HB2.out.1 12).mono ?_
  rintro e w3 ⟨rfl, hb3⟩
  have HF : Hid (_) := resL_one (HB2.out.1.below hb3) (HB2.out.2.lnew hb3) (s.msg 12)
  have bs := bsM_any (s.msg 12)
  have e1 : W.Lo.msg ⟨s.ln, s.ht, 0, 4, s.e0, s.e1, s.e2, s.e3⟩ 12 = s.msg 12 := rfl
  rw [e1]
  clear hb3 HB2 e1
  go_wp2_with (fail)
  go_ret
  exact ⟨_, rfl, HF.out⟩

set_option maxHeartbeats 1600000 in
theorem tak_7 (H : Lb b s w) (m : W.Mg) (hk : m.k = 7) : Calls Try.prog 31 #[.pointer (some ⟨b, 0, none⟩), mgV m] w fun e w' => ∃ sl, e = .returned (slV sl) ∧ ResL b ⟨s.ln, s.ht, 0, s.giv m, m.d0, m.d1, m.d2, m.d3⟩ [s.msg 12] sl w w' := by
  have hba := below_alloc w (.cells (mgL m).toArray 33)
  have H1 := H.below hba
  have hm := msgAt_new w m
  have m0 : (w.alloc (.cells (mgL m).toArray 33)).cell? ⟨w.heap.size, 0, none⟩ = some (.int .i64 m.k) := hm.cAt 0
  rw [hk] at m0
  have HB : Hid (_ ∧ _ ∧ _) := ⟨hba, H1, hm⟩
  clear H hba H1 hk hm
  unfold mgV
  go_enter Try.func31, Try.ntmps31
  go_upto_region 19 with fail
  have HUP : Hid (Up b w _) := Up.of_below HB.out.1
  generalize World.alloc w _ = W1 at *
  generalize w.heap.size = mb at m0 HB ⊢
  have hdw : Below W1.heap.size W1 W1.drew := (Below.refl _ _).drew
  have H5 := HB.out.2.1.below hdw
  have M5 := HB.out.2.2.below hdw
  have hld := M5.ld
  have hld' := HB.out.2.2.ld
  have a4 : W1.drew.cell? ⟨mb, 4, none⟩ = some (.int .u32 m.d0) := M5.cAt 4
  have a5 : W1.drew.cell? ⟨mb, 5, none⟩ = some (.int .u32 m.d1) := M5.cAt 5
  have a6 : W1.drew.cell? ⟨mb, 6, none⟩ = some (.int .u32 m.d2) := M5.cAt 6
  have a7 : W1.drew.cell? ⟨mb, 7, none⟩ = some (.int .u32 m.d3) := M5.cAt 7
  have HG : Hid (Calls _ _ _ _ _) := given_any H5 m
  have HK : Hid (_ ∧ _ ∧ _) := ⟨H5, M5, (by have := HB.out.1; exact HUP.out.lnew hdw)⟩
  clear hdw H5 M5 HB
  go_region_with (first
    | (go_at_call 33; refine HG.out.mono ?_; rintro e w5 ⟨rfl, hb5⟩
       have H6 := HK.out.1.below hb5
       have M6 := HK.out.2.1.below hb5
       have b4 : w5.cell? ⟨mb, 4, none⟩ = some (.int .u32 m.d0) := M6.cAt 4
       have b5 : w5.cell? ⟨mb, 5, none⟩ = some (.int .u32 m.d1) := M6.cAt 5
       have b6 : w5.cell? ⟨mb, 6, none⟩ = some (.int .u32 m.d2) := M6.cAt 6
       have b7 : w5.cell? ⟨mb, 7, none⟩ = some (.int .u32 m.d3) := M6.cAt 7
       have c3 := H6.c3
       have c4 := H6.c4
       have c5 := H6.c5
       have c6 := H6.c6
       have c7 := H6.c7
       have f3 := Rw.fz H6 3
       have f4 := Rw.fz H6 4
       have f5 := Rw.fz H6 5
       have f6 := Rw.fz H6 6
       have f7 := Rw.fz H6 7))
  all_goals
    have h9 := ((H6.hd (s.giv m)).dt m.d0 m.d1 m.d2 m.d3)
    have HB2 : Hid (_ ∧ _) := ⟨h9.wt 0, ((((HK.out.2.2.lnew hb5).trans (Up.set b w5 3 (.int .i64 (s.giv m)))).trans (Up.dt b 4 _ m.d0 m.d1 m.d2 m.d3)).trans (Up.set b _ 2 (.int .i64 0)))⟩
    have c2 := h9.c2
    have f2 := Rw.fz h9 2
    unfold st4 at h9 HB2 c2 f2
    clear h9 hb5 H6 M6 b4 b5 b6 b7 c3 c4 c5 c6 c7 f3 f4 f5 f6 f7 HK HG hld hld' a4 a5 a6 a7 m0
    generalize World.setCell (World.setCell (World.setCell (World.setCell (World.setCell w5 _ _) _ _) _ _) _ _) _ _ = W6 at *
    go_wp2_with (fail)
    refine (msg_any HB2.out.1 12).mono ?_
    rintro e w3 ⟨rfl, hb3⟩
    have HF : Hid (_) := resL_one (HB2.out.1.below hb3) (HB2.out.2.lnew hb3) (s.msg 12)
    have bs := bsM_any (s.msg 12)
    have e1 : W.Lo.msg ⟨s.ln, s.ht, 0, s.giv m, m.d0, m.d1, m.d2, m.d3⟩ 12 = s.msg 12 := rfl
    rw [e1]
    clear hb3 HB2 e1
    go_wp2_with (fail)
    go_ret
    exact ⟨_, rfl, HF.out⟩

theorem tak_any (H : Lb b s w) (m : W.Mg) (hk : s.tk m = true) : Calls Try.prog 31 #[.pointer (some ⟨b, 0, none⟩), mgV m] w fun e w' => ∃ sl, e = .returned (slV sl) ∧ ResL b (s.tak m).1 (s.tak m).2 sl w w' := by
  unfold W.Lo.tak
  rcases W.Lo.tk_kind hk with h | h | h | ⟨h, _⟩ | ⟨h, _⟩ | ⟨h, _⟩
  · rw [if_pos h]
    exact tak_4 H m h
  · rw [if_neg (by omega), if_pos h]
    exact tak_5 H m h
  · rw [if_neg (by omega), if_neg (by omega), if_pos h]
    exact tak_6 H m h
  · rw [if_neg (by omega), if_neg (by omega), if_neg (by omega), if_neg (by omega), if_pos h]
    exact tak_7 H m h
  · rw [if_neg (by omega), if_neg (by omega), if_neg (by omega), if_neg (by omega), if_neg (by omega)]
    exact tak_8 H m h
  · rw [if_neg (by omega), if_neg (by omega), if_neg (by omega), if_pos h]
    exact tak_9 H m h

end Go.Proofs.Ytogchippkenppaa
