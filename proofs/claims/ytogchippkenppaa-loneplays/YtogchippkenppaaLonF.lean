/- lone: Take, Ask, Evict, Set. -/
import Derived.Test.YtogchippkenppaaLonE
namespace Go.Proofs.Ytogchippkenppaa
open Go.ChangeShapes Go.WideShapes Go.ChangeAt Go.RowKit
set_option linter.unusedVariables false
set_option linter.unusedSimpArgs false
attribute [local go_sem ↓] ldM_eq stM_eq bdM_eq bsM_eq
variable {b : Nat} {s s' : W.Lo} {w w' w'' w2 : World}

theorem ResL.from {l : List W.Mg} {sl : W.Sl} {W1 : World} (h : ResL b s' l sl W1 w') (hb : Below w.heap.size w W1) : ResL b s' l sl w w' :=
  ⟨h.1, h.2.1, (Up.of_below hb : Up b w W1).trans h.2.2.1, fun g o e => Nat.le_trans hb.size (h.2.2.2 g o e)⟩
theorem take_any (H : Lb b s w) (m : W.Mg) : Calls Try.prog 19 #[.pointer (some ⟨b, 0, none⟩), mgV m] w fun e w' => ∃ sl, e = .returned (.tuple #[slV sl, .bool (s.take m).2.2]) ∧ ResL b (s.take m).1 (s.take m).2.1 sl w w' := by
  have hba := below_alloc w (.cells (mgL m).toArray 33)
  have H1 := H.below hba
  have hm := msgAt_new w m
  have hld := hm.ld
  have hse : mgV m = .agg (mgL m).toArray := rfl
  have HB : Hid (_ ∧ _ ∧ _) := ⟨hba, H1, hm⟩
  clear H hba H1 hm
  unfold W.Lo.take
  by_cases hk : s.tk m = true
  · rw [if_pos hk]
    have HK : Hid (s.tk m = true) := hk
    clear hk
    by_cases h0 : s.st = 0
    · rw [if_pos h0]
      go_enter Try.func19, Try.ntmps19
      rw [hse]
      go_wp2_with (fail)
      clear hse
      generalize World.alloc w _ = W1 at *
      refine (takes_any HB.out.2.1 m).mono ?_
      rintro e w2 ⟨rfl, hb2⟩
      rw [HK.out]
      have HB2 : Hid (_ ∧ _ ∧ _) := ⟨HB.out.1.trans (hb2.mono HB.out.1.size), HB.out.2.1.below hb2, HB.out.2.2.below hb2⟩
      clear HB hb2 hld
      have hld := HB2.out.2.2.ld
      go_wp2_with (fail)
      refine (state_any HB2.out.2.1).mono ?_
      rintro e w3 ⟨rfl, rfl⟩
      go_wp2_with (fail)
      refine (tak_any HB2.out.2.1 m HK.out).mono ?_
      rintro e w4 ⟨sl, rfl, hR⟩
      have HR : Hid (ResL b (s.tak m).1 (s.tak m).2 sl w w4) := hR.from HB2.out.1
      clear hR HB2 hld HK
      go_wp2_with (fail)
      exact bodyPost_ret (v := .tuple #[slV sl, .bool false]) (by simp [results, Try.results19, asAddr, go_sem]) rfl ⟨sl, rfl, HR.out⟩
    · rw [if_neg h0]
      have q : (s.st != 0) = true := by simpa using h0
      clear h0
      by_cases h1 : (s.tak m).1.st = 0
      · rw [if_pos h1]
        have HH : Hid ((s.tak m).1.st = 0) := h1
        clear h1
        go_enter Try.func19, Try.ntmps19
        rw [hse]
        go_wp2_with (fail)
        clear hse
        generalize World.alloc w _ = W1 at *
        refine (takes_any HB.out.2.1 m).mono ?_
        rintro e w2 ⟨rfl, hb2⟩
        rw [HK.out]
        have HB2 : Hid (_ ∧ _ ∧ _) := ⟨HB.out.1.trans (hb2.mono HB.out.1.size), HB.out.2.1.below hb2, HB.out.2.2.below hb2⟩
        clear HB hb2 hld
        have hld := HB2.out.2.2.ld
        go_wp2_with (fail)
        refine (state_any HB2.out.2.1).mono ?_
        rintro e w3 ⟨rfl, rfl⟩
        go_wp2_with (fail)
        refine (tak_any HB2.out.2.1 m HK.out).mono ?_
        rintro e w4 ⟨sl, rfl, hR⟩
        have HR : Hid (ResL b (s.tak m).1 (s.tak m).2 sl w w4) := hR.from HB2.out.1
        clear hR HB2 hld HK
        go_wp2_with (fail)
        refine (state_any HR.out.2.1).mono ?_
        rintro e w5 ⟨rfl, rfl⟩
        rw [HH.out]
        go_wp2_with (fail)
        exact bodyPost_ret (v := .tuple #[slV sl, .bool true]) (by simp [results, Try.results19, asAddr, go_sem]) rfl ⟨sl, rfl, HR.out⟩
      · rw [if_neg h1]
        have q1 : ((s.tak m).1.st == 0) = false := by simpa using h1
        clear h1
        go_enter Try.func19, Try.ntmps19
        rw [hse]
        go_wp2_with (fail)
        clear hse
        generalize World.alloc w _ = W1 at *
        refine (takes_any HB.out.2.1 m).mono ?_
        rintro e w2 ⟨rfl, hb2⟩
        rw [HK.out]
        have HB2 : Hid (_ ∧ _ ∧ _) := ⟨HB.out.1.trans (hb2.mono HB.out.1.size), HB.out.2.1.below hb2, HB.out.2.2.below hb2⟩
        clear HB hb2 hld
        have hld := HB2.out.2.2.ld
        go_wp2_with (fail)
        refine (state_any HB2.out.2.1).mono ?_
        rintro e w3 ⟨rfl, rfl⟩
        go_wp2_with (fail)
        refine (tak_any HB2.out.2.1 m HK.out).mono ?_
        rintro e w4 ⟨sl, rfl, hR⟩
        have HR : Hid (ResL b (s.tak m).1 (s.tak m).2 sl w w4) := hR.from HB2.out.1
        clear hR HB2 hld HK
        go_wp2_with (fail)
        refine (state_any HR.out.2.1).mono ?_
        rintro e w5 ⟨rfl, rfl⟩
        go_wp2_with (fail)
        exact bodyPost_ret (v := .tuple #[slV sl, .bool false]) (by simp [results, Try.results19, asAddr, go_sem]) rfl ⟨sl, rfl, HR.out⟩
  · rw [if_neg hk]
    have HK : Hid (s.tk m = false) := (show s.tk m = false by simpa using hk)
    clear hk
    go_enter Try.func19, Try.ntmps19
    rw [hse]
    go_wp2_with (fail)
    clear hse
    generalize World.alloc w _ = W1 at *
    refine (takes_any HB.out.2.1 m).mono ?_
    rintro e w2 ⟨rfl, hb2⟩
    rw [HK.out]
    have HF : Hid (_) := resL_nil (HB.out.2.1.below hb2) ((Up.of_below HB.out.1 : Up b w _).lnew hb2)
    clear HB hb2 hld
    go_wp2_with (fail)
    exact bodyPost_ret (by simp [results, Try.results19, asAddr, go_sem]; rfl) rfl ⟨⟨none, 0, 0⟩, rfl, HF.out⟩

theorem ask_any (H : Lb b s w) (x : Bool) : Calls Try.prog 10 #[.pointer (some ⟨b, 0, none⟩), .bool x] w fun e w' => ∃ sl, e = .returned (.tuple #[slV sl, .bool (s.ask x).2.2]) ∧ ResL b (s.ask x).1 (s.ask x).2.1 sl w w' := by
  have c2 := H.c2
  have f2 := Rw.fz H 2
  have HH : Hid (Lb b s w) := H
  clear H
  unfold W.Lo.ask
  by_cases e : s.wt = 0
  · rw [e] at c2
    have HC : Hid (Calls _ _ _ _ _) := can_any HH.out x
    by_cases hc : s.can x = false
    · rw [if_pos ⟨e, hc⟩]
      rw [hc] at HC
      clear e hc
      go_enter Try.func10, Try.ntmps10
      go_wp2_with (fail)
      refine HC.out.mono ?_
      rintro e w2 ⟨rfl, rfl⟩
      clear HC
      cases x
      · go_wp2_with (fail)
        have HB2 : Hid (_ ∧ _) := ⟨HH.out.wt 1, Up.set b w 2 (.int .i64 1)⟩
        clear HH c2 f2
        generalize World.setCell w _ _ = W1 at *
        refine (msg_any HB2.out.1 1).mono ?_
        rintro e w3 ⟨rfl, hb3⟩
        have HF : Hid (_) := resL_one (HB2.out.1.below hb3) (HB2.out.2.lnew hb3) (s.msg 1)
        have bs := bsM_any (s.msg 1)
        have e1 : W.Lo.msg ⟨s.ln, s.ht, 1, s.hd, s.e0, s.e1, s.e2, s.e3⟩ 1 = s.msg 1 := rfl
        rw [e1]
        clear hb3 HB2 e1
        go_wp2_with (fail)
        exact bodyPost_ret (by simp [results, Try.results10, asAddr, go_sem]; rfl) rfl ⟨_, rfl, HF.out⟩
      · go_wp2_with (fail)
        have HB2 : Hid (_ ∧ _) := ⟨(HH.out.wt 1).wt 2, (Up.set b w 2 (.int .i64 1)).trans (Up.set b _ 2 (.int .i64 2))⟩
        clear HH c2 f2
        generalize World.setCell (World.setCell w _ _) _ _ = W1 at *
        refine (msg_any HB2.out.1 2).mono ?_
        rintro e w3 ⟨rfl, hb3⟩
        have HF : Hid (_) := resL_one (HB2.out.1.below hb3) (HB2.out.2.lnew hb3) (s.msg 2)
        have bs := bsM_any (s.msg 2)
        have e1 : W.Lo.msg ⟨s.ln, s.ht, 2, s.hd, s.e0, s.e1, s.e2, s.e3⟩ 2 = s.msg 2 := rfl
        rw [e1]
        clear hb3 HB2 e1
        go_wp2_with (fail)
        exact bodyPost_ret (by simp [results, Try.results10, asAddr, go_sem]; rfl) rfl ⟨_, rfl, HF.out⟩
    · rw [if_neg (fun h => hc h.2)]
      have hc' : s.can x = true := by simpa using hc
      rw [hc'] at HC
      clear e hc hc'
      go_enter Try.func10, Try.ntmps10
      go_wp2_with (fail)
      refine HC.out.mono ?_
      rintro e w2 ⟨rfl, rfl⟩
      clear HC
      go_wp2_with (fail)
      exact bodyPost_ret (by simp [results, Try.results10, asAddr, go_sem]; rfl) rfl ⟨⟨none, 0, 0⟩, rfl, resL_nil HH.out (Up.refl b w)⟩
  · rw [if_neg (fun h => e h.1)]
    have q : (s.wt != 0) = true := by simpa using e
    clear e
    go_enter Try.func10, Try.ntmps10
    go_wp2_with (fail)
    exact bodyPost_ret (by simp [results, Try.results10, asAddr, go_sem]; rfl) rfl ⟨⟨none, 0, 0⟩, rfl, resL_nil HH.out (Up.refl b w)⟩

theorem evict_any (H : Lb b s w) : Calls Try.prog 13 #[.pointer (some ⟨b, 0, none⟩)] w fun e w' => ∃ sl, e = .returned (.tuple #[slV sl, .bool s.evict.2.2]) ∧ ResL b s.evict.1 s.evict.2.1 sl w w' := by
  have c2 := H.c2
  have c3 := H.c3
  have f2 := Rw.fz H 2
  have HH : Hid (Lb b s w) := H
  clear H
  unfold W.Lo.evict
  have HC : Hid (Calls _ _ _ _ _) := can_any HH.out false
  by_cases hc : s.can false = true
  · rw [if_pos hc]
    rw [hc] at HC
    clear hc
    by_cases e : s.hd = 1
    · rw [if_pos e]
      rw [e] at c3
      clear e
      go_enter Try.func13, Try.ntmps13
      go_wp2_with (fail)
      refine HC.out.mono ?_
      rintro e w2 ⟨rfl, rfl⟩
      clear HC
      go_wp2_with (fail)
      refine (drop_any HH.out).mono ?_
      rintro e w2 ⟨rfl, hL2, hU2⟩
      have HF : Hid (_) := resL_nil hL2 hU2
      clear hL2 hU2 c2 c3 f2 HH
      go_wp2_with (fail)
      exact bodyPost_ret (by simp [results, Try.results13, asAddr, go_sem]; rfl) rfl ⟨⟨none, 0, 0⟩, rfl, HF.out⟩
    · rw [if_neg e]
      have q : (s.hd == 1) = false := by simpa using e
      clear e
      go_enter Try.func13, Try.ntmps13
      go_wp2_with (fail)
      refine HC.out.mono ?_
      rintro e w2 ⟨rfl, rfl⟩
      clear HC
      go_wp2_with (fail)
      have HB2 : Hid (_ ∧ _) := ⟨HH.out.wt 3, Up.set b w 2 (.int .i64 3)⟩
      clear HH c2 c3 f2
      generalize World.setCell w _ _ = W1 at *
      refine (tell_any HB2.out.1 3).mono ?_
      rintro e w3 ⟨rfl, hb3⟩
      have HF : Hid (_) := resL_one (HB2.out.1.below hb3) (HB2.out.2.lnew hb3) (s.tell 3)
      have bs := bsM_any (s.tell 3)
      have e1 : W.Lo.tell ⟨s.ln, s.ht, 3, s.hd, s.e0, s.e1, s.e2, s.e3⟩ 3 = s.tell 3 := rfl
      rw [e1]
      clear hb3 HB2 e1
      go_wp2_with (fail)
      exact bodyPost_ret (by simp [results, Try.results13, asAddr, go_sem]; rfl) rfl ⟨_, rfl, HF.out⟩
  · rw [if_neg hc]
    have hc' : s.can false = false := by simpa using hc
    rw [hc'] at HC
    clear hc hc'
    go_enter Try.func13, Try.ntmps13
    go_wp2_with (fail)
    refine HC.out.mono ?_
    rintro e w2 ⟨rfl, rfl⟩
    clear HC
    go_wp2_with (fail)
    exact bodyPost_ret (by simp [results, Try.results13, asAddr, go_sem]; rfl) rfl ⟨⟨none, 0, 0⟩, rfl, resL_nil HH.out (Up.refl b w)⟩

set_option maxHeartbeats 1600000 in
theorem set_any (H : Lb b s w) (x0 x1 x2 x3 : Int) : Calls Try.prog 16 #[.pointer (some ⟨b, 0, none⟩), .agg #[.int .u32 x0, .int .u32 x1, .int .u32 x2, .int .u32 x3]] w fun e w' => e = .returned (.bool (s.set x0 x1 x2 x3).2) ∧ Lb b (s.set x0 x1 x2 x3).1 w' ∧ Up b w w' := by
  have hba := below_alloc w (.cells #[.int .u32 x0, .int .u32 x1, .int .u32 x2, .int .u32 x3] 29)
  have la : Rw w.heap.size #[.int .u32 x0, .int .u32 x1, .int .u32 x2, .int .u32 x3] 29 (w.alloc (.cells #[.int .u32 x0, .int .u32 x1, .int .u32 x2, .int .u32 x3] 29)) := rw_new w _ _
  have HB : Hid (_ ∧ _ ∧ _) := ⟨hba, H.below hba, la⟩
  have hne : Hid (b ≠ w.heap.size) := (show b ≠ w.heap.size by have := H.lt; omega)
  clear hba la H
  unfold W.Lo.set
  by_cases hc : s.can true = true
  · rw [if_pos hc]
    have HC : Hid (s.can true = true) := hc
    clear hc
    go_enter Try.func16, Try.ntmps16
    go_wp2_with (fail)
    have HUP : Hid (Up b w _) := Up.of_below HB.out.1
    generalize World.alloc w _ = W1 at *
    refine (can_any HB.out.2.1 true).mono ?_
    rintro e w2 ⟨rfl, rfl⟩
    rw [HC.out]
    have hdw : Below W1.heap.size W1 W1.drew := (Below.refl _ _).drew
    have H5 := HB.out.2.1.below hdw
    have M5 := HB.out.2.2.below hdw
    have M6 := HB.out.2.2
    have a0 : W1.cell? ⟨w.heap.size, 0, none⟩ = some (.int .u32 x0) := M6.c 0 rfl
    have a1 : W1.cell? ⟨w.heap.size, 1, none⟩ = some (.int .u32 x1) := M6.c 1 rfl
    have a2 : W1.cell? ⟨w.heap.size, 2, none⟩ = some (.int .u32 x2) := M6.c 2 rfl
    have a3 : W1.cell? ⟨w.heap.size, 3, none⟩ = some (.int .u32 x3) := M6.c 3 rfl
    have c3 := HB.out.2.1.c3
    have c4 := HB.out.2.1.c4
    have c5 := HB.out.2.1.c5
    have c6 := HB.out.2.1.c6
    have c7 := HB.out.2.1.c7
    have f3 := Rw.fz HB.out.2.1 3
    have f4 := Rw.fz HB.out.2.1 4
    have f5 := Rw.fz HB.out.2.1 5
    have f6 := Rw.fz HB.out.2.1 6
    have f7 := Rw.fz HB.out.2.1 7
    have hne1 : b ≠ w.heap.size := hne.out
    have hne2 : w.heap.size ≠ b := fun e => hne.out e.symm
    have HF : Hid (_ ∧ _) := ⟨(H5.hd 4).dt x0 x1 x2 x3, ((HUP.out.lnew hdw).trans (Up.set b W1.drew 3 (.int .i64 4))).trans (Up.dt b 4 _ x0 x1 x2 x3)⟩
    unfold st4 at HF
    clear HB hdw H5 M5 M6
    go_wp2_with (fail)
    go_region
    all_goals
      go_wp2_with (fail)
      go_ret
      exact ⟨rfl, HF.out.1, HF.out.2⟩
  · rw [if_neg hc]
    have HC : Hid (s.can true = false) := (show s.can true = false by simpa using hc)
    clear hc
    go_enter Try.func16, Try.ntmps16
    go_wp2_with (fail)
    have HUP : Hid (Up b w _) := Up.of_below HB.out.1
    generalize World.alloc w _ = W1 at *
    refine (can_any HB.out.2.1 true).mono ?_
    rintro e w2 ⟨rfl, rfl⟩
    rw [HC.out]
    go_wp2_with (fail)
    go_ret
    exact ⟨rfl, HB.out.2.1, HUP.out⟩

end Go.Proofs.Ytogchippkenppaa
