/- net: Take, Head. -/
import Derived.Test.YtaioioilfanpeaaDoorNetO
namespace Go.Proofs.YtaioioilfanpeaaDoor
open Go.ChangeShapes Go.WideShapes Go.ChangeAt Go.RowKit
set_option linter.unusedVariables false
set_option linter.unusedSimpArgs false
attribute [local go_sem ↓] ldM_eq stM_eq bdM_eq
variable {n0 nb : Nat} {h : Int} {R R' : Nat → Int} {nx : Int} {fv fv' : Value} {L : List W.Fl} {w w' : World}

/-- A block of eleven cells of a message's. -/
def MsgRoom (b : Nat) (w : World) : Prop := ∃ Z : Array Value, Z.size = 11 ∧ w.heap[b]? = some (.cells Z 47)
theorem MsgRoom.below {b : Nat} (hm : MsgRoom b w) (hb : Below w.heap.size w w') : MsgRoom b w' := by
  obtain ⟨Z, h1, h2⟩ := hm
  exact ⟨Z, h1, (hb.block b (Array.getElem?_eq_some_iff.1 h2).1).trans h2⟩
theorem MsgRoom.lt {b : Nat} (hm : MsgRoom b w) : b < w.heap.size := by
  obtain ⟨Z, h1, h2⟩ := hm
  exact (Array.getElem?_eq_some_iff.1 h2).1
theorem MsgRoom.up {b : Nat} (hm : MsgRoom b w) (hu : Up nb fv fv' w w') (h1 : b ≠ nb) (h2 : fv.ownBlock ≠ some b) : MsgRoom b w' := by
  obtain ⟨Z, q1, q2⟩ := hm
  exact ⟨Z, q1, (hu.other (Array.getElem?_eq_some_iff.1 q2).1 h1 h2).1.trans q2⟩
theorem MsgRoom.st {b : Nat} (hm : MsgRoom b w) (m : W.Mg) : (stM ⟨b, 0, none⟩ (mgV m)).run Tryd.prog w = .ok () (w.setRow b (mgL m).toArray) := by
  obtain ⟨Z, q1, q2⟩ := hm
  exact run_storeVar_row w b 47 47 Z (mgL m).toArray q2 (by kernel_rfl) (by rw [q1]; rfl) (by simpa using oneM m)
theorem MsgRoom.set {b : Nat} (hm : MsgRoom b w) (m : W.Mg) : MsgAt b m (w.setRow b (mgL m).toArray) := by
  obtain ⟨Z, q1, q2⟩ := hm
  exact setRow_heap w b Z _ _ _ q2
theorem gsetRow (w : World) (b : Nat) (c : Array Value) : w.grownBy (w.setRow b c) (some b) := by
  refine ⟨rfl, rfl, rfl, by simp [World.setRow], fun g hb hne => setRow_other w b g c (fun e => hne (by rw [e]))⟩
theorem msgRoom_new (w : World) (Z : Array Value) (hz : Z.size = 11) : MsgRoom w.heap.size (w.alloc (.cells Z 47)) := ⟨Z, hz, heap_alloc_last w _⟩
theorem bdM_0 (w : World) : (bdM #[]).run Tryd.prog w = .ok (mgV W.mg0) w := by kernel_rfl

set_option maxRecDepth 10000 in
set_option maxHeartbeats 1600000 in
theorem take_miss (hL : L.length ≤ 16384) (hs : Rising L) (t : Int) (ht : ∀ f ∈ L, f.id ≠ t) (H : Nt n0 nb h R nx fv L w) :
    Calls Tryd.prog 15 #[.pointer (some ⟨nb, 0, none⟩), .int .i64 t] w fun e w' => e = .returned (.tuple #[mgV W.mg0, .bool false]) ∧ Below w.heap.size w w' := by
  have HH : Hid (Nt n0 nb h R nx fv L w) := H
  have bd := bdM_0
  clear H
  go_enter Tryd.func15, Tryd.ntmps15
  go_wp2_with (fail)
  have hba := below_alloc w (.cells #[.int .i64 0, .int .i64 0, .int .i64 0, .int .i64 0, .int .u32 0, .int .u32 0, .int .u32 0, .int .u32 0, .bool false, .bool false, .bool false] 47)
  have hrm := msgRoom_new w #[.int .i64 0, .int .i64 0, .int .i64 0, .int .i64 0, .int .u32 0, .int .u32 0, .int .u32 0, .int .u32 0, .bool false, .bool false, .bool false] rfl
  generalize World.alloc w _ = W0 at *
  refine (find_miss hL hs t ht (HH.out.below hba)).mono ?_
  rintro e w1 ⟨⟨k, rfl⟩, hb1⟩
  have hr1 := hrm.below hb1
  have hst := hr1.st W.mg0
  have hld := (hr1.set W.mg0).ld
  have hB : Below w.heap.size w (w1.setRow w.heap.size (mgL W.mg0).toArray) := (hba.trans (hb1.mono hba.size)).grown (gsetRow _ _ _) (Nat.le_trans hba.size hb1.size) (fun b e => by cases e; exact Nat.le_refl _)
  have HB : Hid (_) := hB
  clear hb1 hr1 hrm hba hB
  go_wp2
  exact bodyPost_ret (v := .tuple #[mgV W.mg0, .bool false]) (by simp [results, Tryd.results15, asAddr, ldM_eq, hld]) rfl ⟨rfl, HB.out⟩
set_option maxRecDepth 10000 in
set_option maxHeartbeats 1600000 in
theorem head_miss (hL : L.length ≤ 16384) (hs : Rising L) (t : Int) (ht : ∀ f ∈ L, f.id ≠ t) (H : Nt n0 nb h R nx fv L w) :
    Calls Tryd.prog 14 #[.pointer (some ⟨nb, 0, none⟩), .int .i64 t] w fun e w' => e = .returned (.tuple #[mgV W.mg0, .bool false]) ∧ Below w.heap.size w w' := by
  have HH : Hid (Nt n0 nb h R nx fv L w) := H
  have bd := bdM_0
  clear H
  go_enter Tryd.func14, Tryd.ntmps14
  go_wp2_with (fail)
  have hba := below_alloc w (.cells #[.int .i64 0, .int .i64 0, .int .i64 0, .int .i64 0, .int .u32 0, .int .u32 0, .int .u32 0, .int .u32 0, .bool false, .bool false, .bool false] 47)
  have hrm := msgRoom_new w #[.int .i64 0, .int .i64 0, .int .i64 0, .int .i64 0, .int .u32 0, .int .u32 0, .int .u32 0, .int .u32 0, .bool false, .bool false, .bool false] rfl
  generalize World.alloc w _ = W0 at *
  refine (find_miss hL hs t ht (HH.out.below hba)).mono ?_
  rintro e w1 ⟨⟨k, rfl⟩, hb1⟩
  have hr1 := hrm.below hb1
  have hst := hr1.st W.mg0
  have hld := (hr1.set W.mg0).ld
  have hB : Below w.heap.size w (w1.setRow w.heap.size (mgL W.mg0).toArray) := (hba.trans (hb1.mono hba.size)).grown (gsetRow _ _ _) (Nat.le_trans hba.size hb1.size) (fun b e => by cases e; exact Nat.le_refl _)
  have HB : Hid (_) := hB
  clear hb1 hr1 hrm hba hB
  go_wp2
  exact bodyPost_ret (v := .tuple #[mgV W.mg0, .bool false]) (by simp [results, Tryd.results14, asAddr, ldM_eq, hld]) rfl ⟨rfl, HB.out⟩

theorem fl_mid (L1 L2 : List W.Fl) (f : W.Fl) : (L1 ++ f :: L2)[L1.length]? = some f := by
  rw [List.getElem?_append_right (Nat.le_refl _)]
  simp
theorem range_msg {b o : Nat} {f : W.Fl} (hr : w.rangeAt b o (flL f)) : w.rangeAt b (o + 1) (mgL f.m) := fun j v hv => by
  have := hr (j + 1) v (by unfold flL; simpa using hv)
  rw [show o + (j + 1) = o + 1 + j by omega] at this
  exact this

set_option maxRecDepth 10000 in
set_option maxHeartbeats 1600000 in
theorem head_hit (L1 L2 : List W.Fl) (f : W.Fl) (hL : (L1 ++ f :: L2).length ≤ 16384) (hs : Rising (L1 ++ f :: L2)) (H : Nt n0 nb h R nx fv (L1 ++ f :: L2) w) :
    Calls Tryd.prog 14 #[.pointer (some ⟨nb, 0, none⟩), .int .i64 f.id] w fun e w' => e = .returned (.tuple #[mgV f.m, .bool true]) ∧ Below w.heap.size w w' := by
  have HH : Hid (Nt n0 nb h R nx fv (L1 ++ f :: L2) w) := H
  obtain ⟨g, a, cap, rfl, hcap, hlt, hr⟩ := H.form
  have hn : (L1 ++ f :: L2).length = L1.length + 1 + L2.length := by simp; omega
  obtain ⟨rfl, hg⟩ := hlt (by omega)
  have HR : Hid (_) := range_msg (hr L1.length f (fl_mid L1 L2 f))
  have HF : Hid (∀ W, Nt n0 nb h R nx (.slice (some ⟨g, 0, none⟩) (L1 ++ f :: L2).length cap) (L1 ++ f :: L2) W → Calls Tryd.prog 33 #[.pointer (some ⟨nb, 0, none⟩), .int .i64 f.id] W fun e w' => e = .returned (.tuple #[.int .i64 L1.length, .bool true]) ∧ Below W.heap.size W w') := fun W HW => find_hit hL hs L1.length f (fl_mid L1 L2 f) HW
  clear H hr hs hlt
  generalize hi : L1.length = i at *
  generalize hnn : (L1 ++ f :: L2).length = n at *
  have hin : (i : Int) < n := by omega
  clear hn hi hnn
  go_enter Tryd.func14, Tryd.ntmps14
  go_wp2_with (fail)
  have hba := below_alloc w (.cells #[.int .i64 0, .int .i64 0, .int .i64 0, .int .i64 0, .int .u32 0, .int .u32 0, .int .u32 0, .int .u32 0, .bool false, .bool false, .bool false] 47)
  have hrm := msgRoom_new w #[.int .i64 0, .int .i64 0, .int .i64 0, .int .i64 0, .int .u32 0, .int .u32 0, .int .u32 0, .int .u32 0, .bool false, .bool false, .bool false] rfl
  generalize World.alloc w _ = W0 at *
  refine (HF.out _ (HH.out.below hba)).mono ?_
  rintro e w1 ⟨rfl, hb1⟩
  have hb01 := hba.trans (hb1.mono hba.size)
  have hr1 := hrm.below hb1
  have hst := hr1.st f.m
  have hld := (hr1.set f.m).ld
  have cF := (HH.out.below hb01).cF
  have lm := ldM_at (range_below HR.out hb01 hg)
  have hB : Below w.heap.size w (w1.setRow w.heap.size (mgL f.m).toArray) := hb01.grown (gsetRow _ _ _) (Nat.le_trans hba.size hb1.size) (fun b e => by cases e; exact Nat.le_refl _)
  have HB : Hid (_) := hB
  clear hb1 hr1 hrm hba hB hb01
  go_wp2
  exact bodyPost_ret (v := .tuple #[mgV f.m, .bool true]) (by simp [results, Tryd.results14, asAddr, ldM_eq, hld]) rfl ⟨rfl, HB.out⟩
theorem MsgAt.cAt {b : Nat} {m : W.Mg} (hm : MsgAt b m w) (j : Nat) (hj : j < 11) : w.cell? ⟨b, j, none⟩ = (mgL m)[j]? := by
  rw [cell_of_row _ _ j _ 47 (0, 0) hm]
  simp
/-- Behind a turn of the flights' row and the value stored. -/
theorem Nt.app2 {L' : List W.Fl} (H : Nt n0 nb h R nx fv L w) (hg : w.grownBy w' fv.ownBlock) (ho : w'.ownsRow n0 66 12 fv' L'.length (flX L')) (hat : fv'.ownBlock = fv.ownBlock) :
    Nt n0 nb h R nx fv' L' (w'.setCell ⟨nb, 14, none⟩ fv') ∧ Up nb fv fv' w (w'.setCell ⟨nb, 14, none⟩ fv') := by
  have hne : fv'.ownBlock ≠ some nb := fun e => H.ne (hat ▸ e)
  refine ⟨⟨((H.b.grown hg (fun e => H.ne e.symm)).set 14 fv').congr fun j hj => ?_, ?_, hne, H.n0⟩, ⟨?_, Or.inl hat⟩⟩
  · unfold updV ntF
    by_cases e : j = 14
    · subst e; rfl
    · rw [if_neg e]
      by_cases e0 : j = 0
      · rw [if_pos e0, if_pos e0]
      · rw [if_neg e0, if_neg e0]
        by_cases e1 : j < 13
        · rw [if_pos e1, if_pos e1]
        · rw [if_neg e1, if_neg e1, if_pos (by omega), if_pos (by omega)]
  · exact ho.kept (gsetCell w' nb 14 _) (by cases e : fv'.ownBlock with | none => exact Or.inl rfl | some b => exact Or.inr (fun q => hne (by rw [e]; exact q)))
  · exact (Gs.of_grown hg (fun b e => Or.inr e)).trans (Gs.of_grown (gsetCell w' nb 14 _) (fun b e => Or.inl (by cases e; rfl)))

set_option maxRecDepth 10000 in
set_option maxHeartbeats 1600000 in
theorem take_hit (L1 L2 : List W.Fl) (f : W.Fl) (hL : (L1 ++ f :: L2).length ≤ 16384) (hs : Rising (L1 ++ f :: L2)) (h4 : h ≤ 4) (hE : W.endB h f.m.f f.m.t (W.cls f.m.k) = true) (x0 : 0 ≤ R (W.lk h f.m)) (x1 : R (W.lk h f.m) ≤ 1000000) (H : Nt n0 nb h R nx fv (L1 ++ f :: L2) w) :
    Calls Tryd.prog 15 #[.pointer (some ⟨nb, 0, none⟩), .int .i64 f.id] w fun e w' => e = .returned (.tuple #[mgV f.m, .bool true]) ∧ ∃ fv', Nt n0 nb h (updI R (W.lk h f.m) (R (W.lk h f.m) + 1)) nx fv' (L1 ++ L2) w' ∧ Up nb fv fv' w w' := by
  have HH : Hid (Nt n0 nb h R nx fv (L1 ++ f :: L2) w) := H
  obtain ⟨g, a, cap, rfl, hcap, hlt, hr⟩ := H.form
  have hn : (L1 ++ f :: L2).length = L1.length + 1 + L2.length := by simp; omega
  obtain ⟨rfl, hg⟩ := hlt (by omega)
  have HR : Hid (_) := range_msg (hr L1.length f (fl_mid L1 L2 f))
  have HF : Hid (∀ W, Nt n0 nb h R nx (.slice (some ⟨g, 0, none⟩) (L1 ++ f :: L2).length cap) (L1 ++ f :: L2) W → Calls Tryd.prog 33 #[.pointer (some ⟨nb, 0, none⟩), .int .i64 f.id] W fun e w' => e = .returned (.tuple #[.int .i64 L1.length, .bool true]) ∧ Below W.heap.size W w') := fun W HW => find_hit hL hs L1.length f (fl_mid L1 L2 f) HW
  have hcm : cap ≤ maxLen := by
    rcases H.o.2 with ⟨h1, h2⟩ | ⟨g', cap', cur, h1, hbg, hg, hnc, hcm, hcs, htk⟩
    · cases h1
    · cases h1; exact hcm
  have hgn : g ≠ nb := fun e => H.ne (by rw [e]; rfl)
  have hng : n0 ≤ g := (H.fb g rfl).1
  have HD : Hid (∀ W : World, Nt n0 nb h R nx (.slice (some ⟨g, 0, none⟩) (L1 ++ f :: L2).length cap) (L1 ++ f :: L2) W → Calls Tryd.prog 34 #[.slice (some ⟨g, 0, none⟩) (L1 ++ f :: L2).length cap, .int .i64 L1.length, .int .i64 ((L1.length : Int) + 1)] W fun e w' => e = .returned (.slice (some ⟨g, 0, none⟩) ((L1 ++ f :: L2).length - 1) cap) ∧ w'.ownsRow n0 66 12 (.slice (some ⟨g, 0, none⟩) ((L1 ++ f :: L2).length - 1) cap) ((L1 ++ f :: L2).length - 1) (flX (L1 ++ L2)) ∧ W.grownBy w' (some g)) := fun W HW =>
    delete_any n0 g cap L1.length (L1 ++ f :: L2).length L1 L2 f rfl hn.symm hL hcap hcm W HW.o
  have HN : Hid ((L1 ++ f :: L2).length - 1 = (L1 ++ L2).length) := by show (L1 ++ f :: L2).length - 1 = (L1 ++ L2).length; rw [hn, List.length_append]; omega
  have hrg := W.endH_rg _ _ _ _ hE
  have hc3 := W.endB_c _ _ _ _ hE
  have hk12 := W.lk_lt h h4 f.m hE
  obtain ⟨c, hc⟩ : ∃ c : Nat, W.cls f.m.k = (c : Int) := ⟨(W.cls f.m.k).toNat, by omega⟩
  obtain ⟨k, hk⟩ : ∃ k : Nat, W.endH h f.m.f f.m.t (W.cls f.m.k) = (k : Int) := ⟨(W.endH h f.m.f f.m.t (W.cls f.m.k)).toNat, by omega⟩
  have hlk : W.lk h f.m = c * 4 + k := by
    unfold W.lk
    rw [hk, hc]
    simp
  have c3 : (c : Int) < 3 := by omega
  have k4 : (k : Int) < 4 := by omega
  have HC : Hid (W.cls f.m.k = (c : Int) ∧ W.endB h f.m.f f.m.t (c : Int) = true ∧ W.endH h f.m.f f.m.t (c : Int) = (k : Int)) := ⟨hc, by rw [← hc]; exact hE, by rw [← hc]; exact hk⟩
  rw [hlk] at x0 x1 hk12 ⊢
  generalize hx : R (c * 4 + k) = x at *
  have HX : Hid (R (c * 4 + k) = x) := hx
  clear H hr hs hlt hcm hrg hc3 hc hk hlk hE hx
  generalize hi : L1.length = i at *
  generalize hnn : (L1 ++ f :: L2).length = n at *
  have hin : (i : Int) < n := by omega
  clear hn hi hnn
  go_enter Tryd.func15, Tryd.ntmps15
  go_wp2_with (fail)
  have hba := below_alloc w (.cells #[.int .i64 0, .int .i64 0, .int .i64 0, .int .i64 0, .int .u32 0, .int .u32 0, .int .u32 0, .int .u32 0, .bool false, .bool false, .bool false] 47)
  have hrm := msgRoom_new w #[.int .i64 0, .int .i64 0, .int .i64 0, .int .i64 0, .int .u32 0, .int .u32 0, .int .u32 0, .int .u32 0, .bool false, .bool false, .bool false] rfl
  have nbl := HH.out.b.lt
  have HW : Hid (nb < w.heap.size ∧ g < w.heap.size) := ⟨nbl, hg⟩
  generalize hrb : w.heap.size = rb at *
  generalize World.alloc w _ = W0 at *
  refine (HF.out _ (HH.out.below (hrb.symm ▸ hba))).mono ?_
  rintro e w1 ⟨rfl, hb1⟩
  have hb01 : Below rb w w1 := hba.trans (hb1.mono (Nat.le_of_lt hrm.lt))
  have hN1 := HH.out.below (hrb.symm ▸ hb01)
  have hr1 := hrm.below hb1
  have cF := hN1.cF
  have lm := ldM_at (range_below HR.out (hrb.symm ▸ hb01) (hrb.symm ▸ hg))
  have sn := stM_new w1 f.m
  have hba1 := below_alloc w1 (.cells (mgL f.m).toArray 47)
  have hM1 := msgAt_new w1 f.m
  have hrl := hr1.lt
  have HQ : Hid (_ ∧ _ ∧ _ ∧ _) := ⟨hN1.below hba1, hr1.below hba1, hM1, hb01.trans (hba1.mono (Nat.le_of_lt hrl))⟩
  have cF2 := (hN1.below hba1).cF
  clear hb1 hb01 hN1 hr1 hba1 hM1 hba hrm
  go_wp2_with (fail)
  clear sn lm cF
  generalize hmb : w1.heap.size = mb at *
  generalize World.alloc w1 _ = W2 at *
  refine (HD.out W2 HQ.out.1).mono ?_
  rintro e w3 ⟨rfl, ho3, hg3⟩
  have hnm : nb ≠ mb := by omega
  have hgm : g ≠ mb := by omega
  have B3 := HQ.out.1.b.grown hg3 (by simp; omega)
  have c14 : w3.cell? ⟨nb, 14, none⟩ = some (.slice (some ⟨g, 0, none⟩) n cap) := B3.c 14 (by decide)
  have f14 := B3.fz 14
  rw [HN.out] at ho3
  have hA := HQ.out.1.app2 hg3 ho3 (by simp [Value.ownBlock])
  rw [← HN.out] at hA
  have hM3 := (HQ.out.2.2.1.up hA.2 hnm.symm (by simp [Value.ownBlock]; omega))
  have hr3 := (HQ.out.2.1.up hA.2 (by omega) (by simp [Value.ownBlock]; omega))
  have m0 := hM3.cAt 0 (by decide)
  have m2 := hM3.cAt 2 (by decide)
  have m3 := hM3.cAt 3 (by decide)
  simp only [mgL, List.getElem?_cons_zero, List.getElem?_cons_succ] at m0 m2 m3
  have HP : Hid (_ ∧ _ ∧ _ ∧ _) := ⟨hA.1, hM3, hr3, hA.2⟩
  have hrw : rb < W2.heap.size := HQ.out.2.1.lt
  have HB : Hid (Up nb (.slice (some ⟨g, 0, none⟩) n cap) (.slice (some ⟨g, 0, none⟩) n cap) w W2) := Up.of_below (hrb.symm ▸ HQ.out.2.2.2)
  clear hA hM3 hr3 B3 hg3 ho3 HQ cF2
  go_wp2_with (fail)
  clear c14 f14
  generalize World.setCell w3 _ _ = W4 at *
  refine (class_any f.m.k W4).mono ?_
  rintro e w' ⟨rfl, rfl⟩
  rw [HC.out.1]
  go_wp2_with (fail)
  refine (end_any nb h f.m.f f.m.t c W4 HP.out.1.c0).mono ?_
  rintro e w' ⟨rfl, rfl⟩
  rw [HC.out.2.1, HC.out.2.2]
  have cx := HP.out.1.cR (c * 4 + k) hk12
  rw [HX.out, ← Nat.add_assoc] at cx
  have fx := HP.out.1.b.fz (1 + c * 4 + k)
  have N5 := HP.out.1.setOne (c * 4 + k) hk12 (x + 1)
  rw [← Nat.add_assoc] at N5
  have hr5 := (HP.out.2.2.1.up N5.2 (by omega) (by simp [Value.ownBlock]; omega)).below (Below.refl _ _).drew
  have ld5 := ((HP.out.2.1.up N5.2 (by omega) (by simp [Value.ownBlock]; omega)).below (Below.refl _ _).drew).ld
  have st5 := hr5.st f.m
  have ld6 := (hr5.set f.m).ld
  have hup := (HB.out.trans HP.out.2.2.2).trans N5.2
  have hgr := gsetRow (w := (W4.setCell ⟨nb, 1 + c * 4 + k, none⟩ (.int .i64 (x + 1))).drew) rb (mgL f.m).toArray
  have hgs : Gs (fun b => b = rb) (W4.setCell ⟨nb, 1 + c * 4 + k, none⟩ (.int .i64 (x + 1))).drew ((W4.setCell ⟨nb, 1 + c * 4 + k, none⟩ (.int .i64 (x + 1))).drew.setRow rb (mgL f.m).toArray) := Gs.of_grown hgr (fun b e => by cases e; rfl)
  have N6 := (N5.1.below (Below.refl _ _).drew).apart hgs (by show ¬ nb = rb; omega) (fun b e => by cases e; show ¬ g = rb; omega)
  have hup6 : Up nb (.slice (some ⟨g, 0, none⟩) n cap) (.slice (some ⟨g, 0, none⟩) (n - 1) cap) w ((W4.setCell ⟨nb, 1 + c * 4 + k, none⟩ (.int .i64 (x + 1))).drew.setRow rb (mgL f.m).toArray) := by
    refine ⟨⟨(hgr.os.trans rfl).trans hup.g.os, (hgr.tape.trans rfl).trans hup.g.tape, (hgr.output.trans rfl).trans hup.g.output, Nat.le_trans hup.g.size hgr.size, fun b hb hn => ?_⟩, Or.inl rfl⟩
    exact (hgr.block b (Nat.lt_of_lt_of_le hb hup.g.size) (by intro e; cases e; omega)).trans (hup.g.block b hb hn)
  have HZ : Hid (_ ∧ _) := ⟨N6, hup6⟩
  clear N5 N6 hup hup6 hgs hgr hr5 HP HB
  go_wp2_with (fail)
  go_region
  all_goals
    go_wp2
    exact bodyPost_ret (v := .tuple #[mgV f.m, .bool true]) (by simp [results, Tryd.results15, asAddr, ldM_eq, ld6]) rfl ⟨rfl, _, HZ.out.1, HZ.out.2⟩
end Go.Proofs.YtaioioilfanpeaaDoor
