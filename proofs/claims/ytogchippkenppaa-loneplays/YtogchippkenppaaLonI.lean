/- lone: the document's line: full, Evict, Takes (made by mkI.py). -/
import Derived.Test.YtogchippkenppaaLonH
namespace Go.Proofs.Ytogchippkenppaa
open Go.ChangeShapes Go.WideShapes Go.ChangeAt Go.RowKit
set_option linter.unusedVariables false
set_option linter.unusedSimpArgs false
attribute [local go_sem ↓] ldM_eq stM_eq bdM_eq bsM_eq
variable {b : Nat} {s s' : W.Ld} {w w' w'' w2 : World}

theorem dfull_3 (H : Db b s w) (k t : Int)  : Calls Try.prog 30 #[.pointer (some ⟨b, 0, none⟩), .int .i64 k, .int .i64 3] w fun e w' => e = .returned (mgV (⟨k, s.ln, s.ht, -1, s.e0, s.e1, s.e2, s.e3, true, true, false⟩ : W.Mg)) ∧ Below w.heap.size w w' := by
  have hl := H.lt
  have hb1 := below_alloc w (.cells z11 33)
  have hr := msgRoom_new w z11 rfl
  have HZ : Hid (_ ∧ _ ∧ _) := ⟨hb1, hr, H.below hb1⟩
  clear H hb1 hr
  go_enter Try.func30, Try.ntmps30
  go_wp2_with (fail)
  generalize World.alloc w _ = W1 at *
  refine (dmsg_any HZ.out.2.2 k).mono ?_
  rintro e w2 ⟨rfl, hb2⟩
  have hst : (stM ⟨w2.heap.size, 0, none⟩ (mgV (s.msg k))).run Try.prog (w2.alloc (.cells z11 33)) = .ok () (w2.alloc (.cells #[.int .i64 k, .int .i64 s.ln, .int .i64 s.ht, .int .i64 (-1), .int .u32 0, .int .u32 0, .int .u32 0, .int .u32 0, .bool false, .bool false, .bool false] 33)) := stM_new w2 (s.msg k) z11 rfl
  have hb3 : ∀ o, Below W1.heap.size W1 (w2.alloc o) := fun o => hb2.trans ((below_alloc w2 o).mono hb2.size)
  have hL : ∀ o, Db b s (w2.alloc o) := fun o => HZ.out.2.2.below (hb3 o)
  have hz2 : b < w2.heap.size := Nat.lt_of_lt_of_le HZ.out.2.2.lt hb2.size
  have c4 := fun o => (hL o).c4
  have c5 := fun o => (hL o).c5
  have c6 := fun o => (hL o).c6
  have c7 := fun o => (hL o).c7
  have hr5 := HZ.out.2.1.below (hb3 (.cells #[.int .i64 k, .int .i64 s.ln, .int .i64 s.ht, .int .i64 (-1), .int .u32 s.e0, .int .u32 s.e1, .int .u32 s.e2, .int .u32 s.e3, .bool true, .bool true, .bool false] 33))
  have hst5 := hr5.st (⟨k, s.ln, s.ht, -1, s.e0, s.e1, s.e2, s.e3, true, true, false⟩ : W.Mg)
  have hld5 := (hr5.set (⟨k, s.ln, s.ht, -1, s.e0, s.e1, s.e2, s.e3, true, true, false⟩ : W.Mg)).ld
  have hB := (HZ.out.1.trans ((hb3 (.cells #[.int .i64 k, .int .i64 s.ln, .int .i64 s.ht, .int .i64 (-1), .int .u32 s.e0, .int .u32 s.e1, .int .u32 s.e2, .int .u32 s.e3, .bool true, .bool true, .bool false] 33)).mono HZ.out.1.size)).grown (gsetRow _ w.heap.size (mgL (⟨k, s.ln, s.ht, -1, s.e0, s.e1, s.e2, s.e3, true, true, false⟩ : W.Mg)).toArray) (Nat.le_trans HZ.out.1.size (hb3 _).size) (fun b e => by cases e; omega)
  have hld : (ldM ⟨w2.heap.size, 0, none⟩).run Try.prog (w2.alloc (.cells #[.int .i64 k, .int .i64 s.ln, .int .i64 s.ht, .int .i64 (-1), .int .u32 s.e0, .int .u32 s.e1, .int .u32 s.e2, .int .u32 s.e3, .bool true, .bool true, .bool false] 33)) = .ok (mgV (⟨k, s.ln, s.ht, -1, s.e0, s.e1, s.e2, s.e3, true, true, false⟩ : W.Mg)) (w2.alloc (.cells #[.int .i64 k, .int .i64 s.ln, .int .i64 s.ht, .int .i64 (-1), .int .u32 s.e0, .int .u32 s.e1, .int .u32 s.e2, .int .u32 s.e3, .bool true, .bool true, .bool false] 33)) := (msgAt_new w2 (⟨k, s.ln, s.ht, -1, s.e0, s.e1, s.e2, s.e3, true, true, false⟩ : W.Mg)).ld
  have HB : Hid (_) := hB
  clear hb3 hL hb2 HZ hB hr5
  generalize hMM : (⟨k, s.ln, s.ht, -1, s.e0, s.e1, s.e2, s.e3, true, true, false⟩ : W.Mg) = M at *
  have HM : Hid ((⟨k, s.ln, s.ht, -1, s.e0, s.e1, s.e2, s.e3, true, true, false⟩ : W.Mg) = M) := hMM
  clear hMM
  go_wp2_with (fail)
  exact bodyPost_ret (v := mgV M) (by simp [results, Try.results30, asAddr, ldM_eq, hld5]) rfl ⟨by rw [HM.out], HB.out⟩

theorem dfull_4 (H : Db b s w) (k t : Int)  : Calls Try.prog 30 #[.pointer (some ⟨b, 0, none⟩), .int .i64 k, .int .i64 4] w fun e w' => e = .returned (mgV (⟨k, s.ln, s.ht, -1, s.e0, s.e1, s.e2, s.e3, true, true, false⟩ : W.Mg)) ∧ Below w.heap.size w w' := by
  have hl := H.lt
  have hb1 := below_alloc w (.cells z11 33)
  have hr := msgRoom_new w z11 rfl
  have HZ : Hid (_ ∧ _ ∧ _) := ⟨hb1, hr, H.below hb1⟩
  clear H hb1 hr
  go_enter Try.func30, Try.ntmps30
  go_wp2_with (fail)
  generalize World.alloc w _ = W1 at *
  refine (dmsg_any HZ.out.2.2 k).mono ?_
  rintro e w2 ⟨rfl, hb2⟩
  have hst : (stM ⟨w2.heap.size, 0, none⟩ (mgV (s.msg k))).run Try.prog (w2.alloc (.cells z11 33)) = .ok () (w2.alloc (.cells #[.int .i64 k, .int .i64 s.ln, .int .i64 s.ht, .int .i64 (-1), .int .u32 0, .int .u32 0, .int .u32 0, .int .u32 0, .bool false, .bool false, .bool false] 33)) := stM_new w2 (s.msg k) z11 rfl
  have hb3 : ∀ o, Below W1.heap.size W1 (w2.alloc o) := fun o => hb2.trans ((below_alloc w2 o).mono hb2.size)
  have hL : ∀ o, Db b s (w2.alloc o) := fun o => HZ.out.2.2.below (hb3 o)
  have hz2 : b < w2.heap.size := Nat.lt_of_lt_of_le HZ.out.2.2.lt hb2.size
  have c4 := fun o => (hL o).c4
  have c5 := fun o => (hL o).c5
  have c6 := fun o => (hL o).c6
  have c7 := fun o => (hL o).c7
  have hr5 := HZ.out.2.1.below (hb3 (.cells #[.int .i64 k, .int .i64 s.ln, .int .i64 s.ht, .int .i64 (-1), .int .u32 s.e0, .int .u32 s.e1, .int .u32 s.e2, .int .u32 s.e3, .bool true, .bool true, .bool false] 33))
  have hst5 := hr5.st (⟨k, s.ln, s.ht, -1, s.e0, s.e1, s.e2, s.e3, true, true, false⟩ : W.Mg)
  have hld5 := (hr5.set (⟨k, s.ln, s.ht, -1, s.e0, s.e1, s.e2, s.e3, true, true, false⟩ : W.Mg)).ld
  have hB := (HZ.out.1.trans ((hb3 (.cells #[.int .i64 k, .int .i64 s.ln, .int .i64 s.ht, .int .i64 (-1), .int .u32 s.e0, .int .u32 s.e1, .int .u32 s.e2, .int .u32 s.e3, .bool true, .bool true, .bool false] 33)).mono HZ.out.1.size)).grown (gsetRow _ w.heap.size (mgL (⟨k, s.ln, s.ht, -1, s.e0, s.e1, s.e2, s.e3, true, true, false⟩ : W.Mg)).toArray) (Nat.le_trans HZ.out.1.size (hb3 _).size) (fun b e => by cases e; omega)
  have hld : (ldM ⟨w2.heap.size, 0, none⟩).run Try.prog (w2.alloc (.cells #[.int .i64 k, .int .i64 s.ln, .int .i64 s.ht, .int .i64 (-1), .int .u32 s.e0, .int .u32 s.e1, .int .u32 s.e2, .int .u32 s.e3, .bool true, .bool true, .bool false] 33)) = .ok (mgV (⟨k, s.ln, s.ht, -1, s.e0, s.e1, s.e2, s.e3, true, true, false⟩ : W.Mg)) (w2.alloc (.cells #[.int .i64 k, .int .i64 s.ln, .int .i64 s.ht, .int .i64 (-1), .int .u32 s.e0, .int .u32 s.e1, .int .u32 s.e2, .int .u32 s.e3, .bool true, .bool true, .bool false] 33)) := (msgAt_new w2 (⟨k, s.ln, s.ht, -1, s.e0, s.e1, s.e2, s.e3, true, true, false⟩ : W.Mg)).ld
  have HB : Hid (_) := hB
  clear hb3 hL hb2 HZ hB hr5
  generalize hMM : (⟨k, s.ln, s.ht, -1, s.e0, s.e1, s.e2, s.e3, true, true, false⟩ : W.Mg) = M at *
  have HM : Hid ((⟨k, s.ln, s.ht, -1, s.e0, s.e1, s.e2, s.e3, true, true, false⟩ : W.Mg) = M) := hMM
  clear hMM
  go_wp2_with (fail)
  exact bodyPost_ret (v := mgV M) (by simp [results, Try.results30, asAddr, ldM_eq, hld5]) rfl ⟨by rw [HM.out], HB.out⟩

theorem dfull_x (H : Db b s w) (k t : Int) (h3 : t ≠ 3) (h4 : t ≠ 4) : Calls Try.prog 30 #[.pointer (some ⟨b, 0, none⟩), .int .i64 k, .int .i64 t] w fun e w' => e = .returned (mgV (⟨k, s.ln, s.ht, -1, s.e0, s.e1, s.e2, s.e3, true, false, false⟩ : W.Mg)) ∧ Below w.heap.size w w' := by
  have hl := H.lt
  have hb1 := below_alloc w (.cells z11 33)
  have hr := msgRoom_new w z11 rfl
  have HZ : Hid (_ ∧ _ ∧ _) := ⟨hb1, hr, H.below hb1⟩
  clear H hb1 hr
  have q3 : (t == 3) = false := by simpa using h3
  have q4 : (t == 4) = false := by simpa using h4
  clear h3 h4
  go_enter Try.func30, Try.ntmps30
  go_wp2_with (fail)
  generalize World.alloc w _ = W1 at *
  refine (dmsg_any HZ.out.2.2 k).mono ?_
  rintro e w2 ⟨rfl, hb2⟩
  have hst : (stM ⟨w2.heap.size, 0, none⟩ (mgV (s.msg k))).run Try.prog (w2.alloc (.cells z11 33)) = .ok () (w2.alloc (.cells #[.int .i64 k, .int .i64 s.ln, .int .i64 s.ht, .int .i64 (-1), .int .u32 0, .int .u32 0, .int .u32 0, .int .u32 0, .bool false, .bool false, .bool false] 33)) := stM_new w2 (s.msg k) z11 rfl
  have hb3 : ∀ o, Below W1.heap.size W1 (w2.alloc o) := fun o => hb2.trans ((below_alloc w2 o).mono hb2.size)
  have hL : ∀ o, Db b s (w2.alloc o) := fun o => HZ.out.2.2.below (hb3 o)
  have hz2 : b < w2.heap.size := Nat.lt_of_lt_of_le HZ.out.2.2.lt hb2.size
  have c4 := fun o => (hL o).c4
  have c5 := fun o => (hL o).c5
  have c6 := fun o => (hL o).c6
  have c7 := fun o => (hL o).c7
  have hr5 := HZ.out.2.1.below (hb3 (.cells #[.int .i64 k, .int .i64 s.ln, .int .i64 s.ht, .int .i64 (-1), .int .u32 s.e0, .int .u32 s.e1, .int .u32 s.e2, .int .u32 s.e3, .bool true, .bool false, .bool false] 33))
  have hst5 := hr5.st (⟨k, s.ln, s.ht, -1, s.e0, s.e1, s.e2, s.e3, true, false, false⟩ : W.Mg)
  have hld5 := (hr5.set (⟨k, s.ln, s.ht, -1, s.e0, s.e1, s.e2, s.e3, true, false, false⟩ : W.Mg)).ld
  have hB := (HZ.out.1.trans ((hb3 (.cells #[.int .i64 k, .int .i64 s.ln, .int .i64 s.ht, .int .i64 (-1), .int .u32 s.e0, .int .u32 s.e1, .int .u32 s.e2, .int .u32 s.e3, .bool true, .bool false, .bool false] 33)).mono HZ.out.1.size)).grown (gsetRow _ w.heap.size (mgL (⟨k, s.ln, s.ht, -1, s.e0, s.e1, s.e2, s.e3, true, false, false⟩ : W.Mg)).toArray) (Nat.le_trans HZ.out.1.size (hb3 _).size) (fun b e => by cases e; omega)
  have hld : (ldM ⟨w2.heap.size, 0, none⟩).run Try.prog (w2.alloc (.cells #[.int .i64 k, .int .i64 s.ln, .int .i64 s.ht, .int .i64 (-1), .int .u32 s.e0, .int .u32 s.e1, .int .u32 s.e2, .int .u32 s.e3, .bool true, .bool false, .bool false] 33)) = .ok (mgV (⟨k, s.ln, s.ht, -1, s.e0, s.e1, s.e2, s.e3, true, false, false⟩ : W.Mg)) (w2.alloc (.cells #[.int .i64 k, .int .i64 s.ln, .int .i64 s.ht, .int .i64 (-1), .int .u32 s.e0, .int .u32 s.e1, .int .u32 s.e2, .int .u32 s.e3, .bool true, .bool false, .bool false] 33)) := (msgAt_new w2 (⟨k, s.ln, s.ht, -1, s.e0, s.e1, s.e2, s.e3, true, false, false⟩ : W.Mg)).ld
  have HB : Hid (_) := hB
  clear hb3 hL hb2 HZ hB hr5
  generalize hMM : (⟨k, s.ln, s.ht, -1, s.e0, s.e1, s.e2, s.e3, true, false, false⟩ : W.Mg) = M at *
  have HM : Hid ((⟨k, s.ln, s.ht, -1, s.e0, s.e1, s.e2, s.e3, true, false, false⟩ : W.Mg) = M) := hMM
  clear hMM
  go_wp2_with (fail)
  exact bodyPost_ret (v := mgV M) (by simp [results, Try.results30, asAddr, ldM_eq, hld5]) rfl ⟨by rw [HM.out], HB.out⟩

theorem dfull_any (H : Db b s w) (k t : Int) : Calls Try.prog 30 #[.pointer (some ⟨b, 0, none⟩), .int .i64 k, .int .i64 t] w fun e w' => e = .returned (mgV (s.full k t)) ∧ Below w.heap.size w w' := by
  unfold W.Ld.full
  by_cases h3 : t = 3
  · subst h3
    exact dfull_3 H k 3
  · rw [if_neg h3]
    by_cases h4 : t = 4
    · subst h4
      exact dfull_4 H k 4
    · rw [if_neg h4]
      exact dfull_x H k t h3 h4

theorem devict_any (H : Db b s w) : Calls Try.prog 14 #[.pointer (some ⟨b, 0, none⟩)] w fun e w' => ∃ sl, e = .returned (.tuple #[slV sl, .bool s.evict.2.2]) ∧ ResD b s.evict.1 s.evict.2.1 sl w w' := by
  have c2 := H.c2
  have c3 := H.c3
  have c8 := H.c8
  have f2 := Rw.fz H 2
  have f3 := Rw.fz H 3
  have f8 := Rw.fz H 8
  have HH : Hid (Db b s w) := H
  clear H
  unfold W.Ld.evict
  by_cases e : s.wt = 0
  · rw [e] at c3
    by_cases e2 : s.st = 0
    · rw [if_neg (fun h => h.2 e2)]
      rw [e2] at c2
      clear e e2
      go_enter Try.func14, Try.ntmps14
      go_wp2_with (fail)
      exact bodyPost_ret (by simp [results, Try.results14, asAddr, go_sem]; rfl) rfl ⟨⟨none, 0, 0⟩, rfl, resD_nil HH.out (Up.refl b w)⟩
    · rw [if_pos ⟨e, e2⟩]
      by_cases e3 : s.st = 1
      · rw [if_pos e3]
        rw [e3] at c2
        clear e e2 e3
        have HF : Hid (_) := resD_nil (HH.out.st 0) (Up.set b w 2 (.int .i64 0))
        clear HH
        go_enter Try.func14, Try.ntmps14
        go_wp2_with (fail)
        exact bodyPost_ret (by simp [results, Try.results14, asAddr, go_sem]; rfl) rfl ⟨⟨none, 0, 0⟩, rfl, HF.out⟩
      · rw [if_neg e3]
        have q2 : (s.st == 0) = false := by simpa using e2
        have q3 : (s.st == 1) = false := by simpa using e3
        clear e e2 e3
        go_enter Try.func14, Try.ntmps14
        go_wp2_with (fail)
        have h3 := (((HH.out.st 0).wt 3).kp s.st)
        have HB2 : Hid (_ ∧ _) := ⟨h3, ((Up.set b w 2 (.int .i64 0)).trans (Up.set b _ 3 (.int .i64 3))).trans (Up.set b _ 8 (.int .i64 s.st))⟩
        clear h3 HH c2 c3 c8 f2 f3 f8
        generalize World.setCell (World.setCell (World.setCell w _ _) _ _) _ _ = W1 at *
        refine (dfull_any HB2.out.1 3 s.st).mono ?_
        rintro e w3 ⟨rfl, hb3⟩
        have HF : Hid (_) := resD_one (HB2.out.1.below hb3) (HB2.out.2.lnew hb3) (s.full 3 s.st)
        have bs := bsM_any (s.full 3 s.st)
        have e1 : W.Ld.full ⟨s.ln, s.ht, 0, 3, s.e0, s.e1, s.e2, s.e3, s.st⟩ 3 s.st = s.full 3 s.st := rfl
        rw [e1]
        clear hb3 HB2 e1
        go_wp2_with (fail)
        exact bodyPost_ret (by simp [results, Try.results14, asAddr, go_sem]; rfl) rfl ⟨_, rfl, HF.out⟩
  · rw [if_neg (fun h => e h.1)]
    have q : (s.wt != 0) = true := by simpa using e
    clear e
    go_enter Try.func14, Try.ntmps14
    go_wp2_with (fail)
    exact bodyPost_ret (by simp [results, Try.results14, asAddr, go_sem]; rfl) rfl ⟨⟨none, 0, 0⟩, rfl, resD_nil HH.out (Up.refl b w)⟩

end Go.Proofs.Ytogchippkenppaa
