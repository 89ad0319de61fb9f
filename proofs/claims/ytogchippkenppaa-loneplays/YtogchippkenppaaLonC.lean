/- lone: telling, given (made by mkC.py). -/
import Derived.Test.YtogchippkenppaaLonA1
namespace Go.Proofs.Ytogchippkenppaa
open Go.ChangeShapes Go.WideShapes Go.ChangeAt Go.RowKit
set_option linter.unusedVariables false
set_option linter.unusedSimpArgs false
attribute [local go_sem ↓] ldM_eq stM_eq bdM_eq bsM_eq
variable {b : Nat} {s s' : W.Lo} {w w' w'' : World}

theorem tell_2 (H : Lb b s w) (k : Int) (hq : s.hd = 2) : Calls Try.prog 29 #[.pointer (some ⟨b, 0, none⟩), .int .i64 k] w fun e w' => e = .returned (mgV ⟨k, s.ln, s.ht, -1, s.e0, s.e1, s.e2, s.e3, true, false, false⟩) ∧ Below w.heap.size w w' := by
  have hl := H.lt
  have hb1 := below_alloc w (.cells z11 33)
  have hr := msgRoom_new w z11 rfl
  have HZ : Hid (_ ∧ _ ∧ _) := ⟨hb1, hr, H.below hb1⟩
  clear H hb1 hr
  have HH : Hid (s.hd = 2) := hq
  clear hq
  go_enter Try.func29, Try.ntmps29
  go_wp2_with (fail)
  generalize World.alloc w _ = W1 at *
  refine (msg_any HZ.out.2.2 k).mono ?_
  rintro e w2 ⟨rfl, hb2⟩
  have hst : (stM ⟨w2.heap.size, 0, none⟩ (mgV (s.msg k))).run Try.prog (w2.alloc (.cells z11 33)) = .ok () (w2.alloc (.cells #[.int .i64 k, .int .i64 s.ln, .int .i64 s.ht, .int .i64 (-1), .int .u32 0, .int .u32 0, .int .u32 0, .int .u32 0, .bool false, .bool false, .bool false] 33)) := stM_new w2 (s.msg k) z11 rfl
  have hb3 : ∀ o, Below W1.heap.size W1 (w2.alloc o) := fun o => hb2.trans ((below_alloc w2 o).mono hb2.size)
  have hL : ∀ o, Lb b s (w2.alloc o) := fun o => HZ.out.2.2.below (hb3 o)
  have hz2 : b < w2.heap.size := Nat.lt_of_lt_of_le HZ.out.2.2.lt hb2.size
  have c3 : ∀ o, (w2.alloc o).cell? ⟨b, 3, none⟩ = some (.int .i64 2) := fun o => by rw [(hL o).c3, HH.out]
  have c4 := fun o => (hL o).c4
  have c5 := fun o => (hL o).c5
  have c6 := fun o => (hL o).c6
  have c7 := fun o => (hL o).c7
  have hr5 := HZ.out.2.1.below (hb3 (.cells #[.int .i64 k, .int .i64 s.ln, .int .i64 s.ht, .int .i64 (-1), .int .u32 s.e0, .int .u32 s.e1, .int .u32 s.e2, .int .u32 s.e3, .bool true, .bool false, .bool false] 33))
  have hst5 := hr5.st (⟨k, s.ln, s.ht, -1, s.e0, s.e1, s.e2, s.e3, true, false, false⟩ : W.Mg)
  have hld5 := (hr5.set (⟨k, s.ln, s.ht, -1, s.e0, s.e1, s.e2, s.e3, true, false, false⟩ : W.Mg)).ld
  have hB := (HZ.out.1.trans ((hb3 (.cells #[.int .i64 k, .int .i64 s.ln, .int .i64 s.ht, .int .i64 (-1), .int .u32 s.e0, .int .u32 s.e1, .int .u32 s.e2, .int .u32 s.e3, .bool true, .bool false, .bool false] 33)).mono HZ.out.1.size)).grown (gsetRow _ w.heap.size (mgL (⟨k, s.ln, s.ht, -1, s.e0, s.e1, s.e2, s.e3, true, false, false⟩ : W.Mg)).toArray) (Nat.le_trans HZ.out.1.size (hb3 _).size) (fun b e => by cases e; omega)
  have hld : (ldM ⟨w2.heap.size, 0, none⟩).run Try.prog (w2.alloc (.cells #[.int .i64 k, .int .i64 s.ln, .int .i64 s.ht, .int .i64 (-1), .int .u32 s.e0, .int .u32 s.e1, .int .u32 s.e2, .int .u32 s.e3, .bool true, .bool false, .bool false] 33)) = .ok (mgV (⟨k, s.ln, s.ht, -1, s.e0, s.e1, s.e2, s.e3, true, false, false⟩ : W.Mg)) (w2.alloc (.cells #[.int .i64 k, .int .i64 s.ln, .int .i64 s.ht, .int .i64 (-1), .int .u32 s.e0, .int .u32 s.e1, .int .u32 s.e2, .int .u32 s.e3, .bool true, .bool false, .bool false] 33)) := (msgAt_new w2 (⟨k, s.ln, s.ht, -1, s.e0, s.e1, s.e2, s.e3, true, false, false⟩ : W.Mg)).ld
  have HB : Hid (_) := hB
  clear hb3 hL hb2 HZ hB hr5
  generalize hMM : (⟨k, s.ln, s.ht, -1, s.e0, s.e1, s.e2, s.e3, true, false, false⟩ : W.Mg) = M at *
  have HM : Hid ((⟨k, s.ln, s.ht, -1, s.e0, s.e1, s.e2, s.e3, true, false, false⟩ : W.Mg) = M) := hMM
  clear hMM
  go_wp2_with (fail)
  exact bodyPost_ret (v := mgV M) (by simp [results, Try.results29, asAddr, ldM_eq, hld5]) rfl ⟨by rw [HM.out], HB.out⟩

theorem tell_3 (H : Lb b s w) (k : Int) (hq : s.hd = 3) : Calls Try.prog 29 #[.pointer (some ⟨b, 0, none⟩), .int .i64 k] w fun e w' => e = .returned (mgV ⟨k, s.ln, s.ht, -1, s.e0, s.e1, s.e2, s.e3, true, true, false⟩) ∧ Below w.heap.size w w' := by
  have hl := H.lt
  have hb1 := below_alloc w (.cells z11 33)
  have hr := msgRoom_new w z11 rfl
  have HZ : Hid (_ ∧ _ ∧ _) := ⟨hb1, hr, H.below hb1⟩
  clear H hb1 hr
  have HH : Hid (s.hd = 3) := hq
  clear hq
  go_enter Try.func29, Try.ntmps29
  go_wp2_with (fail)
  generalize World.alloc w _ = W1 at *
  refine (msg_any HZ.out.2.2 k).mono ?_
  rintro e w2 ⟨rfl, hb2⟩
  have hst : (stM ⟨w2.heap.size, 0, none⟩ (mgV (s.msg k))).run Try.prog (w2.alloc (.cells z11 33)) = .ok () (w2.alloc (.cells #[.int .i64 k, .int .i64 s.ln, .int .i64 s.ht, .int .i64 (-1), .int .u32 0, .int .u32 0, .int .u32 0, .int .u32 0, .bool false, .bool false, .bool false] 33)) := stM_new w2 (s.msg k) z11 rfl
  have hb3 : ∀ o, Below W1.heap.size W1 (w2.alloc o) := fun o => hb2.trans ((below_alloc w2 o).mono hb2.size)
  have hL : ∀ o, Lb b s (w2.alloc o) := fun o => HZ.out.2.2.below (hb3 o)
  have hz2 : b < w2.heap.size := Nat.lt_of_lt_of_le HZ.out.2.2.lt hb2.size
  have c3 : ∀ o, (w2.alloc o).cell? ⟨b, 3, none⟩ = some (.int .i64 3) := fun o => by rw [(hL o).c3, HH.out]
  have c4 := fun o => (hL o).c4
  have c5 := fun o => (hL o).c5
  have c6 := fun o => (hL o).c6
  have c7 := fun o => (hL o).c7
  have hr5 := HZ.out.2.1.below (hb3 (.cells #[.int .i64 k, .int .i64 s.ln, .int .i64 s.ht, .int .i64 (-1), .int .u32 s.e0, .int .u32 s.e1, .int .u32 s.e2, .int .u32 s.e3, .bool true, .bool true, .bool false] 33))
  have hst5 := hr5.st (⟨k, s.ln, s.ht, -1, s.e0, s.e1, s.e2, s.e3, true, true, false⟩ : W.Mg)
  have hld5 := (hr5.set (⟨k, s.ln, s.ht, -1, s.e0, s.e1, s.e2, s.e3, true, true, false⟩ : W.Mg)).ld
  have hB := (HZ.out.1.trans ((hb3 (.cells #[.int .i64 k, .int .i64 s.ln, .int .i64 s.ht, .int .i64 (-1), .int .u32 s.e0, .int .u32 s.e1, .int .u32 s.e2, .int .u32 s.e3, .bool true, .bool true, .bool false] 33)).mono HZ.out.1.size)).grown (gsetRow _ w.heap.size (mgL (⟨k, s.ln, s.ht, -1, s.e0, s.e1, s.e2, s.e3, true, true, false⟩ : W.Mg)).toArray) (Nat.le_trans HZ.out.1.size (hb3 _).size) (fun b e => by cases e; omega)
  have hld : (ldM ⟨w2.heap.size, 0, none⟩).run Try.prog (w2.alloc (.cells #[.int .i64 k, .int .i64 s.ln, .int .i64 s.ht, .int .i64 (-1), .int .u32 s.e0, .int .u32 s.e1, .int .u32 s.e2, .int .u32 s.e3, .bool true, .bool true, .bool false] 33)) = .ok (mgV (⟨k, s.ln, s.ht, -1, s.e0, s.e1, s.e2, s.e3, true, true, false⟩ : W.Mg)) (w2.alloc (.cells #[.int .i64 k, .int .i64 s.ln, .int .i64 s.ht, .int .i64 (-1), .int .u32 s.e0, .int .u32 s.e1, .int .u32 s.e2, .int .u32 s.e3, .bool true, .bool true, .bool false] 33)) := (msgAt_new w2 (⟨k, s.ln, s.ht, -1, s.e0, s.e1, s.e2, s.e3, true, true, false⟩ : W.Mg)).ld
  have HB : Hid (_) := hB
  clear hb3 hL hb2 HZ hB hr5
  generalize hMM : (⟨k, s.ln, s.ht, -1, s.e0, s.e1, s.e2, s.e3, true, true, false⟩ : W.Mg) = M at *
  have HM : Hid ((⟨k, s.ln, s.ht, -1, s.e0, s.e1, s.e2, s.e3, true, true, false⟩ : W.Mg) = M) := hMM
  clear hMM
  go_wp2_with (fail)
  exact bodyPost_ret (v := mgV M) (by simp [results, Try.results29, asAddr, ldM_eq, hld5]) rfl ⟨by rw [HM.out], HB.out⟩

theorem tell_4 (H : Lb b s w) (k : Int) (hq : s.hd = 4) : Calls Try.prog 29 #[.pointer (some ⟨b, 0, none⟩), .int .i64 k] w fun e w' => e = .returned (mgV ⟨k, s.ln, s.ht, -1, s.e0, s.e1, s.e2, s.e3, true, true, false⟩) ∧ Below w.heap.size w w' := by
  have hl := H.lt
  have hb1 := below_alloc w (.cells z11 33)
  have hr := msgRoom_new w z11 rfl
  have HZ : Hid (_ ∧ _ ∧ _) := ⟨hb1, hr, H.below hb1⟩
  clear H hb1 hr
  have HH : Hid (s.hd = 4) := hq
  clear hq
  go_enter Try.func29, Try.ntmps29
  go_wp2_with (fail)
  generalize World.alloc w _ = W1 at *
  refine (msg_any HZ.out.2.2 k).mono ?_
  rintro e w2 ⟨rfl, hb2⟩
  have hst : (stM ⟨w2.heap.size, 0, none⟩ (mgV (s.msg k))).run Try.prog (w2.alloc (.cells z11 33)) = .ok () (w2.alloc (.cells #[.int .i64 k, .int .i64 s.ln, .int .i64 s.ht, .int .i64 (-1), .int .u32 0, .int .u32 0, .int .u32 0, .int .u32 0, .bool false, .bool false, .bool false] 33)) := stM_new w2 (s.msg k) z11 rfl
  have hb3 : ∀ o, Below W1.heap.size W1 (w2.alloc o) := fun o => hb2.trans ((below_alloc w2 o).mono hb2.size)
  have hL : ∀ o, Lb b s (w2.alloc o) := fun o => HZ.out.2.2.below (hb3 o)
  have hz2 : b < w2.heap.size := Nat.lt_of_lt_of_le HZ.out.2.2.lt hb2.size
  have c3 : ∀ o, (w2.alloc o).cell? ⟨b, 3, none⟩ = some (.int .i64 4) := fun o => by rw [(hL o).c3, HH.out]
  have c4 := fun o => (hL o).c4
  have c5 := fun o => (hL o).c5
  have c6 := fun o => (hL o).c6
  have c7 := fun o => (hL o).c7
  have hr5 := HZ.out.2.1.below (hb3 (.cells #[.int .i64 k, .int .i64 s.ln, .int .i64 s.ht, .int .i64 (-1), .int .u32 s.e0, .int .u32 s.e1, .int .u32 s.e2, .int .u32 s.e3, .bool true, .bool true, .bool false] 33))
  have hst5 := hr5.st (⟨k, s.ln, s.ht, -1, s.e0, s.e1, s.e2, s.e3, true, true, false⟩ : W.Mg)
  have hld5 := (hr5.set (⟨k, s.ln, s.ht, -1, s.e0, s.e1, s.e2, s.e3, true, true, false⟩ : W.Mg)).ld
  have hB := (HZ.out.1.trans ((hb3 (.cells #[.int .i64 k, .int .i64 s.ln, .int .i64 s.ht, .int .i64 (-1), .int .u32 s.e0, .int .u32 s.e1, .int .u32 s.e2, .int .u32 s.e3, .bool true, .bool true, .bool false] 33)).mono HZ.out.1.size)).grown (gsetRow _ w.heap.size (mgL (⟨k, s.ln, s.ht, -1, s.e0, s.e1, s.e2, s.e3, true, true, false⟩ : W.Mg)).toArray) (Nat.le_trans HZ.out.1.size (hb3 _).size) (fun b e => by cases e; omega)
  have hld : (ldM ⟨w2.heap.size, 0, none⟩).run Try.prog (w2.alloc (.cells #[.int .i64 k, .int .i64 s.ln, .int .i64 s.ht, .int .i64 (-1), .int .u32 s.e0, .int .u32 s.e1, .int .u32 s.e2, .int .u32 s.e3, .bool true, .bool true, .bool false] 33)) = .ok (mgV (⟨k, s.ln, s.ht, -1, s.e0, s.e1, s.e2, s.e3, true, true, false⟩ : W.Mg)) (w2.alloc (.cells #[.int .i64 k, .int .i64 s.ln, .int .i64 s.ht, .int .i64 (-1), .int .u32 s.e0, .int .u32 s.e1, .int .u32 s.e2, .int .u32 s.e3, .bool true, .bool true, .bool false] 33)) := (msgAt_new w2 (⟨k, s.ln, s.ht, -1, s.e0, s.e1, s.e2, s.e3, true, true, false⟩ : W.Mg)).ld
  have HB : Hid (_) := hB
  clear hb3 hL hb2 HZ hB hr5
  generalize hMM : (⟨k, s.ln, s.ht, -1, s.e0, s.e1, s.e2, s.e3, true, true, false⟩ : W.Mg) = M at *
  have HM : Hid ((⟨k, s.ln, s.ht, -1, s.e0, s.e1, s.e2, s.e3, true, true, false⟩ : W.Mg) = M) := hMM
  clear hMM
  go_wp2_with (fail)
  exact bodyPost_ret (v := mgV M) (by simp [results, Try.results29, asAddr, ldM_eq, hld5]) rfl ⟨by rw [HM.out], HB.out⟩

theorem tell_none (H : Lb b s w) (k : Int) (h2 : s.hd ≠ 2) (h3 : s.hd ≠ 3) (h4 : s.hd ≠ 4) : Calls Try.prog 29 #[.pointer (some ⟨b, 0, none⟩), .int .i64 k] w fun e w' => e = .returned (mgV ⟨k, s.ln, s.ht, -1, 0, 0, 0, 0, false, false, false⟩) ∧ Below w.heap.size w w' := by
  have hl := H.lt
  have hb1 := below_alloc w (.cells z11 33)
  have hr := msgRoom_new w z11 rfl
  have HZ : Hid (_ ∧ _ ∧ _) := ⟨hb1, hr, H.below hb1⟩
  clear H hb1 hr
  have q2 : (s.hd == 2) = false := by simpa using h2
  have q3 : (s.hd == 3) = false := by simpa using h3
  have q4 : (s.hd == 4) = false := by simpa using h4
  clear h2 h3 h4
  go_enter Try.func29, Try.ntmps29
  go_wp2_with (fail)
  generalize World.alloc w _ = W1 at *
  refine (msg_any HZ.out.2.2 k).mono ?_
  rintro e w2 ⟨rfl, hb2⟩
  have hst : (stM ⟨w2.heap.size, 0, none⟩ (mgV (s.msg k))).run Try.prog (w2.alloc (.cells z11 33)) = .ok () (w2.alloc (.cells #[.int .i64 k, .int .i64 s.ln, .int .i64 s.ht, .int .i64 (-1), .int .u32 0, .int .u32 0, .int .u32 0, .int .u32 0, .bool false, .bool false, .bool false] 33)) := stM_new w2 (s.msg k) z11 rfl
  have hb3 : ∀ o, Below W1.heap.size W1 (w2.alloc o) := fun o => hb2.trans ((below_alloc w2 o).mono hb2.size)
  have hL : ∀ o, Lb b s (w2.alloc o) := fun o => HZ.out.2.2.below (hb3 o)
  have hz2 : b < w2.heap.size := Nat.lt_of_lt_of_le HZ.out.2.2.lt hb2.size
  have c3 : ∀ o, (w2.alloc o).cell? ⟨b, 3, none⟩ = some (.int .i64 s.hd) := fun o => by rw [(hL o).c3]
  have c4 := fun o => (hL o).c4
  have c5 := fun o => (hL o).c5
  have c6 := fun o => (hL o).c6
  have c7 := fun o => (hL o).c7
  have hr5 := HZ.out.2.1.below (hb3 (.cells #[.int .i64 k, .int .i64 s.ln, .int .i64 s.ht, .int .i64 (-1), .int .u32 0, .int .u32 0, .int .u32 0, .int .u32 0, .bool false, .bool false, .bool false] 33))
  have hst5 := hr5.st (⟨k, s.ln, s.ht, -1, 0, 0, 0, 0, false, false, false⟩ : W.Mg)
  have hld5 := (hr5.set (⟨k, s.ln, s.ht, -1, 0, 0, 0, 0, false, false, false⟩ : W.Mg)).ld
  have hB := (HZ.out.1.trans ((hb3 (.cells #[.int .i64 k, .int .i64 s.ln, .int .i64 s.ht, .int .i64 (-1), .int .u32 0, .int .u32 0, .int .u32 0, .int .u32 0, .bool false, .bool false, .bool false] 33)).mono HZ.out.1.size)).grown (gsetRow _ w.heap.size (mgL (⟨k, s.ln, s.ht, -1, 0, 0, 0, 0, false, false, false⟩ : W.Mg)).toArray) (Nat.le_trans HZ.out.1.size (hb3 _).size) (fun b e => by cases e; omega)
  have hld : (ldM ⟨w2.heap.size, 0, none⟩).run Try.prog (w2.alloc (.cells #[.int .i64 k, .int .i64 s.ln, .int .i64 s.ht, .int .i64 (-1), .int .u32 0, .int .u32 0, .int .u32 0, .int .u32 0, .bool false, .bool false, .bool false] 33)) = .ok (mgV (⟨k, s.ln, s.ht, -1, 0, 0, 0, 0, false, false, false⟩ : W.Mg)) (w2.alloc (.cells #[.int .i64 k, .int .i64 s.ln, .int .i64 s.ht, .int .i64 (-1), .int .u32 0, .int .u32 0, .int .u32 0, .int .u32 0, .bool false, .bool false, .bool false] 33)) := (msgAt_new w2 (⟨k, s.ln, s.ht, -1, 0, 0, 0, 0, false, false, false⟩ : W.Mg)).ld
  have HB : Hid (_) := hB
  clear hb3 hL hb2 HZ hB hr5
  generalize hMM : (⟨k, s.ln, s.ht, -1, 0, 0, 0, 0, false, false, false⟩ : W.Mg) = M at *
  have HM : Hid ((⟨k, s.ln, s.ht, -1, 0, 0, 0, 0, false, false, false⟩ : W.Mg) = M) := hMM
  clear hMM
  go_wp2_with (fail)
  exact bodyPost_ret (v := mgV M) (by simp [results, Try.results29, asAddr, ldM_eq, hld5]) rfl ⟨by rw [HM.out], HB.out⟩

theorem tell_any (H : Lb b s w) (k : Int) : Calls Try.prog 29 #[.pointer (some ⟨b, 0, none⟩), .int .i64 k] w fun e w' => e = .returned (mgV (s.tell k)) ∧ Below w.heap.size w w' := by
  unfold W.Lo.tell
  by_cases h2 : s.hd = 2
  · rw [if_pos h2]
    exact tell_2 H k h2
  · rw [if_neg h2]
    by_cases h3 : s.hd = 3
    · rw [if_pos h3]
      exact tell_3 H k h3
    · rw [if_neg h3]
      by_cases h4 : s.hd = 4
      · rw [if_pos h4]
        exact tell_4 H k h4
      · rw [if_neg h4]
        exact tell_none H k h2 h3 h4
end Go.Proofs.Ytogchippkenppaa
