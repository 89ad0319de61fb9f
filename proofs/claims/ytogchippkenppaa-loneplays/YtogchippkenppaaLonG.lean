/- lone: a line of a law's own; the chapter's examples. -/
import Derived.Test.YtogchippkenppaaLonF
namespace Go.Proofs.Ytogchippkenppaa
open Go.ChangeShapes Go.WideShapes Go.ChangeAt Go.RowKit
set_option linter.unusedVariables false
set_option linter.unusedSimpArgs false
attribute [local go_sem ↓] ldM_eq stM_eq bdM_eq bsM_eq
variable {n0 b : Nat} {s s' : W.Lo} {w w' w'' w0 w2 : World}

/-- A line of a law's own: w0 is the world that it was made in. -/
structure Lq (n0 b : Nat) (s : W.Lo) (w0 w : World) : Prop where
  h : Lb b s w
  lo : n0 ≤ b
  b : Below n0 w0 w
  n : n0 ≤ w.heap.size
theorem Lq.up (h : Lq n0 b s w0 w) (H : Lb b s' w') (u : Up b w w') : Lq n0 b s' w0 w' :=
  ⟨H, h.lo, h.b.trans (Gs.below u h.n (fun g e => by rw [e]; exact h.lo)), Nat.le_trans h.n u.size⟩
theorem Lq.below (h : Lq n0 b s w0 w) (hb : Below w.heap.size w w') : Lq n0 b s w0 w' := ⟨h.h.below hb, h.lo, h.b.trans (hb.mono h.n), Nat.le_trans h.n hb.size⟩
theorem Lq.new (l h : Int) (w w' : World) (H : Lb w.heap.size (W.lo0 l h) w') (hb : Below w.heap.size w w') : Lq w.heap.size w.heap.size (W.lo0 l h) w w' := ⟨H, Nat.le_refl _, hb, hb.size⟩
/-- What a call leaves, of a line of a law's own. -/
structure Rq (n0 b : Nat) (s' : W.Lo) (l : List W.Mg) (sl : W.Sl) (w0 w w' : World) : Prop where
  q : Lq n0 b s' w0 w'
  m : Ms sl l w'
  k : ∀ g, g < w.heap.size → g ≠ b → w'.heap[g]? = w.heap[g]?
  f : ∀ g o, sl.a = some ⟨g, o, none⟩ → w.heap.size ≤ g
  z : w.heap.size ≤ w'.heap.size
theorem ResL.rq {l : List W.Mg} {sl : W.Sl} (h : Lq n0 b s w0 w) (r : ResL b s' l sl w w') : Rq n0 b s' l sl w0 w w' :=
  ⟨h.up r.2.1 r.2.2.1, r.1, fun g hg hn => r.2.2.1.block g hg hn, r.2.2.2, r.2.2.1.size⟩
theorem Lq.take (h : Lq n0 b s w0 w) (m : W.Mg) : Calls Try.prog 19 #[.pointer (some ⟨b, 0, none⟩), mgV m] w fun e w' => ∃ sl, e = .returned (.tuple #[slV sl, .bool (s.take m).2.2]) ∧ Rq n0 b (s.take m).1 (s.take m).2.1 sl w0 w w' :=
  (take_any h.h m).mono (by rintro e w' ⟨sl, rfl, r⟩; exact ⟨sl, rfl, r.rq h⟩)
theorem Lq.ask (h : Lq n0 b s w0 w) (x : Bool) : Calls Try.prog 10 #[.pointer (some ⟨b, 0, none⟩), .bool x] w fun e w' => ∃ sl, e = .returned (.tuple #[slV sl, .bool (s.ask x).2.2]) ∧ Rq n0 b (s.ask x).1 (s.ask x).2.1 sl w0 w w' :=
  (ask_any h.h x).mono (by rintro e w' ⟨sl, rfl, r⟩; exact ⟨sl, rfl, r.rq h⟩)
theorem Lq.evict (h : Lq n0 b s w0 w) : Calls Try.prog 13 #[.pointer (some ⟨b, 0, none⟩)] w fun e w' => ∃ sl, e = .returned (.tuple #[slV sl, .bool s.evict.2.2]) ∧ Rq n0 b s.evict.1 s.evict.2.1 sl w0 w w' :=
  (evict_any h.h).mono (by rintro e w' ⟨sl, rfl, r⟩; exact ⟨sl, rfl, r.rq h⟩)
theorem Lq.set (h : Lq n0 b s w0 w) (x0 x1 x2 x3 : Int) : Calls Try.prog 16 #[.pointer (some ⟨b, 0, none⟩), .agg #[.int .u32 x0, .int .u32 x1, .int .u32 x2, .int .u32 x3]] w fun e w' => e = .returned (.bool (s.set x0 x1 x2 x3).2) ∧ Lq n0 b (s.set x0 x1 x2 x3).1 w0 w' ∧ (∀ g, g < w.heap.size → g ≠ b → w'.heap[g]? = w.heap[g]?) ∧ w.heap.size ≤ w'.heap.size :=
  (set_any h.h x0 x1 x2 x3).mono (by rintro e w' ⟨rfl, r1, r2⟩; exact ⟨rfl, h.up r1 r2, fun g hg hn => r2.block g hg hn, r2.size⟩)
/-- The one message that a call left, while other calls go on. -/
theorem Rq.one {m : W.Mg} {sl : W.Sl} (r : Rq n0 b s' [m] sl w0 w w') (hb : b < w.heap.size) : ∃ g o c, sl = ⟨some ⟨g, o, none⟩, 1, c⟩ ∧ g < w'.heap.size ∧ g ≠ b ∧ w'.rangeAt g o (mgL m) := by
  obtain ⟨g, o, c, rfl, _, hl, hr⟩ := ms_1 r.m
  have := r.f g o rfl
  exact ⟨g, o, c, rfl, hl, by omega, hr⟩
def W.down (k l t : Int) : W.Mg := ⟨k, l, -1, t, 0, 0, 0, 0, false, false, false⟩
theorem bdM_down (k l t : Int) (w : World) : (bdM #[(0, .int .i64 k), (1, .int .i64 l), (2, .int .i64 (-1)), (3, .int .i64 t)]).run Try.prog w = .ok (mgV (W.down k l t)) w := by kernel_rfl
theorem bdM_f1 (w : World) : (bdM #[(0, .int .i64 7), (1, .int .i64 3), (2, .int .i64 (-1)), (3, .int .i64 1), (5, .bool true), (7, .bool true)]).run Try.prog w = .ok (mgV ⟨7, 3, -1, 1, 0, 0, 0, 0, true, false, true⟩) w := by kernel_rfl
theorem f1 : (W.lo0 3 1).ask false = (⟨3, 1, 1, 0, 0, 0, 0, 0⟩, [⟨1, 3, 1, -1, 0, 0, 0, 0, false, false, false⟩], true) := by rfl
theorem f2 : W.Lo.take ⟨3, 1, 1, 0, 0, 0, 0, 0⟩ ⟨7, 3, -1, 1, 0, 0, 0, 0, true, false, true⟩ = (⟨3, 1, 0, 2, 0, 0, 0, 0⟩, [⟨12, 3, 1, -1, 0, 0, 0, 0, false, false, false⟩], false) := by rfl
theorem f3 : W.Lo.set ⟨3, 1, 0, 2, 0, 0, 0, 0⟩ 9 0 0 0 = (⟨3, 1, 0, 4, 9, 0, 0, 0⟩, true) := by rfl
theorem f4 : W.Lo.take ⟨3, 1, 0, 4, 9, 0, 0, 0⟩ (W.down 5 3 1) = (⟨3, 1, 0, 3, 9, 0, 0, 0⟩, [⟨11, 3, 1, -1, 9, 0, 0, 0, true, true, false⟩], false) := by rfl
set_option maxRecDepth 10000 in
set_option maxHeartbeats 1600000 in
theorem first19_any (w : World) : Calls Try.prog 6 #[] w fun e w' => e = .returned (.bool true) ∧ Below w.heap.size w w' := by
  have bd := bdM_down
  have bd1 := bdM_f1
  go_enter Try.func6, Try.ntmps6
  go_wp2_with (fail)
  refine (new_any 3 1 w).mono ?_
  rintro e w1 ⟨rfl, hH, hb⟩
  have HH : Hid (_) := Lq.new 3 1 w w1 hH hb
  clear hH hb
  generalize hbb : w.heap.size = b at *
  go_wp2_with (fail)
  refine (HH.out.ask false).mono ?_
  rintro e w2 ⟨sl1, rfl, r1⟩
  rw [f1] at r1 ⊢
  obtain ⟨g1, o1, c1, rfl, l1, n1, q1⟩ := r1.one HH.out.h.lt
  have HA : Hid (_ ∧ _ ∧ _ ∧ _) := ⟨r1.q, l1, n1, q1⟩
  clear r1 l1 n1 q1 HH
  unfold slV
  dsimp only
  go_wp2_with (fail)
  refine (HA.out.1.take _).mono ?_
  rintro e w3 ⟨sl2, rfl, r2⟩
  rw [f2] at r2 ⊢
  obtain ⟨g2, o2, c2, rfl, l2, n2, q2⟩ := r2.one HA.out.1.h.lt
  have HB : Hid (_ ∧ _ ∧ _ ∧ _ ∧ _ ∧ _ ∧ _) := ⟨r2.q, l2, n2, q2, Nat.lt_of_lt_of_le HA.out.2.1 r2.z, HA.out.2.2.1, range_block HA.out.2.2.2 (r2.k g1 HA.out.2.1 HA.out.2.2.1)⟩
  clear r2 l2 n2 q2 HA
  unfold slV
  dsimp only
  go_wp2_with (fail)
  refine (state_any HB.out.1.h).mono ?_
  rintro e w4 ⟨rfl, rfl⟩
  have e1 : W.Lo.st ⟨3, 1, 0, 2, 0, 0, 0, 0⟩ = 2 := rfl
  rw [e1]
  clear e1
  go_wp2_with (fail)
  refine (HB.out.1.set 9 0 0 0).mono ?_
  rintro e w4 ⟨rfl, r3, k3, z3⟩
  rw [f3] at r3 ⊢
  have HC : Hid (_ ∧ _ ∧ _ ∧ _ ∧ _ ∧ _ ∧ _) := ⟨r3, Nat.lt_of_lt_of_le HB.out.2.1 z3, HB.out.2.2.1, range_block HB.out.2.2.2.1 (k3 g2 HB.out.2.1 HB.out.2.2.1), Nat.lt_of_lt_of_le HB.out.2.2.2.2.1 z3, HB.out.2.2.2.2.2.1, range_block HB.out.2.2.2.2.2.2 (k3 g1 HB.out.2.2.2.2.1 HB.out.2.2.2.2.2.1)⟩
  clear r3 k3 z3 HB
  go_wp2_with (fail)
  refine (HC.out.1.take _).mono ?_
  rintro e w5 ⟨sl5, rfl, r5⟩
  rw [f4] at r5 ⊢
  obtain ⟨g5, o5, c5, rfl, l5, n5, q5⟩ := r5.one HC.out.1.h.lt
  have qq2 := range_block HC.out.2.2.2.1 (r5.k g2 HC.out.2.1 HC.out.2.2.1)
  have qq1 := range_block HC.out.2.2.2.2.2.2 (r5.k g1 HC.out.2.2.2.2.1 HC.out.2.2.2.2.2.1)
  have k1 : w5.cell? ⟨g1, o1, none⟩ = some (.int .i64 1) := qq1 0 _ rfl
  have k2 : w5.cell? ⟨g2, o2, none⟩ = some (.int .i64 12) := qq2 0 _ rfl
  have k5 : w5.cell? ⟨g5, o5 + 9, none⟩ = some (.bool true) := q5 9 _ rfl
  have k6 : w5.cell? ⟨g5, o5 + 4, none⟩ = some (.int .u32 9) := q5 4 _ rfl
  have HD : Hid (_) := r5.q
  clear r5 l5 n5 q5 HC qq1 qq2 bd bd1
  unfold slV
  dsimp only
  go_wp2_with (fail)
  refine (state_any HD.out.h).mono ?_
  rintro e w6 ⟨rfl, rfl⟩
  have e1 : W.Lo.st ⟨3, 1, 0, 3, 9, 0, 0, 0⟩ = 3 := rfl
  rw [e1]
  go_wp2_with (fail)
  go_ret
  exact ⟨rfl, by rw [hbb]; exact HD.out.b⟩
end Go.Proofs.Ytogchippkenppaa
