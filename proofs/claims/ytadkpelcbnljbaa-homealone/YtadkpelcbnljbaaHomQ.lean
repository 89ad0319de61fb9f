/- home: New; a home of a law's own. -/
import Derived.Test.YtadkpelcbnljbaaHomP
namespace Go.Proofs.Ytadkpelcbnljbaa
open Go.ChangeShapes Go.WideShapes Go.ChangeAt Go.RowKit
set_option linter.unusedVariables false
set_option linter.unusedSimpArgs false
attribute [local go_sem ↓] ldM_eq stM_eq bdM_eq bsM_eq
variable {n0 hb : Nat} {s s' : W.Hm} {sv av sv' av' sv'' av'' : Value} {w w' w'' : World}

theorem new_any (l hs x0 x1 x2 x3 : Int) (w : World) : Calls Try.prog 9 #[.int .i64 l, .int .i64 hs, .agg #[.int .u32 x0, .int .u32 x1, .int .u32 x2, .int .u32 x3]] w fun e w' => e = .returned (.pointer (some ⟨w.heap.size + 1, 0, none⟩)) ∧ Ho w.heap.size (w.heap.size + 1) (W.hm0 l hs x0 x1 x2 x3) (.slice none 0 0) (.slice none 0 0) w' ∧ Below w.heap.size w w' := by
  go_enter Try.func9, Try.ntmps9
  go_wp2
  go_ret
  have hb1 := below_alloc w (.cells #[.int .u32 x0, .int .u32 x1, .int .u32 x2, .int .u32 x3] 24)
  refine ⟨rfl, ⟨bc_row (cs := #[.int .i64 l, .int .i64 hs, .int .u32 x0, .int .u32 x1, .int .u32 x2, .int .u32 x3, .int .i64 (-1), .slice none 0 0, .int .i64 (-1), .int .i64 0, .slice none 0 0, .int .i64 (-1), .int .i64 0, .int .i64 0, .int .i64 0, .int .i64 0, .int .u32 0, .int .u32 0, .int .u32 0, .int .u32 0, .bool false, .bool false, .bool false]) (T := 52) ?_ ?_, On.nil _ _, On.nil _ _, by simp [Value.ownBlock], by simp [Value.ownBlock], fun g e => (by cases e), by omega⟩, ?_⟩
  · have := heap_alloc_last (w.alloc (.cells #[.int .u32 x0, .int .u32 x1, .int .u32 x2, .int .u32 x3] 24)) (.cells #[.int .i64 l, .int .i64 hs, .int .u32 x0, .int .u32 x1, .int .u32 x2, .int .u32 x3, .int .i64 (-1), .slice none 0 0, .int .i64 (-1), .int .i64 0, .slice none 0 0, .int .i64 (-1), .int .i64 0, .int .i64 0, .int .i64 0, .int .i64 0, .int .u32 0, .int .u32 0, .int .u32 0, .int .u32 0, .bool false, .bool false, .bool false] 52)
    rw [show (w.alloc (.cells #[.int .u32 x0, .int .u32 x1, .int .u32 x2, .int .u32 x3] 24)).heap.size = w.heap.size + 1 by simp] at this
    exact this
  · intro j hj
    have hj' : j = 0 ∨ j = 1 ∨ j = 2 ∨ j = 3 ∨ j = 4 ∨ j = 5 ∨ j = 6 ∨ j = 7 ∨ j = 8 ∨ j = 9 ∨ j = 10 ∨ j = 11 ∨ j = 12 ∨ j = 13 ∨ j = 14 ∨ j = 15 ∨ j = 16 ∨ j = 17 ∨ j = 18 ∨ j = 19 ∨ j = 20 ∨ j = 21 ∨ j = 22 := by omega
    rcases hj' with rfl | rfl | rfl | rfl | rfl | rfl | rfl | rfl | rfl | rfl | rfl | rfl | rfl | rfl | rfl | rfl | rfl | rfl | rfl | rfl | rfl | rfl | rfl <;> rfl
  · exact hb1.alloc (by simp) _
/-- A home of a law's own: w0 is the world that it was made in, P are blocks that are none of the home's. -/
structure Hq (n0 hb : Nat) (s : W.Hm) (P : Nat → Prop) (w0 w : World) : Prop where
  c : ∃ sv av, Ho n0 hb s sv av w ∧ ∀ b, P b → b < w.heap.size ∧ Hpt hb sv av b
  b : Below n0 w0 w
  k : W.Hok s
theorem Hq.below {P : Nat → Prop} {w0 : World} (h : Hq n0 hb s P w0 w) (hb2 : Below w.heap.size w w') : Hq n0 hb s P w0 w' := by
  obtain ⟨sv, av, h1, h2⟩ := h.c
  have hn : n0 ≤ w.heap.size := Nat.le_trans h1.n0 (Nat.le_of_lt h1.b.lt)
  exact ⟨⟨sv, av, h1.below hb2, fun b hp => ⟨Nat.lt_of_lt_of_le (h2 b hp).1 hb2.size, (h2 b hp).2⟩⟩, h.b.trans (hb2.mono hn), h.k⟩
theorem Hq.sub {P P' : Nat → Prop} {w0 : World} (h : Hq n0 hb s P w0 w) (hp : ∀ b, P' b → P b) : Hq n0 hb s P' w0 w := by
  obtain ⟨sv, av, h1, h2⟩ := h.c
  exact ⟨⟨sv, av, h1, fun b q => h2 b (hp b q)⟩, h.b, h.k⟩
/-- A new block joins. -/
theorem Hq.add {P : Nat → Prop} {w0 : World} (h : Hq n0 hb s P w0 w) (o : Obj) : Hq n0 hb s (fun b => P b ∨ b = w.heap.size) w0 (w.alloc o) := by
  obtain ⟨sv, av, h1, h2⟩ := h.c
  have hba := below_alloc w o
  have hn : n0 ≤ w.heap.size := Nat.le_trans h1.n0 (Nat.le_of_lt h1.b.lt)
  refine ⟨⟨sv, av, h1.below hba, fun b hp => ?_⟩, h.b.trans (hba.mono hn), h.k⟩
  rcases hp with hp | rfl
  · exact ⟨Nat.lt_of_lt_of_le (h2 b hp).1 hba.size, (h2 b hp).2⟩
  · exact ⟨by simp, h1.pt_new (Nat.le_refl _)⟩
theorem Hq.new (l hs x0 x1 x2 x3 : Int) (w w' : World) (h1 : 1 ≤ hs) (h4 : hs ≤ 4) (H : Ho w.heap.size (w.heap.size + 1) (W.hm0 l hs x0 x1 x2 x3) (.slice none 0 0) (.slice none 0 0) w') (hb : Below w.heap.size w w') : Hq w.heap.size (w.heap.size + 1) (W.hm0 l hs x0 x1 x2 x3) (fun _ => False) w w' :=
  ⟨⟨_, _, H, fun _ h => h.elim⟩, hb, W.Hok.new l hs x0 x1 x2 x3 h1 h4⟩
theorem Hq.takeS {P : Nat → Prop} {w0 : World} (h : Hq n0 hb s P w0 w) (m : W.Mg) (hr : -9223372036854775808 ≤ m.k ∧ m.k ≤ 9223372036854775807) : Calls Try.prog 15 #[.pointer (some ⟨hb, 0, none⟩), mgV m] w fun e w' => ∃ sl, e = .returned (slV sl) ∧ Ms sl (W.take s m).2 w' ∧ Hq n0 hb (W.take s m).1 (fun b => P b ∨ 0 < sl.n ∧ ∃ o, sl.a = some ⟨b, o, none⟩) w0 w' ∧ (∀ b, P b → w'.heap[b]? = w.heap[b]?) ∧ (∀ b o, sl.a = some ⟨b, o, none⟩ → w.heap.size ≤ b ∧ w'.there b (o + sl.n * 11) ((sl.c - sl.n) * 11)) ∧ w.heap.size ≤ w'.heap.size := by
  obtain ⟨sv, av, h1, h2⟩ := h.c
  have hn : n0 ≤ w.heap.size := Nat.le_trans h1.n0 (Nat.le_of_lt h1.b.lt)
  refine (take_any h1 h.k m hr).mono ?_
  rintro e w1 ⟨sl, sv1, av1, rfl, hm, hH, hu, hap⟩
  refine ⟨sl, rfl, hm, ⟨⟨sv1, av1, hH, fun b hp => ?_⟩, h.b.trans (hu.below h1 n0 (Nat.le_refl _) hn), h.k.take m⟩, fun b hp => hu.other (h2 b hp).1 (h2 b hp).2, fun b o e => ⟨(hap b o e).1, (hap b o e).2.2⟩, hu.g.size⟩
  rcases hp with hp | ⟨h0, o, e⟩
  · exact ⟨Nat.lt_of_lt_of_le (h2 b hp).1 hu.g.size, hu.pt (h2 b hp).1 (h2 b hp).2⟩
  · refine ⟨?_, (hap b o e).2.1⟩
    obtain ⟨b', o', e', hl, _⟩ := hm.at_ h0
    rw [e] at e'
    cases e'
    exact hl
theorem Hq.take {P : Nat → Prop} {w0 : World} (h : Hq n0 hb s P w0 w) (m : W.Mg) (hr : -9223372036854775808 ≤ m.k ∧ m.k ≤ 9223372036854775807) : Calls Try.prog 15 #[.pointer (some ⟨hb, 0, none⟩), mgV m] w fun e w' => ∃ sl, e = .returned (slV sl) ∧ Ms sl (W.take s m).2 w' ∧ Hq n0 hb (W.take s m).1 (fun b => P b ∨ 0 < sl.n ∧ ∃ o, sl.a = some ⟨b, o, none⟩) w0 w' ∧ (∀ b, P b → w'.heap[b]? = w.heap[b]?) :=
  (h.takeS m hr).mono (by
    rintro e w1 ⟨sl, h1, h2, h3, h4, _⟩
    exact ⟨sl, h1, h2, h3, h4⟩)
theorem Hq.owner {P : Nat → Prop} {w0 : World} (h : Hq n0 hb s P w0 w) : Calls Try.prog 14 #[.pointer (some ⟨hb, 0, none⟩)] w fun e w' => e = .returned (.int .i64 s.ow) ∧ w = w' := by
  obtain ⟨sv, av, h1, h2⟩ := h.c
  exact owner_any h1
theorem Hq.busy {P : Nat → Prop} {w0 : World} (h : Hq n0 hb s P w0 w) : Calls Try.prog 18 #[.pointer (some ⟨hb, 0, none⟩)] w fun e w' => e = .returned (.bool (s.sv != -1)) ∧ w = w' := by
  obtain ⟨sv, av, h1, h2⟩ := h.c
  exact busy_any h1
theorem Hq.takes {P : Nat → Prop} {w0 : World} (h : Hq n0 hb s P w0 w) (m : W.Mg) (hr : -9223372036854775808 ≤ m.k ∧ m.k ≤ 9223372036854775807) : Calls Try.prog 12 #[.pointer (some ⟨hb, 0, none⟩), mgV m] w fun e w' => e = .returned (.bool (W.tk s m)) ∧ Below w.heap.size w w' := by
  obtain ⟨sv, av, h1, h2⟩ := h.c
  exact takes_any h1 (Nat.le_trans h.k.lena (by decide)) m hr
theorem Hq.sharers {P : Nat → Prop} {w0 : World} (h : Hq n0 hb s P w0 w) : Calls Try.prog 20 #[.pointer (some ⟨hb, 0, none⟩)] w fun e w' => (∃ t, e = .returned t ∧ On w.heap.size t s.sh w') ∧ Below w.heap.size w w' := by
  obtain ⟨sv, av, h1, h2⟩ := h.c
  exact sharers_any h1 (Nat.le_trans h.k.lens (by decide))
theorem Hq.data {P : Nat → Prop} {w0 : World} (h : Hq n0 hb s P w0 w) : Calls Try.prog 22 #[.pointer (some ⟨hb, 0, none⟩)] w fun e w' => e = .returned (.agg #[.int .u32 s.e0, .int .u32 s.e1, .int .u32 s.e2, .int .u32 s.e3]) ∧ Below w.heap.size w w' := by
  obtain ⟨sv, av, h1, h2⟩ := h.c
  exact data_any h1
end Go.Proofs.Ytadkpelcbnljbaa
