/- home: both homes in memory. -/
import Derived.Test.YthkielaicnmaeaaHomY
namespace Go.Proofs.Ythkielaicnmaeaa
open Go.ChangeShapes Go.WideShapes Go.ChangeAt Go.RowKit
set_option linter.unusedVariables false
set_option linter.unusedSimpArgs false
variable {n0 hb db cb : Nat} {s s' : W.Hm} {d d' : W.Dm} {sv av dsv dwv sv' av' : Value} {w w' w'' w0 : World} {P P' : Nat → Prop}
theorem On.blocks {b : Nat} {v : Value} {l : List Int} (h : On b v l w) (hb : ∀ g, v.ownBlock = some g → w'.heap[g]? = w.heap[g]?) : On b v l w' := by
  refine ⟨h.1, ?_⟩
  rcases h.2 with h1 | ⟨g, cap, cur, h1, h2, h3, h4⟩
  · exact Or.inl h1
  · exact Or.inr ⟨g, cap, cur, h1, h2, (hb g (by rw [h1]; rfl)).trans h3, h4⟩
theorem Bc.blocks {b n : Nat} {f : Nat → Value} (h : Bc b n f w) (hz : w.heap.size ≤ w'.heap.size) (q : w'.heap[b]? = w.heap[b]?) : Bc b n f w' :=
  ⟨Nat.lt_of_lt_of_le h.lt hz, fun j hj => (World.cell?_of_block (a := ⟨b, j, none⟩) q).trans (h.c j hj), fun j => (World.frozen?_of_block (a := ⟨b, j, none⟩) q).trans (h.fz j)⟩
theorem Dh.blocks (H : Dh n0 db d dsv dwv w) (hz : w.heap.size ≤ w'.heap.size) (h1 : w'.heap[db]? = w.heap[db]?) (h2 : ∀ g, dsv.ownBlock = some g → w'.heap[g]? = w.heap[g]?) (h3 : ∀ g, dwv.ownBlock = some g → w'.heap[g]? = w.heap[g]?) : Dh n0 db d dsv dwv w' :=
  ⟨H.b.blocks hz h1, H.os.blocks h2, H.oa.blocks h3, H.sn, H.an, H.n0⟩
theorem Ho.blocks (H : Ho n0 hb s sv av w) (hz : w.heap.size ≤ w'.heap.size) (h1 : w'.heap[hb]? = w.heap[hb]?) (h2 : ∀ g, sv.ownBlock = some g → w'.heap[g]? = w.heap[g]?) (h3 : ∀ g, av.ownBlock = some g → w'.heap[g]? = w.heap[g]?) : Ho n0 hb s sv av w' :=
  ⟨H.b.blocks hz h1, H.os.blocks h2, H.oa.blocks h3, H.sn, H.an, H.sa, H.n0⟩
/-- Both homes; P are blocks that neither writes. -/
structure Pw (n0 hb db : Nat) (s : W.Hm) (d : W.Dm) (P : Nat → Prop) (w0 w : World) : Prop where
  c : ∃ sv av dsv dwv, Ho n0 hb s sv av w ∧ Dh n0 db d dsv dwv w ∧ Hpt hb sv av db ∧ (∀ g, dsv.ownBlock = some g → Hpt hb sv av g) ∧ (∀ g, dwv.ownBlock = some g → Hpt hb sv av g) ∧ ∀ b, P b → b < w.heap.size ∧ Hpt hb sv av b ∧ b ≠ db
  b : Below n0 w0 w
theorem Pw.sub (h : Pw n0 hb db s d P w0 w) (hp : ∀ b, P' b → P b) : Pw n0 hb db s d P' w0 w := by
  obtain ⟨sv, av, dsv, dwv, h1, h2, h3, h4, h5, h6⟩ := h.c
  exact ⟨⟨sv, av, dsv, dwv, h1, h2, h3, h4, h5, fun b q => h6 b (hp b q)⟩, h.b⟩
theorem Pw.below (h : Pw n0 hb db s d P w0 w) (hb2 : Below w.heap.size w w') : Pw n0 hb db s d P w0 w' := by
  obtain ⟨sv, av, dsv, dwv, h1, h2, h3, h4, h5, h6⟩ := h.c
  have hn : n0 ≤ w.heap.size := Nat.le_trans h1.n0 (Nat.le_of_lt h1.b.lt)
  exact ⟨⟨sv, av, dsv, dwv, h1.below hb2, h2.below hb2, h3, h4, h5, fun b q => ⟨Nat.lt_of_lt_of_le (h6 b q).1 hb2.size, (h6 b q).2⟩⟩, h.b.trans (hb2.mono hn)⟩
theorem Pw.addB (h : Pw n0 hb db s d P w0 w) (hb2 : Below w.heap.size w w') (b0 : Nat) (hl : w.heap.size ≤ b0) (hl2 : b0 < w'.heap.size) : Pw n0 hb db s d (fun b => P b ∨ b = b0) w0 w' := by
  obtain ⟨sv, av, dsv, dwv, h1, h2, h3, h4, h5, h6⟩ := h.c
  have hn : n0 ≤ w.heap.size := Nat.le_trans h1.n0 (Nat.le_of_lt h1.b.lt)
  refine ⟨⟨sv, av, dsv, dwv, h1.below hb2, h2.below hb2, h3, h4, h5, fun b q => ?_⟩, h.b.trans (hb2.mono hn)⟩
  rcases q with q | rfl
  · exact ⟨Nat.lt_of_lt_of_le (h6 b q).1 hb2.size, (h6 b q).2⟩
  · exact ⟨hl2, h1.pt_new hl, fun e => by have := h2.b.lt; omega⟩
theorem Pw.take (h : Pw n0 hb db s d P w0 w) (hk : W.Hok s) (m : W.Mg) (hr : -9223372036854775808 ≤ m.k ∧ m.k ≤ 9223372036854775807) : Calls Try.prog 15 #[.pointer (some ⟨hb, 0, none⟩), mgV m] w fun e w' => ∃ sl, e = .returned (slV sl) ∧ Ms sl (W.take s m).2 w' ∧ Pw n0 hb db (W.take s m).1 d (fun b => P b ∨ 0 < sl.n ∧ ∃ o, sl.a = some ⟨b, o, none⟩) w0 w' ∧ (∀ b, P b → w'.heap[b]? = w.heap[b]?) := by
  obtain ⟨sv, av, dsv, dwv, h1, h2, h3, h4, h5, h6⟩ := h.c
  have hn : n0 ≤ w.heap.size := Nat.le_trans h1.n0 (Nat.le_of_lt h1.b.lt)
  refine (take_any h1 hk m hr).mono ?_
  rintro e w1 ⟨sl, sv1, av1, rfl, hm, hH, hu, hap⟩
  refine ⟨sl, rfl, hm, ⟨⟨sv1, av1, dsv, dwv, hH, h2.blocks hu.g.size (hu.other h2.b.lt h3) (fun g e => hu.other (h2.os.lt e).2 (h4 g e)) (fun g e => hu.other (h2.oa.lt e).2 (h5 g e)), hu.pt h2.b.lt h3, fun g e => hu.pt (h2.os.lt e).2 (h4 g e), fun g e => hu.pt (h2.oa.lt e).2 (h5 g e), fun b hp => ?_⟩, h.b.trans (hu.below h1 n0 (Nat.le_refl _) hn)⟩, fun b hp => hu.other (h6 b hp).1 (h6 b hp).2.1⟩
  rcases hp with hp | ⟨h0, o, e⟩
  · exact ⟨Nat.lt_of_lt_of_le (h6 b hp).1 hu.g.size, hu.pt (h6 b hp).1 (h6 b hp).2.1, (h6 b hp).2.2⟩
  · have hb := hap b o e
    refine ⟨?_, hb.2, fun e2 => by have := h2.b.lt; omega⟩
    obtain ⟨b', o', e', hl, _⟩ := hm.at_ h0
    rw [e] at e'
    cases e'
    exact hl
theorem Pw.rtake {s2 : W.Hm} (h' : Pw n0 hb db s2 d P w0 w) (hk : W.Hok s) (hR : W.Rl0 s d) (m : W.Mg) (hkk : m.k = 1 ∨ m.k = 2 ∨ m.k = 3 ∨ m.k = 10 ∨ m.k = 11 ∨ m.k = 12) : Calls Try.prog 16 #[.pointer (some ⟨db, 0, none⟩), mgV m] w fun e w' => ∃ sl, e = .returned (slV sl) ∧ Ms sl (W.dtake d m).2 w' ∧ Pw n0 hb db s2 (W.dtake d m).1 P w0 w' ∧ (∀ b, P b → w'.heap[b]? = w.heap[b]?) ∧ w.heap.size ≤ w'.heap.size := by
  obtain ⟨sv, av, dsv, dwv, h1, h2, h3, h4, h5, h6⟩ := h'.c
  have hn : n0 ≤ w.heap.size := Nat.le_trans h1.n0 (Nat.le_of_lt h1.b.lt)
  refine (dtake_any h2 m hkk (by rw [hR.sh]; exact Nat.le_trans hk.lens (by decide)) (by rw [hR.ws]; exact Nat.le_trans hk.lena (by decide)) (by rw [hR.hs]; have := hk.h1; omega) (by rw [hR.hs]; exact hk.h4)).mono ?_
  rintro e w1 ⟨sl, sv1, av1, rfl, hm, hH, hu, hap⟩
  have oth : ∀ b, b < w.heap.size → b ≠ db → w1.heap[b]? = w.heap[b]? := fun b hl hne => hu.g.block b hl hne
  refine ⟨sl, rfl, hm, ⟨⟨sv, av, sv1, av1, h1.blocks hu.g.size (oth hb h1.b.lt (fun e => h3.1 e.symm)) (fun g e => oth g (h1.os.lt e).2 (fun q => h3.2.1 (by rw [e, q]))) (fun g e => oth g (h1.oa.lt e).2 (fun q => h3.2.2 (by rw [e, q]))), hH, h3, fun g e => ?_, fun g e => ?_, fun b hp => ⟨Nat.lt_of_lt_of_le (h6 b hp).1 hu.g.size, (h6 b hp).2⟩⟩, h'.b.trans (hu.g.below hn (fun b e => by have := h2.n0; omega))⟩, fun b hp => oth b (h6 b hp).1 (h6 b hp).2.2, hu.g.size⟩
  · rcases hu.fs g e with q | q
    · exact h4 g q
    · exact h1.pt_new q
  · rcases hu.fa g e with q | q
    · exact h5 g q
    · exact h1.pt_new q
theorem W.tk_kind {s : W.Hm} {m : W.Mg} (hk : W.tk s m = true) : m.k = 1 ∨ m.k = 2 ∨ m.k = 3 ∨ m.k = 10 ∨ m.k = 11 ∨ m.k = 12 := by
  have hnot : ¬ (m.l ≠ s.ln ∨ m.t ≠ -1 ∨ m.f < 0 ∨ s.hs ≤ m.f) := fun h => by unfold W.tk at hk; rw [if_pos h] at hk; cases hk
  unfold W.tk at hk
  rw [if_neg hnot] at hk
  by_cases h1 : m.k = 1 ∨ m.k = 2 ∨ m.k = 3
  · omega
  · rw [if_neg h1] at hk
    by_cases h2 : m.k = 10
    · omega
    · rw [if_neg h2] at hk
      by_cases h3 : m.k = 11
      · omega
      · rw [if_neg h3] at hk
        by_cases h4 : m.k = 12
        · omega
        · rw [if_neg h4] at hk; cases hk
theorem Pw.owner (h : Pw n0 hb db s d P w0 w) : Calls Try.prog 14 #[.pointer (some ⟨hb, 0, none⟩)] w fun e w' => e = .returned (.int .i64 s.ow) ∧ w = w' := by
  obtain ⟨sv, av, dsv, dwv, h1, h2, h3, h4, h5, h6⟩ := h.c
  exact owner_any h1
theorem Pw.busy (h : Pw n0 hb db s d P w0 w) : Calls Try.prog 18 #[.pointer (some ⟨hb, 0, none⟩)] w fun e w' => e = .returned (.bool (s.sv != -1)) ∧ w = w' := by
  obtain ⟨sv, av, dsv, dwv, h1, h2, h3, h4, h5, h6⟩ := h.c
  exact busy_any h1
theorem Pw.takes (h : Pw n0 hb db s d P w0 w) (hk : W.Hok s) (m : W.Mg) (hr : -9223372036854775808 ≤ m.k ∧ m.k ≤ 9223372036854775807) : Calls Try.prog 12 #[.pointer (some ⟨hb, 0, none⟩), mgV m] w fun e w' => e = .returned (.bool (W.tk s m)) ∧ Below w.heap.size w w' := by
  obtain ⟨sv, av, dsv, dwv, h1, h2, h3, h4, h5, h6⟩ := h.c
  exact takes_any h1 (Nat.le_trans hk.lena (by decide)) m hr
theorem Pw.rtakes (h : Pw n0 hb db s d P w0 w) (hk : W.Hok s) (hR : W.Rl0 s d) (m : W.Mg) (hr : -9223372036854775808 ≤ m.k ∧ m.k ≤ 9223372036854775807) : Calls Try.prog 13 #[.pointer (some ⟨db, 0, none⟩), mgV m] w fun e w' => e = .returned (.bool (W.tk s m)) ∧ Below w.heap.size w w' := by
  obtain ⟨sv, av, dsv, dwv, h1, h2, h3, h4, h5, h6⟩ := h.c
  rw [← hR.tk hk m]
  exact dtakes_any h2 (by rw [hR.ws]; exact Nat.le_trans hk.lena (by decide)) m hr
theorem Pw.clone (h : Pw n0 hb db s d P w0 w) (hk : W.Hok s) : Calls Try.prog 11 #[.pointer (some ⟨hb, 0, none⟩)] w fun e w' => ∃ cb, e = .returned (.pointer (some ⟨cb, 0, none⟩)) ∧ w'.cell? ⟨cb, 6, none⟩ = some (.int .i64 s.ow) ∧ Pw n0 hb db s d (fun b => P b ∨ b = cb) w0 w' ∧ Below w.heap.size w w' := by
  obtain ⟨sv, av, dsv, dwv, h1, h2, h3, h4, h5, h6⟩ := h.c
  refine (cloneH_any h1 (Nat.le_trans hk.lens (by decide)) (Nat.le_trans hk.lena (by decide))).mono ?_
  rintro e w1 ⟨rfl, h7, h8, h9⟩
  exact ⟨w.heap.size, rfl, h7, h.addB h9 w.heap.size (Nat.le_refl _) h8, h9⟩
theorem Pw.sharers (h : Pw n0 hb db s d P w0 w) (hk : W.Hok s) : Calls Try.prog 20 #[.pointer (some ⟨hb, 0, none⟩)] w fun e w' => (∃ t, e = .returned t ∧ On w.heap.size t s.sh w') ∧ Below w.heap.size w w' := by
  obtain ⟨sv, av, dsv, dwv, h1, h2, h3, h4, h5, h6⟩ := h.c
  exact sharers_any h1 (Nat.le_trans hk.lens (by decide))
theorem Pw.data (h : Pw n0 hb db s d P w0 w) : Calls Try.prog 22 #[.pointer (some ⟨hb, 0, none⟩)] w fun e w' => e = .returned (.agg #[.int .u32 s.e0, .int .u32 s.e1, .int .u32 s.e2, .int .u32 s.e3]) ∧ Below w.heap.size w w' := by
  obtain ⟨sv, av, dsv, dwv, h1, h2, h3, h4, h5, h6⟩ := h.c
  exact data_any h1
theorem ownerc_any {x : Int} (c : w.cell? ⟨cb, 6, none⟩ = some (.int .i64 x)) : Calls Try.prog 14 #[.pointer (some ⟨cb, 0, none⟩)] w fun e w' => e = .returned (.int .i64 x) ∧ w = w' := by
  go_enter Try.func14, Try.ntmps14
  go_wp2
  go_ret
  exact ⟨rfl, rfl⟩
/-- What of the document's home is read. -/
theorem Pw.rd (h : Pw n0 hb db s d P w0 w) (hk : W.Hok s) (hR : W.Rl0 s d) : ∃ s2 : W.Sl, (∀ w', Below w.heap.size w w' → w'.cell? ⟨db, 8, none⟩ = some (.bool (s.sv != -1)) ∧ w'.cell? ⟨db, 6, none⟩ = some (.int .i64 s.ow) ∧ w'.cell? ⟨db, 7, none⟩ = some (slV s2) ∧ w'.cell? ⟨db, 2, none⟩ = some (.int .u32 s.e0) ∧ w'.cell? ⟨db, 3, none⟩ = some (.int .u32 s.e1) ∧ w'.cell? ⟨db, 4, none⟩ = some (.int .u32 s.e2) ∧ w'.cell? ⟨db, 5, none⟩ = some (.int .u32 s.e3)) ∧ ∀ w', Below w.heap.size w w' → Li s2 s.sh w' := by
  obtain ⟨sv, av, dsv, dwv, h1, h2, h3, h4, h5, h6⟩ := h.c
  obtain ⟨s2, hs2, hL⟩ := h2.os.li (by rw [hR.sh]; exact Nat.le_trans hk.lens (by decide))
  refine ⟨s2, fun w' hb => ?_, fun w' hb => by rw [← hR.sh]; exact hL.below hb⟩
  have H := h2.below hb
  have e : (s.sv != -1) = d.bz := by rw [hR.bz]; by_cases q : s.sv = -1 <;> simp [q]
  refine ⟨by rw [e]; exact H.c 8 (by decide), by rw [← hR.ow]; exact H.c 6 (by decide), by rw [← hs2]; exact H.c 7 (by decide), by rw [← hR.e0]; exact H.c 2 (by decide), by rw [← hR.e1]; exact H.c 3 (by decide), by rw [← hR.e2]; exact H.c 4 (by decide), by rw [← hR.e3]; exact H.c 5 (by decide)⟩
theorem pw_new (l hs x0 x1 x2 x3 : Int) (w w1 w2 : World) (H : Ho w.heap.size (w.heap.size + 1) (W.hm0 l hs x0 x1 x2 x3) (.slice none 0 0) (.slice none 0 0) w1) (hb : Below w.heap.size w w1) (D : Dh w1.heap.size (w1.heap.size + 1) (W.dm0 l hs x0 x1 x2 x3) (.slice none 0 0) (.slice none 0 0) w2) (hb2 : Below w1.heap.size w1 w2) : Pw w.heap.size (w.heap.size + 1) (w1.heap.size + 1) (W.hm0 l hs x0 x1 x2 x3) (W.dm0 l hs x0 x1 x2 x3) (fun _ => False) w w2 :=
  ⟨⟨_, _, _, _, H.below hb2, ⟨D.b, D.os.base hb.size, D.oa.base hb.size, D.sn, D.an, Nat.le_trans hb.size D.n0⟩, ⟨by have := H.b.lt; omega, by simp [Value.ownBlock], by simp [Value.ownBlock]⟩, fun g e => (by cases e), fun g e => (by cases e), fun b q => q.elim⟩, hb.trans (hb2.mono hb.size)⟩
theorem Ms.keep {sl : W.Sl} {l : List W.Mg} (h : Ms sl l w) (hz : w.heap.size ≤ w'.heap.size) (hk : 0 < sl.n → ∀ b o, sl.a = some ⟨b, o, none⟩ → w'.heap[b]? = w.heap[b]?) : Ms sl l w' :=
  ⟨h.n, h.m, h.nc, fun h0 => by
    obtain ⟨b, o, e, hl, hc⟩ := h.at_ h0
    exact ⟨b, o, e, Nat.lt_of_lt_of_le hl hz, fun j x hx => range_block (hc j x hx) (hk h0 b o e)⟩⟩
theorem sameints_self (s t : W.Sl) (l : List Int) (w : World) (hs : Li s l w) (ht : Li t l w) : Calls Try.prog 19 #[slV s, slV t] w fun e w' => e = .returned (.bool true) ∧ Below w.heap.size w w' :=
  (sameints_any s t l l w hs ht).mono fun e w' ⟨a, b⟩ => ⟨by rw [a]; simp, b⟩
end Go.Proofs.Ythkielaicnmaeaa
