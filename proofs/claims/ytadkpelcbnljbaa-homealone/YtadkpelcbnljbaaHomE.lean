/- home: a home in memory; what a call turns. -/
import Derived.Test.YtadkpelcbnljbaaHomC2
import Derived.Deep.MidRow
namespace Go.Proofs.Ytadkpelcbnljbaa
open Go.ChangeShapes Go.WideShapes Go.ChangeAt Go.RowKit
set_option linter.unusedVariables false
set_option linter.unusedSimpArgs false

def hoF (s : W.Hm) (sv av : Value) : Nat → Value
  | 0 => .int .i64 s.ln
  | 1 => .int .i64 s.hs
  | 2 => .int .u32 s.e0
  | 3 => .int .u32 s.e1
  | 4 => .int .u32 s.e2
  | 5 => .int .u32 s.e3
  | 6 => .int .i64 s.ow
  | 7 => sv
  | 8 => .int .i64 s.sv
  | 9 => .int .i64 s.b_
  | 10 => av
  | 11 => .int .i64 s.te
  | j + 12 => (mgL s.bk).getD j (.int .i64 0)
/-- A home in memory. -/
structure Ho (n0 hb : Nat) (s : W.Hm) (sv av : Value) (w : World) : Prop where
  b : Bc hb 23 (hoF s sv av) w
  os : On n0 sv s.sh w
  oa : On n0 av s.ac w
  sn : sv.ownBlock ≠ some hb
  an : av.ownBlock ≠ some hb
  sa : ∀ g, sv.ownBlock = some g → av.ownBlock ≠ some g
  n0 : n0 ≤ hb
/-- What a call that writes a home may turn. -/
structure Hu (hb : Nat) (sv av sv' av' : Value) (w w' : World) : Prop where
  g : Gs (fun b => b = hb ∨ sv.ownBlock = some b ∨ av.ownBlock = some b) w w'
  fs : ∀ g, sv'.ownBlock = some g → sv.ownBlock = some g ∨ w.heap.size ≤ g
  fa : ∀ g, av'.ownBlock = some g → av.ownBlock = some g ∨ w.heap.size ≤ g
variable {n0 hb : Nat} {s s' : W.Hm} {sv av sv' av' sv'' av'' : Value} {w w' w'' : World}
theorem On.lt {base : Nat} {v : Value} {l : List Int} (h : On base v l w) {g : Nat} (e : v.ownBlock = some g) : base ≤ g ∧ g < w.heap.size := by
  rcases h.form with ⟨rfl, _⟩ | ⟨g', cap, rfl, h1, h2, _⟩
  · cases e
  · have : g' = g := by simpa [Value.ownBlock] using e
    subst this
    exact ⟨h1, h2⟩
theorem On.base {b b' : Nat} {v : Value} {l : List Int} (h : On b' v l w) (hb : b ≤ b') : On b v l w := by
  refine ⟨h.1, ?_⟩
  rcases h.2 with h | ⟨g, cap, cur, h1, h2, h3⟩
  · exact Or.inl h
  · exact Or.inr ⟨g, cap, cur, h1, Nat.le_trans hb h2, h3⟩
theorem On.keep {b : Nat} {v : Value} {l : List Int} {r : Option Nat} (h : On b v l w) (hg : w.grownBy w' r) (hne : ∀ g, v.ownBlock = some g → r ≠ some g) : On b v l w' :=
  World.ownsRow.kept h hg (by
    cases e : v.ownBlock with
    | none => exact Or.inl rfl
    | some g => exact Or.inr (fun q => hne g e q.symm))
theorem Hu.refl (hb : Nat) (sv av : Value) (w : World) : Hu hb sv av sv av w w := ⟨Gs.refl _ _, fun _ h => Or.inl h, fun _ h => Or.inl h⟩
theorem Hu.of_below (h : Below w.heap.size w w') : Hu hb sv av sv av w w' := ⟨Gs.of_below h, fun _ h => Or.inl h, fun _ h => Or.inl h⟩
theorem Hu.trans (h : Hu hb sv av sv' av' w w') (k : Hu hb sv' av' sv'' av'' w' w'') : Hu hb sv av sv'' av'' w w'' := by
  refine ⟨h.g.trans' (fun b hb hs => ?_) k.g, fun g e => ?_, fun g e => ?_⟩
  · rcases hs with e | e | e
    · exact Or.inl e
    · rcases h.fs b e with e | e
      · exact Or.inr (Or.inl e)
      · omega
    · rcases h.fa b e with e | e
      · exact Or.inr (Or.inr e)
      · omega
  · rcases k.fs g e with e | e
    · exact h.fs g e
    · exact Or.inr (Nat.le_trans h.g.size e)
  · rcases k.fa g e with e | e
    · exact h.fa g e
    · exact Or.inr (Nat.le_trans h.g.size e)
/-- A block that is none of the home's. -/
def Hpt (hb : Nat) (sv av : Value) (b : Nat) : Prop := b ≠ hb ∧ sv.ownBlock ≠ some b ∧ av.ownBlock ≠ some b
theorem Hu.other (h : Hu hb sv av sv' av' w w') {b : Nat} (hl : b < w.heap.size) (ha : Hpt hb sv av b) : w'.heap[b]? = w.heap[b]? := h.g.block b hl (fun e => by
  rcases e with e | e | e
  · exact ha.1 e
  · exact ha.2.1 e
  · exact ha.2.2 e)
theorem Hu.pt (h : Hu hb sv av sv' av' w w') {b : Nat} (hl : b < w.heap.size) (ha : Hpt hb sv av b) : Hpt hb sv' av' b := ⟨ha.1, fun e => by
  rcases h.fs b e with e | e
  · exact ha.2.1 e
  · omega, fun e => by
  rcases h.fa b e with e | e
  · exact ha.2.2 e
  · omega⟩
theorem Ho.pt_new (H : Ho n0 hb s sv av w) {b : Nat} (hl : w.heap.size ≤ b) : Hpt hb sv av b := ⟨by have := H.b.lt; omega, fun e => by have := (H.os.lt e).2; omega, fun e => by have := (H.oa.lt e).2; omega⟩
theorem Ho.pt_low (H : Ho n0 hb s sv av w) {b : Nat} (hl : b < n0) : Hpt hb sv av b := ⟨by have := H.n0; omega, fun e => by have := (H.os.lt e).1; omega, fun e => by have := (H.oa.lt e).1; omega⟩
theorem Hu.below (h : Hu hb sv av sv' av' w w') (H : Ho n0 hb s sv av w) (n : Nat) (hn : n ≤ n0) (hw : n ≤ w.heap.size) : Below n w w' := h.g.below hw (fun b e => by
  rcases e with e | e | e
  · have := H.n0; omega
  · have := (H.os.lt e).1; omega
  · have := (H.oa.lt e).1; omega)
theorem Ho.below (H : Ho n0 hb s sv av w) (h : Below w.heap.size w w') : Ho n0 hb s sv av w' := ⟨H.b.below h, H.os.below h, H.oa.below h, H.sn, H.an, H.sa, H.n0⟩
theorem Ho.c (H : Ho n0 hb s sv av w) (k : Nat) (hk : k < 23) : w.cell? ⟨hb, k, none⟩ = some (hoF s sv av k) := H.b.c k hk
theorem MsgAt.up {b : Nat} {m : W.Mg} (hm : MsgAt b m w) (hu : Hu hb sv av sv' av' w w') (ha : Hpt hb sv av b) : MsgAt b m w' := (hu.other hm.lt ha).trans hm
/-- A block that is none of the home's is written. -/
theorem Ho.oth (H : Ho n0 hb s sv av w) {b : Nat} (hg : w.grownBy w' (some b)) (ha : Hpt hb sv av b) : Ho n0 hb s sv av w' :=
  ⟨H.b.grown hg (fun e => ha.1 (by cases e; rfl)), H.os.keep hg (fun g e q => ha.2.1 (by cases q; exact e)), H.oa.keep hg (fun g e q => ha.2.2 (by cases q; exact e)), H.sn, H.an, H.sa, H.n0⟩
/-- A number, or the like, of the home's is set. -/
theorem Ho.put (H : Ho n0 hb s sv av w) (k : Nat) (v : Value) (s' : W.Hm) (h : ∀ j, updV (hoF s sv av) k v j = hoF s' sv av j) (h1 : s'.sh = s.sh) (h2 : s'.ac = s.ac) :
    Ho n0 hb s' sv av (w.setCell ⟨hb, k, none⟩ v) ∧ Hu hb sv av sv av w (w.setCell ⟨hb, k, none⟩ v) := by
  have hg := gsetCell w hb k v
  refine ⟨⟨(H.b.set k v).congr fun j _ => h j, ?_, ?_, H.sn, H.an, H.sa, H.n0⟩, ⟨Gs.of_grown hg (fun b e => Or.inl (by cases e; rfl)), fun _ h => Or.inl h, fun _ h => Or.inl h⟩⟩
  · rw [h1]
    exact H.os.keep hg (fun g e q => H.sn (by cases q; exact e))
  · rw [h2]
    exact H.oa.keep hg (fun g e q => H.an (by cases q; exact e))
/-- The sharers are turned. -/
theorem Ho.setS (H : Ho n0 hb s sv av w) {v : Value} {l : List Int} (hg : w.grownBy w' sv.ownBlock) (ho : On n0 v l w') (hv : v.ownBlock = sv.ownBlock ∨ ∀ g, v.ownBlock = some g → w.heap.size ≤ g) :
    Ho n0 hb { s with sh := l } v av (w'.setCell ⟨hb, 7, none⟩ v) ∧ Hu hb sv av v av w (w'.setCell ⟨hb, 7, none⟩ v) := by
  have hvb : ∀ g, v.ownBlock = some g → sv.ownBlock = some g ∨ w.heap.size ≤ g := fun g e => by
    rcases hv with h | h
    · exact Or.inl (h ▸ e)
    · exact Or.inr (h g e)
  have hn : v.ownBlock ≠ some hb := fun e => by
    rcases hvb _ e with h | h
    · exact H.sn h
    · have := H.b.lt; omega
  have hg2 := gsetCell w' hb 7 v
  have B1 : Bc hb 23 (hoF s sv av) w' := H.b.grown hg (fun e => H.sn e.symm)
  refine ⟨⟨(B1.set 7 v).congr fun j _ => ?_, ho.keep hg2 (fun g e q => hn (by cases q; exact e)), (H.oa.keep hg (fun g e q => H.sa g q e)).keep hg2 (fun g e q => H.an (by cases q; exact e)), hn, H.an, fun g e q => ?_, H.n0⟩, ⟨?_, hvb, fun _ h => Or.inl h⟩⟩
  · unfold updV
    by_cases e : j = 7
    · subst e; rfl
    · rw [if_neg e]
      unfold hoF
      split <;> first | rfl | exact absurd rfl e
  · rcases hvb _ e with h | h
    · exact H.sa g h q
    · have := (H.oa.lt q).2; omega
  · exact (Gs.of_grown hg (fun b e => Or.inr (Or.inl e))).trans (Gs.of_grown hg2 (fun b e => Or.inl (by cases e; rfl)))
/-- Those whose Ack is to come are turned. -/
theorem Ho.setA (H : Ho n0 hb s sv av w) {v : Value} {l : List Int} (hg : w.grownBy w' av.ownBlock) (ho : On n0 v l w') (hv : v.ownBlock = av.ownBlock ∨ ∀ g, v.ownBlock = some g → w.heap.size ≤ g) :
    Ho n0 hb { s with ac := l } sv v (w'.setCell ⟨hb, 10, none⟩ v) ∧ Hu hb sv av sv v w (w'.setCell ⟨hb, 10, none⟩ v) := by
  have hvb : ∀ g, v.ownBlock = some g → av.ownBlock = some g ∨ w.heap.size ≤ g := fun g e => by
    rcases hv with h | h
    · exact Or.inl (h ▸ e)
    · exact Or.inr (h g e)
  have hn : v.ownBlock ≠ some hb := fun e => by
    rcases hvb _ e with h | h
    · exact H.an h
    · have := H.b.lt; omega
  have hg2 := gsetCell w' hb 10 v
  have B1 : Bc hb 23 (hoF s sv av) w' := H.b.grown hg (fun e => H.an e.symm)
  refine ⟨⟨(B1.set 10 v).congr fun j _ => ?_, (H.os.keep hg (fun g e q => H.sa g e q)).keep hg2 (fun g e q => H.sn (by cases q; exact e)), ho.keep hg2 (fun g e q => hn (by cases q; exact e)), H.sn, hn, fun g e q => ?_, H.n0⟩, ⟨?_, fun _ h => Or.inl h, hvb⟩⟩
  · unfold updV
    by_cases e : j = 10
    · subst e; rfl
    · rw [if_neg e]
      unfold hoF
      split <;> first | rfl | exact absurd rfl e
  · rcases hvb _ q with h | h
    · exact H.sa g e h
    · have := (H.os.lt e).2; omega
  · exact (Gs.of_grown hg (fun b e => Or.inr (Or.inr e))).trans (Gs.of_grown hg2 (fun b e => Or.inl (by cases e; rfl)))
theorem Ho.th (H : Ho n0 hb s sv av w) : w.there hb 12 11 := fun j hj => ⟨by rw [H.b.c (12 + j) (by omega)]; rfl, H.b.fz _⟩
/-- The message of the last Back is set. -/
theorem Ho.setB (H : Ho n0 hb s sv av w) (m : W.Mg) : Ho n0 hb { s with bk := m } sv av (w.setCells hb 12 (mgL m)) ∧ Hu hb sv av sv av w (w.setCells hb 12 (mgL m)) := by
  have hg := gsetCells hb (mgL m) 12 w
  have hin := World.cell?_setCells_in hb (mgL m) 12 w (fun j hj => (H.th j (by rw [mgL_len] at hj; exact hj)).1)
  have hout := World.cell?_setCells_out hb (mgL m) 12 w
  refine ⟨⟨⟨Nat.lt_of_lt_of_le H.b.lt hg.size, fun j hj => ?_, fun j => ?_⟩, H.os.keep hg (fun g e q => H.sn (by cases q; exact e)), H.oa.keep hg (fun g e q => H.an (by cases q; exact e)), H.sn, H.an, H.sa, H.n0⟩, ⟨Gs.of_grown hg (fun b e => Or.inl (by cases e; rfl)), fun _ h => Or.inl h, fun _ h => Or.inl h⟩⟩
  · by_cases h : j < 12
    · rw [hout ⟨hb, j, none⟩ (fun _ _ => Or.inl h), H.b.c j hj]
      match j, h with
      | 0, _ | 1, _ | 2, _ | 3, _ | 4, _ | 5, _ | 6, _ | 7, _ | 8, _ | 9, _ | 10, _ | 11, _ => rfl
    · obtain ⟨k, rfl⟩ : ∃ k, j = 12 + k := ⟨j - 12, by omega⟩
      have hk : k < (mgL m).length := by rw [mgL_len]; omega
      rw [hin k hk]
      rw [show 12 + k = k + 12 by omega]
      show _ = some ((mgL m).getD k _)
      rw [List.getD_eq_getElem?_getD, List.getElem?_eq_getElem hk]
      rfl
  · have : ∀ (vs : List Value) (o : Nat) (w : World), (w.setCells hb o vs).frozen? ⟨hb, j, none⟩ = w.frozen? ⟨hb, j, none⟩ := by
      intro vs
      induction vs with
      | nil => intro o w; rfl
      | cons v vs ih => intro o w; exact (ih (o + 1) _).trans (World.frozen?_setCell _ _ _ _)
    rw [this]
    exact H.b.fz j
theorem Ho.stB (H : Ho n0 hb s sv av w) (m : W.Mg) : (stM ⟨hb, 12, none⟩ (mgV m)).run Try.prog w = .ok () (w.setCells hb 12 (mgL m)) :=
  run_storeVar_mid w hb 12 35 (mgL m).toArray (by have := H.th; rw [List.size_toArray, mgL_len]; exact this) (by kernel_rfl) (by simpa using oneM m)

/-! ## Messages in blocks -/
theorem MsgRoom.below {b : Nat} (hm : MsgRoom b w) (hb : Below w.heap.size w w') : MsgRoom b w' := by
  obtain ⟨Z, h1, h2⟩ := hm
  exact ⟨Z, h1, (hb.block b (Array.getElem?_eq_some_iff.1 h2).1).trans h2⟩
theorem MsgRoom.lt {b : Nat} (hm : MsgRoom b w) : b < w.heap.size := by
  obtain ⟨Z, h1, h2⟩ := hm
  exact (Array.getElem?_eq_some_iff.1 h2).1
theorem MsgRoom.st {b : Nat} (hm : MsgRoom b w) (m : W.Mg) : (stM ⟨b, 0, none⟩ (mgV m)).run Try.prog w = .ok () (w.setRow b (mgL m).toArray) := by
  obtain ⟨Z, q1, q2⟩ := hm
  exact run_storeVar_row w b 35 35 Z (mgL m).toArray q2 (by kernel_rfl) (by rw [q1]; rfl) (by simpa using oneM m)
theorem MsgRoom.set {b : Nat} (hm : MsgRoom b w) (m : W.Mg) : MsgAt b m (w.setRow b (mgL m).toArray) := by
  obtain ⟨Z, q1, q2⟩ := hm
  exact setRow_heap w b Z _ _ _ q2
theorem gsetRow (w : World) (b : Nat) (c : Array Value) : w.grownBy (w.setRow b c) (some b) := by
  refine ⟨rfl, rfl, rfl, by simp [World.setRow], fun g hb hne => setRow_other w b g c (fun e => hne (by rw [e]))⟩
theorem msgRoom_new (w : World) (Z : Array Value) (hz : Z.size = 11) : MsgRoom w.heap.size (w.alloc (.cells Z 35)) := ⟨Z, hz, heap_alloc_last w _⟩
theorem MsgAt.room {b : Nat} {m : W.Mg} (h : MsgAt b m w) : MsgRoom b w := ⟨(mgL m).toArray, by simp [mgL_len], h⟩
theorem MsgAt.cAt {b : Nat} {m : W.Mg} (h : MsgAt b m w) (j : Nat) : w.cell? ⟨b, j, none⟩ = (mgL m)[j]? := by
  rw [cell_of_row _ _ j _ 35 (0, 0) h]
  simp
theorem MsgAt.fz {b : Nat} {m : W.Mg} (h : MsgAt b m w) (j : Nat) : w.frozen? ⟨b, j, none⟩ = false := by
  have h' : w.heap[b]? = some (.cells (mgL m).toArray 35) := h
  simp [World.frozen?, h']
theorem MsgAt.set1 {b : Nat} {m m' : W.Mg} (h : MsgAt b m w) (k : Nat) (v : Value) (e : (mgL m).set k v = mgL m') : MsgAt b m' (w.setCell ⟨b, k, none⟩ v) := by
  have h' : w.heap[b]? = some (.cells (mgL m).toArray 35) := h
  unfold MsgAt World.setCell
  rw [Array.getElem?_modify]
  simp [h', ← e]
theorem ms_one (m : W.Mg) (w : World) : Ms ⟨some ⟨w.heap.size, 0, none⟩, 1, 1⟩ [m] (w.alloc (.cells (mgL m).toArray 35)) :=
  ⟨rfl, by show 1 ≤ 4096; decide, by show 1 ≤ 1; decide, fun _ => ⟨w.heap.size, 0, rfl, by simp, fun j x hx => by
    match j, hx with
    | 0, hx =>
      obtain rfl : m = x := by simpa using hx
      exact range_new w _ _
    | j + 1, hx => simp at hx⟩⟩
theorem ms_nil (w : World) : Ms ⟨none, 0, 0⟩ [] w := ⟨rfl, by show 0 ≤ 4096; decide, Nat.le_refl _, fun h => absurd h (Nat.lt_irrefl 0)⟩
end Go.Proofs.Ytadkpelcbnljbaa
