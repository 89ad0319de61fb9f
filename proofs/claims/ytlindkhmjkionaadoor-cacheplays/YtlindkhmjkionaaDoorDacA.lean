/- the document's cache: words, the cache in memory. -/
import Derived.Test.YtlindkhmjkionaaDoorCacI
import Derived.Test.YtlindkhmjkionaaDoorSrtB
namespace Go.Proofs.YtlindkhmjkionaaDoor
open Go.ChangeShapes Go.WideShapes Go.ChangeAt Go.RowKit
set_option linter.unusedVariables false
set_option linter.unusedSimpArgs false

/-- Words for whole structs that the walk does not open. -/
def ldX (a : Addr) : Sem Value := loadVar 42 a
theorem ldX_eq (a : Addr) : loadVar 42 a = ldX a := rfl
def stX (a : Addr) (v : Value) : Sem Unit := storeVar 42 a v
theorem stX_eq (a : Addr) (v : Value) : storeVar 42 a v = stX a v := rfl
def bdX (l : Array (Nat × Value)) : Sem Value := Instr.build 42 l
theorem bdX_eq (l : Array (Nat × Value)) : Instr.build 42 l = bdX l := rfl
def bsX (n : Nat) (l : Array (Nat × Value)) : Sem Value := Instr.buildSlice 52 n l
theorem bsX_eq (n : Nat) (l : Array (Nat × Value)) : Instr.buildSlice 52 n l = bsX n l := rfl
theorem bsX_any (f : W.En) (w : World) : (bsX 1 #[(0, enV f)]).run Tryd.prog w = .ok (.slice (some ⟨w.heap.size, 0, none⟩) 1 1) (w.alloc (.cells (enL f).toArray 42)) := by kernel_rfl
theorem bdX_0 (w : World) : (bdX #[]).run Tryd.prog w = .ok (enV W.en0) w := by kernel_rfl
theorem ldX_at {w : World} {b o : Nat} {e : W.En} (h : w.rangeAt b o (enL e)) : (ldX ⟨b, o, none⟩).run Tryd.prog w = .ok (enV e) w := run_loadVar_mid w b o _ _ _ h Tryd.underlying42 rfl (by kernel_rfl)
theorem stX_new (w : World) (e : W.En) (Z : Array Value) (hz : Z.size = 6) : (stX ⟨w.heap.size, 0, none⟩ (enV e)).run Tryd.prog (w.alloc (.cells Z 42)) = .ok () (w.alloc (.cells (enL e).toArray 42)) := by
  have := run_storeVar_new (P := Tryd.prog) w 42 Z (enL e).toArray (by kernel_rfl) (by rw [hz]; rfl) (by simpa using oneE e)
  exact this
/-- A block holds this entry. -/
def ExAt (b : Nat) (e : W.En) (w : World) : Prop := w.heap[b]? = some (.cells (enL e).toArray 42)
theorem ExAt.ld {b : Nat} {e : W.En} {w : World} (h : ExAt b e w) : (ldX ⟨b, 0, none⟩).run Tryd.prog w = .ok (enV e) w :=
  ldX_at (fun j v hv => by
    rw [Nat.zero_add, cell_of_row _ _ j _ 42 (0, 0) h]
    simpa using hv)
theorem ExAt.below {b : Nat} {e : W.En} {w w' : World} (h : ExAt b e w) (hb : Below w.heap.size w w') : ExAt b e w' := (hb.block b (Array.getElem?_eq_some_iff.1 h).1).trans h
theorem ExAt.lt {b : Nat} {e : W.En} {w : World} (h : ExAt b e w) : b < w.heap.size := (Array.getElem?_eq_some_iff.1 h).1
theorem exAt_new (w : World) (e : W.En) : ExAt w.heap.size e (w.alloc (.cells (enL e).toArray 42)) := heap_alloc_last w _
theorem ExAt.cAt {b : Nat} {e : W.En} {w : World} (h : ExAt b e w) (j : Nat) (hj : j < 6) : w.cell? ⟨b, j, none⟩ = (enL e)[j]? := by
  rw [cell_of_row _ _ j _ 42 (0, 0) h]
  simp
/-- A block of six cells of an entry's. -/
def ExRoom (b : Nat) (w : World) : Prop := ∃ Z : Array Value, Z.size = 6 ∧ w.heap[b]? = some (.cells Z 42)
theorem ExRoom.below {b : Nat} {w w' : World} (hm : ExRoom b w) (hb : Below w.heap.size w w') : ExRoom b w' := by
  obtain ⟨Z, h1, h2⟩ := hm
  exact ⟨Z, h1, (hb.block b (Array.getElem?_eq_some_iff.1 h2).1).trans h2⟩
theorem ExRoom.lt {b : Nat} {w : World} (hm : ExRoom b w) : b < w.heap.size := by
  obtain ⟨Z, h1, h2⟩ := hm
  exact (Array.getElem?_eq_some_iff.1 h2).1
theorem ExRoom.st {b : Nat} {w : World} (hm : ExRoom b w) (e : W.En) : (stX ⟨b, 0, none⟩ (enV e)).run Tryd.prog w = .ok () (w.setRow b (enL e).toArray) := by
  obtain ⟨Z, q1, q2⟩ := hm
  exact run_storeVar_row w b 42 42 Z (enL e).toArray q2 (by kernel_rfl) (by rw [q1]; rfl) (by simpa using oneE e)
theorem ExRoom.set {b : Nat} {w : World} (hm : ExRoom b w) (e : W.En) : ExAt b e (w.setRow b (enL e).toArray) := by
  obtain ⟨Z, q1, q2⟩ := hm
  exact setRow_heap w b Z _ _ _ q2
theorem exRoom_new (w : World) (Z : Array Value) (hz : Z.size = 6) : ExRoom w.heap.size (w.alloc (.cells Z 42)) := ⟨Z, hz, heap_alloc_last w _⟩

/-- The cache's own block: its ways, and where its sets lie. -/
def dtF (ways : Int) (sb K : Nat) (j : Nat) : Value := if j = 0 then .int .i64 K else if j = 1 then .int .i64 ways else .slice (some ⟨sb, 0, none⟩) K K
/-- A cache in memory. -/
structure Dt (n0 cb sb K : Nat) (ways : Int) (sv : Nat → Value) (S : Nat → List W.En) (w : World) : Prop where
  b : Bc cb 3 (dtF ways sb K) w
  s : Bc sb K sv w
  o : ∀ i, i < K → w.ownsRow n0 42 6 (sv i) (S i).length (enX (S i))
  cs : cb ≠ sb
  nc : ∀ i, i < K → (sv i).ownBlock ≠ some cb
  ns : ∀ i, i < K → (sv i).ownBlock ≠ some sb
  ap : ∀ i j g, i < K → j < K → (sv i).ownBlock = some g → (sv j).ownBlock = some g → i = j
  n0c : n0 ≤ cb
  n0s : n0 ≤ sb
/-- What a call that writes the cache may turn. -/
structure Du (sb K : Nat) (sv sv' : Nat → Value) (w w' : World) : Prop where
  g : Gs (fun b => b = sb ∨ ∃ i, i < K ∧ (sv i).ownBlock = some b) w w'
  f : ∀ i g, i < K → (sv' i).ownBlock = some g → (sv i).ownBlock = some g ∨ w.heap.size ≤ g
variable {n0 cb sb K : Nat} {ways : Int} {sv sv' sv'' : Nat → Value} {S S' : Nat → List W.En} {w w' w'' : World}
theorem Du.of_below (h : Below w.heap.size w w') : Du sb K sv sv w w' := ⟨Gs.of_below h, fun i g hi e => Or.inl e⟩
theorem Du.trans (h : Du sb K sv sv' w w') (k : Du sb K sv' sv'' w' w'') : Du sb K sv sv'' w w'' := by
  refine ⟨h.g.trans' (fun b hb hs => ?_) k.g, fun i g hi e => ?_⟩
  · rcases hs with e | ⟨i, hi, e⟩
    · exact Or.inl e
    · rcases h.f i b hi e with e | e
      · exact Or.inr ⟨i, hi, e⟩
      · omega
  · rcases k.f i g hi e with e | e
    · exact h.f i g hi e
    · exact Or.inr (Nat.le_trans h.g.size e)
theorem Du.other (h : Du sb K sv sv' w w') {b : Nat} (hb : b < w.heap.size) (ha : Apt sb K sv b) : w'.heap[b]? = w.heap[b]? := h.g.block b hb (fun e => by
  rcases e with e | ⟨i, hi, e⟩
  · exact ha.1 e
  · exact ha.2 i hi e)
theorem Du.apt (h : Du sb K sv sv' w w') {b : Nat} (hb : b < w.heap.size) (ha : Apt sb K sv b) : Apt sb K sv' b := ⟨ha.1, fun i hi e => by
  rcases h.f i b hi e with e | e
  · exact ha.2 i hi e
  · omega⟩
theorem Dt.fb (H : Dt n0 cb sb K ways sv S w) {i : Nat} (hi : i < K) {g : Nat} (e : (sv i).ownBlock = some g) : n0 ≤ g ∧ g < w.heap.size := by
  rcases (H.o i hi).2 with ⟨h1, h2⟩ | ⟨g', cap, cur, h1, hbg, hg, hnc, hcm, hcs, htk⟩
  · rw [h1] at e; cases e
  · rw [h1] at e
    have : g' = g := by simpa [Value.ownBlock] using e
    subst this
    exact ⟨hbg, (Array.getElem?_eq_some_iff.1 hg).1⟩
theorem Dt.apt_low (H : Dt n0 cb sb K ways sv S w) {b : Nat} (hb : b < n0) : Apt sb K sv b := ⟨by have := H.n0s; omega, fun i hi e => by have := (H.fb hi e).1; omega⟩
theorem Dt.apt_new (H : Dt n0 cb sb K ways sv S w) {b : Nat} (hb : w.heap.size ≤ b) : Apt sb K sv b := ⟨by have := H.s.lt; omega, fun i hi e => by have := (H.fb hi e).2; omega⟩
theorem Du.below (h : Du sb K sv sv' w w') (H : Dt n0 cb sb K ways sv S w) (n : Nat) (hn : n ≤ n0) (hw : n ≤ w.heap.size) : Below n w w' := h.g.below hw (fun b e => by
  rcases e with e | ⟨i, hi, e⟩
  · have := H.n0s; omega
  · have := (H.fb hi e).1; omega)
theorem Dt.below (H : Dt n0 cb sb K ways sv S w) (hb : Below w.heap.size w w') : Dt n0 cb sb K ways sv S w' :=
  ⟨H.b.below hb, H.s.below hb, fun i hi => own_below (H.o i hi) hb, H.cs, H.nc, H.ns, H.ap, H.n0c, H.n0s⟩
theorem Dt.c0 (H : Dt n0 cb sb K ways sv S w) : w.cell? ⟨cb, 0, none⟩ = some (.int .i64 K) := H.b.c 0 (by decide)
theorem Dt.c1 (H : Dt n0 cb sb K ways sv S w) : w.cell? ⟨cb, 1, none⟩ = some (.int .i64 ways) := H.b.c 1 (by decide)
theorem Dt.c2 (H : Dt n0 cb sb K ways sv S w) : w.cell? ⟨cb, 2, none⟩ = some (.slice (some ⟨sb, 0, none⟩) K K) := H.b.c 2 (by decide)
/-- A set's row turned in its block, and its value set. -/
theorem Dt.turn (H : Dt n0 cb sb K ways sv S w) {i : Nat} (hi : i < K) {v : Value} {l : List W.En} (hg : w.grownBy w' (sv i).ownBlock) (ho : w'.ownsRow n0 42 6 v l.length (enX l))
    (hv : v.ownBlock = (sv i).ownBlock ∨ ∀ g, v.ownBlock = some g → w.heap.size ≤ g) :
    Dt n0 cb sb K ways (updV sv i v) (W.updS S i l) (w'.setCell ⟨sb, i, none⟩ v) ∧ Du sb K sv (updV sv i v) w (w'.setCell ⟨sb, i, none⟩ v) := by
  have hvb : ∀ g, v.ownBlock = some g → (sv i).ownBlock = some g ∨ w.heap.size ≤ g := fun g e => by
    rcases hv with h | h
    · exact Or.inl (h ▸ e)
    · exact Or.inr (h g e)
  have hns : v.ownBlock ≠ some sb := fun e => by
    rcases hvb _ e with h | h
    · exact H.ns i hi h
    · have := H.s.lt; omega
  have hnc : v.ownBlock ≠ some cb := fun e => by
    rcases hvb _ e with h | h
    · exact H.nc i hi h
    · have := H.b.lt; omega
  have upd : ∀ j g, j < K → (updV sv i v j).ownBlock = some g → (sv j).ownBlock = some g ∨ j = i ∧ v.ownBlock = some g := fun j g hj e => by
    unfold updV at e
    by_cases h : j = i
    · rw [if_pos h] at e; exact Or.inr ⟨h, e⟩
    · rw [if_neg h] at e; exact Or.inl e
  refine ⟨⟨(H.b.grown hg (fun e => H.nc i hi e.symm)).other sb i v H.cs, (H.s.grown hg (fun e => H.ns i hi e.symm)).set i v, fun j hj => ?_, H.cs, fun j hj e => ?_, fun j hj e => ?_, fun a b g ha hb e1 e2 => ?_, H.n0c, H.n0s⟩, ⟨?_, fun j g hj e => ?_⟩⟩
  · unfold W.updS updV
    by_cases h : j = i
    · rw [if_pos h, if_pos h]
      exact ho.kept (gsetCell w' sb i _) (by cases e : v.ownBlock with | none => exact Or.inl rfl | some b => exact Or.inr (fun q => hns (by rw [e]; exact q)))
    · rw [if_neg h, if_neg h]
      refine ((H.o j hj).kept hg ?_).kept (gsetCell w' sb i _) ?_
      · cases e : (sv j).ownBlock with
        | none => exact Or.inl rfl
        | some b => exact Or.inr (fun q => h (H.ap j i b hj hi e q.symm))
      · cases e : (sv j).ownBlock with
        | none => exact Or.inl rfl
        | some b => exact Or.inr (fun q => H.ns j hj (by rw [e]; exact q))
  · rcases upd j _ hj e with e | ⟨_, e⟩
    · exact H.nc j hj e
    · exact hnc e
  · rcases upd j _ hj e with e | ⟨_, e⟩
    · exact H.ns j hj e
    · exact hns e
  · have low : ∀ j, j < K → (sv j).ownBlock = some g → g < w.heap.size := fun j hj e => (H.fb hj e).2
    rcases upd a g ha e1 with u1 | ⟨x1, u1⟩
    · rcases upd b g hb e2 with u2 | ⟨x2, u2⟩
      · exact H.ap a b g ha hb u1 u2
      · rcases hvb g u2 with h | h
        · exact x2 ▸ H.ap a i g ha hi u1 h
        · have := low a ha u1; omega
    · rcases upd b g hb e2 with u2 | ⟨x2, u2⟩
      · rcases hvb g u1 with h | h
        · exact x1 ▸ H.ap i b g hi hb h u2
        · have := low b hb u2; omega
      · rw [x1, x2]
  · exact (Gs.of_grown hg (fun b e => Or.inr ⟨i, hi, e⟩)).trans (Gs.of_grown (gsetCell w' sb i _) (fun b e => Or.inl (by cases e; rfl)))
  · rcases upd j g hj e with u | ⟨x, u⟩
    · exact Or.inl u
    · exact x ▸ hvb g u
theorem own_rwX {v : Value} {l : List W.En} (ho : w.ownsRow n0 42 6 v l.length (enX l)) : Rw v l w := by
  have HO := ho
  rcases ho.2 with ⟨h1, h2⟩ | ⟨g, cap, cur, h1, hbg, hg, hnc, hcm, hcs, htk⟩
  · exact ⟨0, none, 0, by rw [h1, h2], by omega, fun h => by omega, fun j f hf => by have := (List.getElem?_eq_some_iff.1 hf).1; omega⟩
  · refine ⟨g, some ⟨g, 0, none⟩, cap, h1, hnc, fun _ => ⟨rfl, (Array.getElem?_eq_some_iff.1 hg).1⟩, fun j f hf i v hv => ?_⟩
    have hi : i < 6 := (List.getElem?_eq_some_iff.1 hv).1
    have hj : j < l.length := (List.getElem?_eq_some_iff.1 hf).1
    rw [h1] at HO
    rw [HO.cellAt (j * 6 + i) (by omega), enX_get l j i f hf hi]
    exact hv
theorem Dt.rw_ (H : Dt n0 cb sb K ways sv S w) {i : Nat} (hi : i < K) : Rw (sv i) (S i) w := own_rwX (H.o i hi)


theorem Dt.oth (H : Dt n0 cb sb K ways sv S w) {r : Option Nat} (hg : w.grownBy w' r) (ha : ∀ g, r = some g → Apt sb K sv g ∧ g ≠ cb) : Dt n0 cb sb K ways sv S w' :=
  ⟨H.b.grown hg (fun e => (ha cb e.symm).2 rfl), H.s.grown hg (fun e => (ha sb e.symm).1.1 rfl), fun i hi => (H.o i hi).kept hg (by
    cases e : (sv i).ownBlock with
    | none => exact Or.inl rfl
    | some g => exact Or.inr (fun q => (ha g q.symm).1.2 i hi e)), H.cs, H.nc, H.ns, H.ap, H.n0c, H.n0s⟩
end Go.Proofs.YtlindkhmjkionaaDoor
