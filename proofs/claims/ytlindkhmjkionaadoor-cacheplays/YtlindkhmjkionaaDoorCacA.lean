/- cache: words for lists, blocks, entries in memory. -/
import Derived.Test.YtlindkhmjkionaaDoorRows
import Derived.Test.YtlindkhmjkionaaDoorCacM
import Derived.WalkKit
import Derived.ProofKit
import Derived.OpenShut
import Derived.Deep.QuietTactic
import Derived.BigQuiet
import Derived.WalkSmall
import Derived.Lib.Walk
import Derived.Lib.SliceRun
import Derived.Deep.WholeRow
import Derived.Deep.MidRow
import Derived.Deep.AppendLies
import Derived.Deep.RegionLaw
namespace Go.Proofs.YtlindkhmjkionaaDoor
open Go.ChangeShapes Go.WideShapes Go.ChangeAt Go.RowKit
set_option linter.unusedVariables false
set_option linter.unusedSimpArgs false

theorem ret_int {k : IntKind} {a b : Int} (h : a = b) : Ending.returned (.int k a) = .returned (.int k b) := by rw [h]
structure W.Sl where
  a : Option Addr
  n : Nat
  c : Nat
def W.Sl.nil : W.Sl := ⟨none, 0, 0⟩
def slV (s : W.Sl) : Value := .slice s.a s.n s.c
/-- A list of numbers lies in memory. -/
structure Li (s : W.Sl) (l : List Int) (w : World) : Prop where
  n : s.n = l.length
  m : s.n ≤ 4096
  nc : s.n ≤ s.c
  at_ : 0 < s.n → ∃ b o, s.a = some ⟨b, o, none⟩ ∧ b < w.heap.size ∧ ∀ j x, l[j]? = some x → w.cell? ⟨b, o + j, none⟩ = some (.int .i64 x)
theorem Li.below {s : W.Sl} {l : List Int} {w w' : World} (h : Li s l w) (hb : Below w.heap.size w w') : Li s l w' :=
  ⟨h.n, h.m, h.nc, fun h0 => by
    obtain ⟨b, o, e, hl, hc⟩ := h.at_ h0
    exact ⟨b, o, e, Nat.lt_of_lt_of_le hl hb.size, fun j x hx => (hb.cell (p := ⟨b, o + j, none⟩) hl).trans (hc j x hx)⟩⟩
theorem li_some {b o n c : Nat} {l : List Int} {w : World} (hn : n = l.length) (hm : n ≤ 4096) (hnc : n ≤ c) (hb : b < w.heap.size) (hc : ∀ j x, l[j]? = some x → w.cell? ⟨b, o + j, none⟩ = some (.int .i64 x)) : Li ⟨some ⟨b, o, none⟩, n, c⟩ l w := ⟨hn, hm, hnc, fun _ => ⟨b, o, rfl, hb, hc⟩⟩

/-- A block holds these cells. -/
structure Bc (b n : Nat) (f : Nat → Value) (w : World) : Prop where
  lt : b < w.heap.size
  c : ∀ j, j < n → w.cell? ⟨b, j, none⟩ = some (f j)
  fz : ∀ j, w.frozen? ⟨b, j, none⟩ = false
theorem Bc.below {b n : Nat} {f : Nat → Value} {w w' : World} (h : Bc b n f w) (hb : Below w.heap.size w w') : Bc b n f w' :=
  ⟨Nat.lt_of_lt_of_le h.lt hb.size, fun j hj => (hb.cell (p := ⟨b, j, none⟩) h.lt).trans (h.c j hj), fun j => (hb.frozen (p := ⟨b, j, none⟩) h.lt).trans (h.fz j)⟩
def updV (f : Nat → Value) (k : Nat) (v : Value) : Nat → Value := fun j => if j = k then v else f j
theorem Bc.set {b n : Nat} {f : Nat → Value} {w : World} (h : Bc b n f w) (k : Nat) (v : Value) : Bc b n (updV f k v) (w.setCell ⟨b, k, none⟩ v) :=
  ⟨by simpa [World.setCell] using h.lt, fun j hj => by
    unfold updV
    by_cases e : j = k
    · subst e
      rw [if_pos rfl]
      exact World.cell?_setCell_same _ _ _ (h.c j hj)
    · rw [if_neg e]
      exact (World.cell?_setCell_other _ _ _ _ (by simp [e])).trans (h.c j hj), fun j => (World.frozen?_setCell _ _ _ _).trans (h.fz j)⟩
theorem Bc.other {b n : Nat} {f : Nat → Value} {w : World} (h : Bc b n f w) (g k : Nat) (v : Value) (hg : b ≠ g) : Bc b n f (w.setCell ⟨g, k, none⟩ v) :=
  ⟨by simpa [World.setCell] using h.lt, fun j hj => (World.cell?_setCell_other _ _ _ _ (by simp [hg])).trans (h.c j hj), fun j => (World.frozen?_setCell _ _ _ _).trans (h.fz j)⟩
theorem Bc.grown {b n : Nat} {f : Nat → Value} {w w' : World} {r : Option Nat} (h : Bc b n f w) (hg : w.grownBy w' r) (hne : some b ≠ r) : Bc b n f w' := by
  have q := hg.block b h.lt hne
  exact ⟨Nat.lt_of_lt_of_le h.lt hg.size, fun j hj => (World.cell?_of_block q).trans (h.c j hj), fun j => by
    have := h.fz j
    simp only [World.frozen?] at this ⊢
    rw [q]
    exact this⟩
theorem Bc.congr {b n : Nat} {f g : Nat → Value} {w : World} (h : Bc b n f w) (e : ∀ j, j < n → f j = g j) : Bc b n g w := ⟨h.lt, fun j hj => by rw [← e j hj]; exact h.c j hj, h.fz⟩
theorem bc_row {b n : Nat} {f : Nat → Value} {w : World} {cs : Array Value} {T : TypeId} (h : w.heap[b]? = some (.cells cs T)) (hc : ∀ j, j < n → cs[j]? = some (f j)) : Bc b n f w :=
  ⟨(Array.getElem?_eq_some_iff.1 h).1, fun j hj => (cell_of_row _ _ j _ T (0, 0) h).trans (hc j hj), fun j => by unfold World.frozen?; rw [h]; simp⟩
theorem gsetCell (w : World) (b k : Nat) (v : Value) : w.grownBy (w.setCell ⟨b, k, none⟩ v) (some b) := by
  refine ⟨rfl, rfl, rfl, by simp [World.setCell], fun g hb hne => ?_⟩
  simp only [World.setCell, Array.getElem?_modify]
  rw [if_neg (fun e => hne (by rw [e]))]
theorem gtrans {x y z : World} {r : Option Nat} (h : x.grownBy y r) (k : y.grownBy z r) : x.grownBy z r :=
  ⟨k.os.trans h.os, k.tape.trans h.tape, k.output.trans h.output, Nat.le_trans h.size k.size, fun b hb hne => (k.block b (Nat.lt_of_lt_of_le hb h.size) hne).trans (h.block b hb hne)⟩
theorem gsetCells (b : Nat) : ∀ (vs : List Value) (o : Nat) (w : World), w.grownBy (w.setCells b o vs) (some b)
  | [], o, w => ⟨rfl, rfl, rfl, Nat.le_refl _, fun _ _ _ => rfl⟩
  | v :: r, o, w => gtrans (gsetCell w b o v) (gsetCells b r (o + 1) _)
theorem gbelow {x y : World} (h : Below x.heap.size x y) (r : Option Nat) : x.grownBy y r := ⟨h.os, h.tape, h.output, h.size, fun k hk _ => h.block k hk⟩
theorem own_below {w w' : World} {base : Nat} {e : TypeId} {size : Nat} {v : Value} {n : Nat} {xs : List Value} (h : w.ownsRow base e size v n xs) (hb : Below w.heap.size w w') : w'.ownsRow base e size v n xs :=
  h.kept (row := none) (gbelow hb none) (by cases hv : v.ownBlock <;> simp)


def enL (e : W.En) : List Value := [.int .i64 e.l, .int .i64 e.s, .int .u32 e.d0, .int .u32 e.d1, .int .u32 e.d2, .int .u32 e.d3]
def enV (e : W.En) : Value := .agg (enL e).toArray
def enX (l : List W.En) : List Value := l.flatMap enL
theorem enL_len (e : W.En) : (enL e).length = 6 := rfl
theorem enX_len (l : List W.En) : (enX l).length = l.length * 6 := by
  induction l with
  | nil => rfl
  | cons x l ih => simp only [enX, List.flatMap_cons, List.length_append, enL_len, List.length_cons] at *; omega
theorem enX_app (l : List W.En) (f : W.En) : enX (l ++ [f]) = enX l ++ enL f := by simp [enX]
theorem enX_get : ∀ (l : List W.En) (j k : Nat) (f : W.En), l[j]? = some f → k < 6 → (enX l)[j * 6 + k]? = (enL f)[k]?
  | [], j, k, f, h, _ => by simp at h
  | x :: l, 0, k, f, h, hk => by
    have e : x = f := by simpa using h
    subst e
    show (enL x ++ enX l)[0 * 6 + k]? = _
    rw [Nat.zero_mul, Nat.zero_add, List.getElem?_append_left (by rw [enL_len]; exact hk)]
  | x :: l, j + 1, k, f, h, hk => by
    show (enL x ++ enX l)[(j + 1) * 6 + k]? = _
    rw [List.getElem?_append_right (by rw [enL_len]; omega), enL_len, show (j + 1) * 6 + k - 6 = j * 6 + k by omega]
    exact enX_get l j k f (by simpa using h) hk
theorem oneE (e : W.En) : ∀ u ∈ enL e, u.oneCell' = true := by intro u hu; simp [enL] at hu; rcases hu with h | h | h | h | h | h <;> subst h <;> rfl
theorem oneEX (l : List W.En) : ∀ u ∈ enX l, u.oneCell' = true := by
  intro u hu
  unfold enX at hu
  obtain ⟨e, he, hu⟩ := List.mem_flatMap.1 hu
  exact oneE e u hu
/-- Words for whole structs that the walk does not open. -/
def ldE (a : Addr) : Sem Value := loadVar 37 a
theorem ldE_eq (a : Addr) : loadVar 37 a = ldE a := rfl
def stE (a : Addr) (v : Value) : Sem Unit := storeVar 37 a v
theorem stE_eq (a : Addr) (v : Value) : storeVar 37 a v = stE a v := rfl
def bdE (l : Array (Nat × Value)) : Sem Value := Instr.build 37 l
theorem bdE_eq (l : Array (Nat × Value)) : Instr.build 37 l = bdE l := rfl
def bsE (n : Nat) (l : Array (Nat × Value)) : Sem Value := Instr.buildSlice 57 n l
theorem bsE_eq (n : Nat) (l : Array (Nat × Value)) : Instr.buildSlice 57 n l = bsE n l := rfl
theorem bsE_any (f : W.En) (w : World) : (bsE 1 #[(0, enV f)]).run Tryd.prog w = .ok (.slice (some ⟨w.heap.size, 0, none⟩) 1 1) (w.alloc (.cells (enL f).toArray 37)) := by kernel_rfl
theorem bdE_0 (w : World) : (bdE #[]).run Tryd.prog w = .ok (enV W.en0) w := by kernel_rfl
theorem ldE_at {w : World} {b o : Nat} {e : W.En} (h : w.rangeAt b o (enL e)) : (ldE ⟨b, o, none⟩).run Tryd.prog w = .ok (enV e) w := run_loadVar_mid w b o _ _ _ h Tryd.underlying37 rfl (by kernel_rfl)
theorem range_new (w : World) (cs : List Value) (T : TypeId) : (w.alloc (.cells cs.toArray T)).rangeAt w.heap.size 0 cs := fun j v hv => by
  rw [Nat.zero_add, cell_of_row _ _ j _ T (0, 0) (heap_alloc_last w _)]
  simpa using hv
theorem range_below {w w' : World} {b o : Nat} {cs : List Value} (h : w.rangeAt b o cs) (hb : Below w.heap.size w w') (hl : b < w.heap.size) : w'.rangeAt b o cs := fun j v hv => (hb.cell (p := ⟨b, o + j, none⟩) hl).trans (h j v hv)
theorem stE_new (w : World) (e : W.En) (Z : Array Value) (hz : Z.size = 6) : (stE ⟨w.heap.size, 0, none⟩ (enV e)).run Tryd.prog (w.alloc (.cells Z 37)) = .ok () (w.alloc (.cells (enL e).toArray 37)) := by
  have := run_storeVar_new (P := Tryd.prog) w 37 Z (enL e).toArray (by kernel_rfl) (by rw [hz]; rfl) (by simpa using oneE e)
  exact this
/-- A block holds this entry. -/
def EnAt (b : Nat) (e : W.En) (w : World) : Prop := w.heap[b]? = some (.cells (enL e).toArray 37)
theorem EnAt.ld {b : Nat} {e : W.En} {w : World} (h : EnAt b e w) : (ldE ⟨b, 0, none⟩).run Tryd.prog w = .ok (enV e) w :=
  ldE_at (fun j v hv => by
    rw [Nat.zero_add, cell_of_row _ _ j _ 37 (0, 0) h]
    simpa using hv)
theorem EnAt.below {b : Nat} {e : W.En} {w w' : World} (h : EnAt b e w) (hb : Below w.heap.size w w') : EnAt b e w' := (hb.block b (Array.getElem?_eq_some_iff.1 h).1).trans h
theorem EnAt.lt {b : Nat} {e : W.En} {w : World} (h : EnAt b e w) : b < w.heap.size := (Array.getElem?_eq_some_iff.1 h).1
theorem enAt_new (w : World) (e : W.En) : EnAt w.heap.size e (w.alloc (.cells (enL e).toArray 37)) := heap_alloc_last w _
theorem EnAt.cAt {b : Nat} {e : W.En} {w : World} (h : EnAt b e w) (j : Nat) (hj : j < 6) : w.cell? ⟨b, j, none⟩ = (enL e)[j]? := by
  rw [cell_of_row _ _ j _ 37 (0, 0) h]
  simp
/-- A block of six cells of an entry's. -/
def EnRoom (b : Nat) (w : World) : Prop := ∃ Z : Array Value, Z.size = 6 ∧ w.heap[b]? = some (.cells Z 37)
theorem EnRoom.below {b : Nat} {w w' : World} (hm : EnRoom b w) (hb : Below w.heap.size w w') : EnRoom b w' := by
  obtain ⟨Z, h1, h2⟩ := hm
  exact ⟨Z, h1, (hb.block b (Array.getElem?_eq_some_iff.1 h2).1).trans h2⟩
theorem EnRoom.lt {b : Nat} {w : World} (hm : EnRoom b w) : b < w.heap.size := by
  obtain ⟨Z, h1, h2⟩ := hm
  exact (Array.getElem?_eq_some_iff.1 h2).1
theorem EnRoom.st {b : Nat} {w : World} (hm : EnRoom b w) (e : W.En) : (stE ⟨b, 0, none⟩ (enV e)).run Tryd.prog w = .ok () (w.setRow b (enL e).toArray) := by
  obtain ⟨Z, q1, q2⟩ := hm
  exact run_storeVar_row w b 37 37 Z (enL e).toArray q2 (by kernel_rfl) (by rw [q1]; rfl) (by simpa using oneE e)
theorem EnRoom.set {b : Nat} {w : World} (hm : EnRoom b w) (e : W.En) : EnAt b e (w.setRow b (enL e).toArray) := by
  obtain ⟨Z, q1, q2⟩ := hm
  exact setRow_heap w b Z _ _ _ q2
theorem gsetRow (w : World) (b : Nat) (c : Array Value) : w.grownBy (w.setRow b c) (some b) := by
  refine ⟨rfl, rfl, rfl, by simp [World.setRow], fun g hb hne => setRow_other w b g c (fun e => hne (by rw [e]))⟩
theorem enRoom_new (w : World) (Z : Array Value) (hz : Z.size = 6) : EnRoom w.heap.size (w.alloc (.cells Z 37)) := ⟨Z, hz, heap_alloc_last w _⟩

/-- But for these blocks, and new ones, the world is as it was. -/
structure Gs (S : Nat → Prop) (w w' : World) : Prop where
  os : w'.os = w.os
  tape : w'.tape = w.tape
  output : w'.output = w.output
  size : w.heap.size ≤ w'.heap.size
  block : ∀ b, b < w.heap.size → ¬ S b → w'.heap[b]? = w.heap[b]?
theorem Gs.refl (S : Nat → Prop) (w : World) : Gs S w w := ⟨rfl, rfl, rfl, Nat.le_refl _, fun _ _ _ => rfl⟩
theorem Gs.trans {S : Nat → Prop} {x y z : World} (h : Gs S x y) (k : Gs S y z) : Gs S x z :=
  ⟨k.os.trans h.os, k.tape.trans h.tape, k.output.trans h.output, Nat.le_trans h.size k.size, fun b hb hn => (k.block b (Nat.lt_of_lt_of_le hb h.size) hn).trans (h.block b hb hn)⟩
theorem Gs.trans' {S T : Nat → Prop} {x y z : World} (h : Gs S x y) (hs : ∀ b, b < x.heap.size → T b → S b) (k : Gs T y z) : Gs S x z :=
  ⟨k.os.trans h.os, k.tape.trans h.tape, k.output.trans h.output, Nat.le_trans h.size k.size, fun b hb hn => (k.block b (Nat.lt_of_lt_of_le hb h.size) (fun e => hn (hs b hb e))).trans (h.block b hb hn)⟩
theorem Gs.mono {S T : Nat → Prop} {x y : World} (h : Gs S x y) (hs : ∀ b, b < x.heap.size → S b → T b) : Gs T x y := ⟨h.os, h.tape, h.output, h.size, fun b hb hn => h.block b hb (fun e => hn (hs b hb e))⟩
theorem Gs.of_below {S : Nat → Prop} {x y : World} (h : Below x.heap.size x y) : Gs S x y := ⟨h.os, h.tape, h.output, h.size, fun b hb _ => h.block b hb⟩
theorem Gs.of_grown {S : Nat → Prop} {x y : World} {r : Option Nat} (h : x.grownBy y r) (hs : ∀ b, r = some b → S b) : Gs S x y := ⟨h.os, h.tape, h.output, h.size, fun b hb hn => h.block b hb (fun e => hn (hs b e.symm))⟩
theorem Gs.below {S : Nat → Prop} {n : Nat} {x y : World} (h : Gs S x y) (hn : n ≤ x.heap.size) (hs : ∀ b, S b → n ≤ b) : Below n x y := ⟨h.os, h.tape, h.output, h.size, fun b hb => h.block b (by omega) (fun e => by have := hs b e; omega)⟩
theorem Gs.bc {S : Nat → Prop} {x y : World} {b n : Nat} {f : Nat → Value} (h : Gs S x y) (hb : Bc b n f x) (hs : ¬ S b) : Bc b n f y :=
  have q := h.block b hb.lt hs
  ⟨Nat.lt_of_lt_of_le hb.lt h.size, fun j hj => (World.cell?_of_block (a := ⟨b, j, none⟩) q).trans (hb.c j hj), fun j => (World.frozen?_of_block (a := ⟨b, j, none⟩) q).trans (hb.fz j)⟩
theorem gdrew (w : World) (r : Option Nat) : w.grownBy w.drew r := ⟨rfl, rfl, rfl, Nat.le_refl _, fun _ _ _ => rfl⟩
theorem galloc (w : World) (o : Obj) (r : Option Nat) : w.grownBy (w.alloc o) r := gbelow ((Below.refl _ _).alloc (Nat.le_refl _) o) r
theorem below_alloc (w : World) (o : Obj) : Below w.heap.size w (w.alloc o) := (Below.refl _ _).alloc (Nat.le_refl _) _

/-- The cache's own block: its ways, and where its sets lie. -/
def ctF (ways : Int) (sb K : Nat) (j : Nat) : Value := if j = 0 then .int .i64 ways else .slice (some ⟨sb, 0, none⟩) K K
def updN (f : Nat → Value) (k : Nat) (v : Value) : Nat → Value := fun j => if j = k then v else f j
/-- A cache in memory. -/
structure Ct (n0 cb sb K : Nat) (ways : Int) (sv : Nat → Value) (S : Nat → List W.En) (w : World) : Prop where
  b : Bc cb 2 (ctF ways sb K) w
  s : Bc sb K sv w
  o : ∀ i, i < K → w.ownsRow n0 37 6 (sv i) (S i).length (enX (S i))
  cs : cb ≠ sb
  nc : ∀ i, i < K → (sv i).ownBlock ≠ some cb
  ns : ∀ i, i < K → (sv i).ownBlock ≠ some sb
  ap : ∀ i j g, i < K → j < K → (sv i).ownBlock = some g → (sv j).ownBlock = some g → i = j
  n0c : n0 ≤ cb
  n0s : n0 ≤ sb
/-- What a call that writes the cache may turn. -/
structure Cu (sb K : Nat) (sv sv' : Nat → Value) (w w' : World) : Prop where
  g : Gs (fun b => b = sb ∨ ∃ i, i < K ∧ (sv i).ownBlock = some b) w w'
  f : ∀ i g, i < K → (sv' i).ownBlock = some g → (sv i).ownBlock = some g ∨ w.heap.size ≤ g
/-- A block that is none of the cache's. -/
def Apt (sb K : Nat) (sv : Nat → Value) (b : Nat) : Prop := b ≠ sb ∧ ∀ i, i < K → (sv i).ownBlock ≠ some b
variable {n0 cb sb K : Nat} {ways : Int} {sv sv' sv'' : Nat → Value} {S S' : Nat → List W.En} {w w' w'' : World}
theorem Cu.of_below (h : Below w.heap.size w w') : Cu sb K sv sv w w' := ⟨Gs.of_below h, fun i g hi e => Or.inl e⟩
theorem Cu.trans (h : Cu sb K sv sv' w w') (k : Cu sb K sv' sv'' w' w'') : Cu sb K sv sv'' w w'' := by
  refine ⟨h.g.trans' (fun b hb hs => ?_) k.g, fun i g hi e => ?_⟩
  · rcases hs with e | ⟨i, hi, e⟩
    · exact Or.inl e
    · rcases h.f i b hi e with e | e
      · exact Or.inr ⟨i, hi, e⟩
      · omega
  · rcases k.f i g hi e with e | e
    · exact h.f i g hi e
    · exact Or.inr (Nat.le_trans h.g.size e)
theorem Cu.other (h : Cu sb K sv sv' w w') {b : Nat} (hb : b < w.heap.size) (ha : Apt sb K sv b) : w'.heap[b]? = w.heap[b]? := h.g.block b hb (fun e => by
  rcases e with e | ⟨i, hi, e⟩
  · exact ha.1 e
  · exact ha.2 i hi e)
theorem Cu.apt (h : Cu sb K sv sv' w w') {b : Nat} (hb : b < w.heap.size) (ha : Apt sb K sv b) : Apt sb K sv' b := ⟨ha.1, fun i hi e => by
  rcases h.f i b hi e with e | e
  · exact ha.2 i hi e
  · omega⟩
theorem Ct.fb (H : Ct n0 cb sb K ways sv S w) {i : Nat} (hi : i < K) {g : Nat} (e : (sv i).ownBlock = some g) : n0 ≤ g ∧ g < w.heap.size := by
  rcases (H.o i hi).2 with ⟨h1, h2⟩ | ⟨g', cap, cur, h1, hbg, hg, hnc, hcm, hcs, htk⟩
  · rw [h1] at e; cases e
  · rw [h1] at e
    have : g' = g := by simpa [Value.ownBlock] using e
    subst this
    exact ⟨hbg, (Array.getElem?_eq_some_iff.1 hg).1⟩
theorem Ct.apt_low (H : Ct n0 cb sb K ways sv S w) {b : Nat} (hb : b < n0) : Apt sb K sv b := ⟨by have := H.n0s; omega, fun i hi e => by have := (H.fb hi e).1; omega⟩
theorem Ct.apt_new (H : Ct n0 cb sb K ways sv S w) {b : Nat} (hb : w.heap.size ≤ b) : Apt sb K sv b := ⟨by have := H.s.lt; omega, fun i hi e => by have := (H.fb hi e).2; omega⟩
theorem Cu.below (h : Cu sb K sv sv' w w') (H : Ct n0 cb sb K ways sv S w) (n : Nat) (hn : n ≤ n0) (hw : n ≤ w.heap.size) : Below n w w' := h.g.below hw (fun b e => by
  rcases e with e | ⟨i, hi, e⟩
  · have := H.n0s; omega
  · have := (H.fb hi e).1; omega)
theorem Ct.below (H : Ct n0 cb sb K ways sv S w) (hb : Below w.heap.size w w') : Ct n0 cb sb K ways sv S w' :=
  ⟨H.b.below hb, H.s.below hb, fun i hi => own_below (H.o i hi) hb, H.cs, H.nc, H.ns, H.ap, H.n0c, H.n0s⟩
theorem Ct.c0 (H : Ct n0 cb sb K ways sv S w) : w.cell? ⟨cb, 0, none⟩ = some (.int .i64 ways) := H.b.c 0 (by decide)
theorem Ct.c1 (H : Ct n0 cb sb K ways sv S w) : w.cell? ⟨cb, 1, none⟩ = some (.slice (some ⟨sb, 0, none⟩) K K) := H.b.c 1 (by decide)
/-- A set's row turned in its block, and its value set. -/
theorem Ct.turn (H : Ct n0 cb sb K ways sv S w) {i : Nat} (hi : i < K) {v : Value} {l : List W.En} (hg : w.grownBy w' (sv i).ownBlock) (ho : w'.ownsRow n0 37 6 v l.length (enX l))
    (hv : v.ownBlock = (sv i).ownBlock ∨ ∀ g, v.ownBlock = some g → w.heap.size ≤ g) :
    Ct n0 cb sb K ways (updV sv i v) (W.updS S i l) (w'.setCell ⟨sb, i, none⟩ v) ∧ Cu sb K sv (updV sv i v) w (w'.setCell ⟨sb, i, none⟩ v) := by
  have hvb : ∀ g, v.ownBlock = some g → (sv i).ownBlock = some g ∨ w.heap.size ≤ g := fun g e => by
    rcases hv with h | h
    · exact Or.inl (h ▸ e)
    · exact Or.inr (h g e)
  have hns : v.ownBlock ≠ some sb := fun e => by
    rcases hvb _ e with h | h
    · exact H.ns i hi h
    · have := H.s.lt; omega
  have hnc : v.ownBlock ≠ some cb := fun e => by
    rcases hvb _ e with h | h
    · exact H.nc i hi h
    · have := H.b.lt; omega
  have upd : ∀ j g, j < K → (updV sv i v j).ownBlock = some g → (sv j).ownBlock = some g ∨ j = i ∧ v.ownBlock = some g := fun j g hj e => by
    unfold updV at e
    by_cases h : j = i
    · rw [if_pos h] at e; exact Or.inr ⟨h, e⟩
    · rw [if_neg h] at e; exact Or.inl e
  refine ⟨⟨(H.b.grown hg (fun e => H.nc i hi e.symm)).other sb i v H.cs, (H.s.grown hg (fun e => H.ns i hi e.symm)).set i v, fun j hj => ?_, H.cs, fun j hj e => ?_, fun j hj e => ?_, fun a b g ha hb e1 e2 => ?_, H.n0c, H.n0s⟩, ⟨?_, fun j g hj e => ?_⟩⟩
  · unfold W.updS updV
    by_cases h : j = i
    · rw [if_pos h, if_pos h]
      exact ho.kept (gsetCell w' sb i _) (by cases e : v.ownBlock with | none => exact Or.inl rfl | some b => exact Or.inr (fun q => hns (by rw [e]; exact q)))
    · rw [if_neg h, if_neg h]
      refine ((H.o j hj).kept hg ?_).kept (gsetCell w' sb i _) ?_
      · cases e : (sv j).ownBlock with
        | none => exact Or.inl rfl
        | some b => exact Or.inr (fun q => h (H.ap j i b hj hi e q.symm))
      · cases e : (sv j).ownBlock with
        | none => exact Or.inl rfl
        | some b => exact Or.inr (fun q => H.ns j hj (by rw [e]; exact q))
  · rcases upd j _ hj e with e | ⟨_, e⟩
    · exact H.nc j hj e
    · exact hnc e
  · rcases upd j _ hj e with e | ⟨_, e⟩
    · exact H.ns j hj e
    · exact hns e
  · have low : ∀ j, j < K → (sv j).ownBlock = some g → g < w.heap.size := fun j hj e => (H.fb hj e).2
    rcases upd a g ha e1 with u1 | ⟨x1, u1⟩
    · rcases upd b g hb e2 with u2 | ⟨x2, u2⟩
      · exact H.ap a b g ha hb u1 u2
      · rcases hvb g u2 with h | h
        · exact x2 ▸ H.ap a i g ha hi u1 h
        · have := low a ha u1; omega
    · rcases upd b g hb e2 with u2 | ⟨x2, u2⟩
      · rcases hvb g u1 with h | h
        · exact x1 ▸ H.ap i b g hi hb h u2
        · have := low b hb u2; omega
      · rw [x1, x2]
  · exact (Gs.of_grown hg (fun b e => Or.inr ⟨i, hi, e⟩)).trans (Gs.of_grown (gsetCell w' sb i _) (fun b e => Or.inl (by cases e; rfl)))
  · rcases upd j g hj e with u | ⟨x, u⟩
    · exact Or.inl u
    · exact x ▸ hvb g u
end Go.Proofs.YtlindkhmjkionaaDoor
