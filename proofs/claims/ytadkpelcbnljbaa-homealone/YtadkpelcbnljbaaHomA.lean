/- home: words for lists, blocks, messages in memory. -/
import Derived.Test.YtadkpelcbnljbaaRows
import Derived.Test.YtadkpelcbnljbaaHomM
import Derived.WalkKit
import Derived.ProofKit
import Derived.OpenShut
import Derived.Deep.QuietTactic
import Derived.BigQuiet
import Derived.WalkSmall
import Derived.Lib.Walk
import Derived.Lib.SliceRun
import Derived.Deep.WholeRow
import Derived.Deep.MidRow
import Derived.Deep.AppendLies
import Derived.Deep.RegionLaw
namespace Go.Proofs.Ytadkpelcbnljbaa
open Go.ChangeShapes Go.WideShapes Go.ChangeAt Go.RowKit
set_option linter.unusedVariables false
set_option linter.unusedSimpArgs false

theorem ret_int {k : IntKind} {a b : Int} (h : a = b) : Ending.returned (.int k a) = .returned (.int k b) := by rw [h]
structure W.Sl where
  a : Option Addr
  n : Nat
  c : Nat
def W.Sl.nil : W.Sl := ⟨none, 0, 0⟩
def slV (s : W.Sl) : Value := .slice s.a s.n s.c
/-- A list of numbers lies in memory. -/
structure Li (s : W.Sl) (l : List Int) (w : World) : Prop where
  n : s.n = l.length
  m : s.n ≤ 4096
  nc : s.n ≤ s.c
  at_ : 0 < s.n → ∃ b o, s.a = some ⟨b, o, none⟩ ∧ b < w.heap.size ∧ ∀ j x, l[j]? = some x → w.cell? ⟨b, o + j, none⟩ = some (.int .i64 x)
theorem Li.below {s : W.Sl} {l : List Int} {w w' : World} (h : Li s l w) (hb : Below w.heap.size w w') : Li s l w' :=
  ⟨h.n, h.m, h.nc, fun h0 => by
    obtain ⟨b, o, e, hl, hc⟩ := h.at_ h0
    exact ⟨b, o, e, Nat.lt_of_lt_of_le hl hb.size, fun j x hx => (hb.cell (p := ⟨b, o + j, none⟩) hl).trans (hc j x hx)⟩⟩
theorem li_some {b o n c : Nat} {l : List Int} {w : World} (hn : n = l.length) (hm : n ≤ 4096) (hnc : n ≤ c) (hb : b < w.heap.size) (hc : ∀ j x, l[j]? = some x → w.cell? ⟨b, o + j, none⟩ = some (.int .i64 x)) : Li ⟨some ⟨b, o, none⟩, n, c⟩ l w := ⟨hn, hm, hnc, fun _ => ⟨b, o, rfl, hb, hc⟩⟩

/-- A block holds these cells. -/
structure Bc (b n : Nat) (f : Nat → Value) (w : World) : Prop where
  lt : b < w.heap.size
  c : ∀ j, j < n → w.cell? ⟨b, j, none⟩ = some (f j)
  fz : ∀ j, w.frozen? ⟨b, j, none⟩ = false
theorem Bc.below {b n : Nat} {f : Nat → Value} {w w' : World} (h : Bc b n f w) (hb : Below w.heap.size w w') : Bc b n f w' :=
  ⟨Nat.lt_of_lt_of_le h.lt hb.size, fun j hj => (hb.cell (p := ⟨b, j, none⟩) h.lt).trans (h.c j hj), fun j => (hb.frozen (p := ⟨b, j, none⟩) h.lt).trans (h.fz j)⟩
def updV (f : Nat → Value) (k : Nat) (v : Value) : Nat → Value := fun j => if j = k then v else f j
theorem Bc.set {b n : Nat} {f : Nat → Value} {w : World} (h : Bc b n f w) (k : Nat) (v : Value) : Bc b n (updV f k v) (w.setCell ⟨b, k, none⟩ v) :=
  ⟨by simpa [World.setCell] using h.lt, fun j hj => by
    unfold updV
    by_cases e : j = k
    · subst e
      rw [if_pos rfl]
      exact World.cell?_setCell_same _ _ _ (h.c j hj)
    · rw [if_neg e]
      exact (World.cell?_setCell_other _ _ _ _ (by simp [e])).trans (h.c j hj), fun j => (World.frozen?_setCell _ _ _ _).trans (h.fz j)⟩
theorem Bc.other {b n : Nat} {f : Nat → Value} {w : World} (h : Bc b n f w) (g k : Nat) (v : Value) (hg : b ≠ g) : Bc b n f (w.setCell ⟨g, k, none⟩ v) :=
  ⟨by simpa [World.setCell] using h.lt, fun j hj => (World.cell?_setCell_other _ _ _ _ (by simp [hg])).trans (h.c j hj), fun j => (World.frozen?_setCell _ _ _ _).trans (h.fz j)⟩
theorem Bc.grown {b n : Nat} {f : Nat → Value} {w w' : World} {r : Option Nat} (h : Bc b n f w) (hg : w.grownBy w' r) (hne : some b ≠ r) : Bc b n f w' := by
  have q := hg.block b h.lt hne
  exact ⟨Nat.lt_of_lt_of_le h.lt hg.size, fun j hj => (World.cell?_of_block q).trans (h.c j hj), fun j => by
    have := h.fz j
    simp only [World.frozen?] at this ⊢
    rw [q]
    exact this⟩
theorem Bc.congr {b n : Nat} {f g : Nat → Value} {w : World} (h : Bc b n f w) (e : ∀ j, j < n → f j = g j) : Bc b n g w := ⟨h.lt, fun j hj => by rw [← e j hj]; exact h.c j hj, h.fz⟩
theorem bc_row {b n : Nat} {f : Nat → Value} {w : World} {cs : Array Value} {T : TypeId} (h : w.heap[b]? = some (.cells cs T)) (hc : ∀ j, j < n → cs[j]? = some (f j)) : Bc b n f w :=
  ⟨(Array.getElem?_eq_some_iff.1 h).1, fun j hj => (cell_of_row _ _ j _ T (0, 0) h).trans (hc j hj), fun j => by unfold World.frozen?; rw [h]; simp⟩
theorem gsetCell (w : World) (b k : Nat) (v : Value) : w.grownBy (w.setCell ⟨b, k, none⟩ v) (some b) := by
  refine ⟨rfl, rfl, rfl, by simp [World.setCell], fun g hb hne => ?_⟩
  simp only [World.setCell, Array.getElem?_modify]
  rw [if_neg (fun e => hne (by rw [e]))]
theorem gtrans {x y z : World} {r : Option Nat} (h : x.grownBy y r) (k : y.grownBy z r) : x.grownBy z r :=
  ⟨k.os.trans h.os, k.tape.trans h.tape, k.output.trans h.output, Nat.le_trans h.size k.size, fun b hb hne => (k.block b (Nat.lt_of_lt_of_le hb h.size) hne).trans (h.block b hb hne)⟩
theorem gsetCells (b : Nat) : ∀ (vs : List Value) (o : Nat) (w : World), w.grownBy (w.setCells b o vs) (some b)
  | [], o, w => ⟨rfl, rfl, rfl, Nat.le_refl _, fun _ _ _ => rfl⟩
  | v :: r, o, w => gtrans (gsetCell w b o v) (gsetCells b r (o + 1) _)
theorem gbelow {x y : World} (h : Below x.heap.size x y) (r : Option Nat) : x.grownBy y r := ⟨h.os, h.tape, h.output, h.size, fun k hk _ => h.block k hk⟩
theorem own_below {w w' : World} {base : Nat} {e : TypeId} {size : Nat} {v : Value} {n : Nat} {xs : List Value} (h : w.ownsRow base e size v n xs) (hb : Below w.heap.size w w') : w'.ownsRow base e size v n xs :=
  h.kept (row := none) (gbelow hb none) (by cases hv : v.ownBlock <;> simp)
def mgL (m : W.Mg) : List Value := [.int .i64 m.k, .int .i64 m.l, .int .i64 m.f, .int .i64 m.t, .int .u32 m.d0, .int .u32 m.d1, .int .u32 m.d2, .int .u32 m.d3, .bool m.h, .bool m.d, .bool m.a]
def mgV (m : W.Mg) : Value := .agg (mgL m).toArray
def mgX (l : List W.Mg) : List Value := l.flatMap mgL
theorem mgL_len (m : W.Mg) : (mgL m).length = 11 := rfl
theorem mgX_len (l : List W.Mg) : (mgX l).length = l.length * 11 := by
  induction l with
  | nil => rfl
  | cons x l ih => simp only [mgX, List.flatMap_cons, List.length_append, mgL_len, List.length_cons] at *; omega
theorem mgX_app (l : List W.Mg) (f : W.Mg) : mgX (l ++ [f]) = mgX l ++ mgL f := by simp [mgX]
theorem mgX_get : ∀ (l : List W.Mg) (j k : Nat) (f : W.Mg), l[j]? = some f → k < 11 → (mgX l)[j * 11 + k]? = (mgL f)[k]?
  | [], j, k, f, h, _ => by simp at h
  | x :: l, 0, k, f, h, hk => by
    have e : x = f := by simpa using h
    subst e
    show (mgL x ++ mgX l)[0 * 11 + k]? = _
    rw [Nat.zero_mul, Nat.zero_add, List.getElem?_append_left (by rw [mgL_len]; exact hk)]
  | x :: l, j + 1, k, f, h, hk => by
    show (mgL x ++ mgX l)[(j + 1) * 11 + k]? = _
    rw [List.getElem?_append_right (by rw [mgL_len]; omega), mgL_len, show (j + 1) * 11 + k - 11 = j * 11 + k by omega]
    exact mgX_get l j k f (by simpa using h) hk
theorem oneM (m : W.Mg) : ∀ u ∈ mgL m, u.oneCell' = true := by intro u hu; simp [mgL] at hu; rcases hu with h | h | h | h | h | h | h | h | h | h | h <;> subst h <;> rfl
theorem oneMX (l : List W.Mg) : ∀ u ∈ mgX l, u.oneCell' = true := by
  intro u hu
  unfold mgX at hu
  obtain ⟨e, he, hu⟩ := List.mem_flatMap.1 hu
  exact oneM e u hu
/-- Words for whole structs that the walk does not open. -/
def ldM (a : Addr) : Sem Value := loadVar 35 a
theorem ldM_eq (a : Addr) : loadVar 35 a = ldM a := rfl
def stM (a : Addr) (v : Value) : Sem Unit := storeVar 35 a v
theorem stM_eq (a : Addr) (v : Value) : storeVar 35 a v = stM a v := rfl
def bdM (l : Array (Nat × Value)) : Sem Value := Instr.build 35 l
theorem bdM_eq (l : Array (Nat × Value)) : Instr.build 35 l = bdM l := rfl
def bsM (n : Nat) (l : Array (Nat × Value)) : Sem Value := Instr.buildSlice 25 n l
theorem bsM_eq (n : Nat) (l : Array (Nat × Value)) : Instr.buildSlice 25 n l = bsM n l := rfl
theorem bsM_any (m : W.Mg) (w : World) : (bsM 1 #[(0, mgV m)]).run Try.prog w = .ok (.slice (some ⟨w.heap.size, 0, none⟩) 1 1) (w.alloc (.cells (mgL m).toArray 35)) := by kernel_rfl
theorem bdM_0 (w : World) : (bdM #[]).run Try.prog w = .ok (mgV W.mg0) w := by kernel_rfl
theorem ldM_at {w : World} {b o : Nat} {m : W.Mg} (h : w.rangeAt b o (mgL m)) : (ldM ⟨b, o, none⟩).run Try.prog w = .ok (mgV m) w := run_loadVar_mid w b o _ _ _ h Try.underlying35 rfl (by kernel_rfl)
theorem range_new (w : World) (cs : List Value) (T : TypeId) : (w.alloc (.cells cs.toArray T)).rangeAt w.heap.size 0 cs := fun j v hv => by
  rw [Nat.zero_add, cell_of_row _ _ j _ T (0, 0) (heap_alloc_last w _)]
  simpa using hv
theorem range_below {w w' : World} {b o : Nat} {cs : List Value} (h : w.rangeAt b o cs) (hb : Below w.heap.size w w') (hl : b < w.heap.size) : w'.rangeAt b o cs := fun j v hv => (hb.cell (p := ⟨b, o + j, none⟩) hl).trans (h j v hv)
theorem stM_new (w : World) (m : W.Mg) (Z : Array Value) (hz : Z.size = 11) : (stM ⟨w.heap.size, 0, none⟩ (mgV m)).run Try.prog (w.alloc (.cells Z 35)) = .ok () (w.alloc (.cells (mgL m).toArray 35)) := by
  have := run_storeVar_new (P := Try.prog) w 35 Z (mgL m).toArray (by kernel_rfl) (by rw [hz]; rfl) (by simpa using oneM m)
  exact this
structure Ms (s : W.Sl) (l : List W.Mg) (w : World) : Prop where
  n : s.n = l.length
  m : s.n ≤ 4096
  nc : s.n ≤ s.c
  at_ : 0 < s.n → ∃ b o, s.a = some ⟨b, o, none⟩ ∧ b < w.heap.size ∧ ∀ j x, l[j]? = some x → w.rangeAt b (o + j * 11) (mgL x)
theorem range_block {w w' : World} {b o : Nat} {cs : List Value} (h : w.rangeAt b o cs) (hq : w'.heap[b]? = w.heap[b]?) : w'.rangeAt b o cs := fun j v hv => (World.cell?_of_block (a := ⟨b, o + j, none⟩) hq).trans (h j v hv)
theorem Ms.block {s : W.Sl} {l : List W.Mg} {w w' : World} (h : Ms s l w) (hz : w.heap.size ≤ w'.heap.size) (hk : ∀ b o, s.a = some ⟨b, o, none⟩ → b < w.heap.size → w'.heap[b]? = w.heap[b]?) : Ms s l w' :=
  ⟨h.n, h.m, h.nc, fun h0 => by
    obtain ⟨b, o, e, hl, hc⟩ := h.at_ h0
    exact ⟨b, o, e, Nat.lt_of_lt_of_le hl hz, fun j x hx => range_block (hc j x hx) (hk b o e hl)⟩⟩
theorem Ms.below {s : W.Sl} {l : List W.Mg} {w w' : World} (h : Ms s l w) (hb : Below w.heap.size w w') : Ms s l w' := h.block hb.size (fun b o _ hl => hb.block b hl)
/-- A block holds this message. -/
def MsgAt (b : Nat) (m : W.Mg) (w : World) : Prop := w.heap[b]? = some (.cells (mgL m).toArray 35)
theorem MsgAt.ld {b : Nat} {m : W.Mg} {w : World} (h : MsgAt b m w) : (ldM ⟨b, 0, none⟩).run Try.prog w = .ok (mgV m) w :=
  ldM_at (fun j v hv => by
    rw [Nat.zero_add, cell_of_row _ _ j _ 35 (0, 0) h]
    simpa using hv)
theorem MsgAt.below {b : Nat} {m : W.Mg} {w w' : World} (h : MsgAt b m w) (hb : Below w.heap.size w w') : MsgAt b m w' := (hb.block b (Array.getElem?_eq_some_iff.1 h).1).trans h
theorem MsgAt.lt {b : Nat} {m : W.Mg} {w : World} (h : MsgAt b m w) : b < w.heap.size := (Array.getElem?_eq_some_iff.1 h).1
theorem msgAt_new (w : World) (m : W.Mg) : MsgAt w.heap.size m (w.alloc (.cells (mgL m).toArray 35)) := heap_alloc_last w _
def MsgRoom (b : Nat) (w : World) : Prop := ∃ Z : Array Value, Z.size = 11 ∧ w.heap[b]? = some (.cells Z 35)
/-- But for these blocks, and new ones, the world is as it was. -/
structure Gs (S : Nat → Prop) (w w' : World) : Prop where
  os : w'.os = w.os
  tape : w'.tape = w.tape
  output : w'.output = w.output
  size : w.heap.size ≤ w'.heap.size
  block : ∀ b, b < w.heap.size → ¬ S b → w'.heap[b]? = w.heap[b]?
theorem Gs.refl (S : Nat → Prop) (w : World) : Gs S w w := ⟨rfl, rfl, rfl, Nat.le_refl _, fun _ _ _ => rfl⟩
theorem Gs.trans {S : Nat → Prop} {x y z : World} (h : Gs S x y) (k : Gs S y z) : Gs S x z :=
  ⟨k.os.trans h.os, k.tape.trans h.tape, k.output.trans h.output, Nat.le_trans h.size k.size, fun b hb hn => (k.block b (Nat.lt_of_lt_of_le hb h.size) hn).trans (h.block b hb hn)⟩
theorem Gs.trans' {S T : Nat → Prop} {x y z : World} (h : Gs S x y) (hs : ∀ b, b < x.heap.size → T b → S b) (k : Gs T y z) : Gs S x z :=
  ⟨k.os.trans h.os, k.tape.trans h.tape, k.output.trans h.output, Nat.le_trans h.size k.size, fun b hb hn => (k.block b (Nat.lt_of_lt_of_le hb h.size) (fun e => hn (hs b hb e))).trans (h.block b hb hn)⟩
theorem Gs.mono {S T : Nat → Prop} {x y : World} (h : Gs S x y) (hs : ∀ b, b < x.heap.size → S b → T b) : Gs T x y := ⟨h.os, h.tape, h.output, h.size, fun b hb hn => h.block b hb (fun e => hn (hs b hb e))⟩
theorem Gs.of_below {S : Nat → Prop} {x y : World} (h : Below x.heap.size x y) : Gs S x y := ⟨h.os, h.tape, h.output, h.size, fun b hb _ => h.block b hb⟩
theorem Gs.of_grown {S : Nat → Prop} {x y : World} {r : Option Nat} (h : x.grownBy y r) (hs : ∀ b, r = some b → S b) : Gs S x y := ⟨h.os, h.tape, h.output, h.size, fun b hb hn => h.block b hb (fun e => hn (hs b e.symm))⟩
theorem Gs.below {S : Nat → Prop} {n : Nat} {x y : World} (h : Gs S x y) (hn : n ≤ x.heap.size) (hs : ∀ b, S b → n ≤ b) : Below n x y := ⟨h.os, h.tape, h.output, h.size, fun b hb => h.block b (by omega) (fun e => by have := hs b e; omega)⟩
theorem Gs.bc {S : Nat → Prop} {x y : World} {b n : Nat} {f : Nat → Value} (h : Gs S x y) (hb : Bc b n f x) (hs : ¬ S b) : Bc b n f y :=
  have q := h.block b hb.lt hs
  ⟨Nat.lt_of_lt_of_le hb.lt h.size, fun j hj => (World.cell?_of_block (a := ⟨b, j, none⟩) q).trans (hb.c j hj), fun j => (World.frozen?_of_block (a := ⟨b, j, none⟩) q).trans (hb.fz j)⟩
theorem gdrew (w : World) (r : Option Nat) : w.grownBy w.drew r := ⟨rfl, rfl, rfl, Nat.le_refl _, fun _ _ _ => rfl⟩
theorem galloc (w : World) (o : Obj) (r : Option Nat) : w.grownBy (w.alloc o) r := gbelow ((Below.refl _ _).alloc (Nat.le_refl _) o) r
theorem below_alloc (w : World) (o : Obj) : Below w.heap.size w (w.alloc o) := (Below.refl _ _).alloc (Nat.le_refl _) _

def inX (l : List Int) : List Value := l.map (fun x => .int .i64 x)
theorem inX_get (l : List Int) (j : Nat) (x : Int) (h : l[j]? = some x) : (inX l)[j]? = some (.int .i64 x) := by unfold inX; rw [List.getElem?_map, h]; rfl
theorem oneI (l : List Int) : ∀ u ∈ inX l, u.oneCell' = true := by
  intro u hu
  obtain ⟨x, _, rfl⟩ := List.mem_map.1 hu
  rfl
/-- A list of numbers in memory of one's own. -/
def On (base : Nat) (v : Value) (l : List Int) (w : World) : Prop := w.ownsRow base 3 1 v l.length (inX l)
theorem On.below {base : Nat} {v : Value} {l : List Int} {w w' : World} (h : On base v l w) (hb : Below w.heap.size w w') : On base v l w' := own_below h hb
theorem On.nil (base : Nat) (w : World) : On base (.slice none 0 0) [] w := ⟨rfl, Or.inl ⟨rfl, rfl⟩⟩
theorem infoI : (Try.prog.info? 3).map (fun i => (i.zero, i.size, i.bytes)) = some (some (.int .i64 0), 1, 8) := by kernel_rfl
theorem On.form {base : Nat} {v : Value} {l : List Int} {w : World} (h : On base v l w) : (v = .slice none 0 0 ∧ l = []) ∨ ∃ g cap, v = .slice (some ⟨g, 0, none⟩) l.length cap ∧ base ≤ g ∧ g < w.heap.size ∧ l.length ≤ cap ∧ cap ≤ maxLen ∧ ∀ j x, l[j]? = some x → w.cell? ⟨g, j, none⟩ = some (.int .i64 x) := by
  have HO : w.ownsRow base 3 1 v l.length (inX l) := h
  rcases h.2 with ⟨h1, h2⟩ | ⟨g, cap, cur, h1, hbg, hg, hnc, hcm, hcs, htk⟩
  · exact Or.inl ⟨h1, List.eq_nil_of_length_eq_zero h2⟩
  · refine Or.inr ⟨g, cap, h1, hbg, (Array.getElem?_eq_some_iff.1 hg).1, hnc, hcm, fun j x hx => ?_⟩
    have hj : j < l.length := (List.getElem?_eq_some_iff.1 hx).1
    rw [h1] at HO
    rw [HO.cellAt j (by omega)]
    exact inX_get l j x hx
/-- -/
theorem On.li {base : Nat} {v : Value} {l : List Int} {w : World} (h : On base v l w) (hl : l.length ≤ 4096) : ∃ s, v = slV s ∧ Li s l w := by
  rcases h.form with ⟨rfl, rfl⟩ | ⟨g, cap, rfl, h1, h2, h3, h4, h5⟩
  · exact ⟨⟨none, 0, 0⟩, rfl, ⟨rfl, by show 0 ≤ 4096; decide, Nat.le_refl _, fun h => absurd h (Nat.lt_irrefl 0)⟩⟩
  · exact ⟨⟨some ⟨g, 0, none⟩, l.length, cap⟩, rfl, rfl, hl, h3, fun _ => ⟨g, 0, rfl, h2, fun j x hx => by rw [Nat.zero_add]; exact h5 j x hx⟩⟩
end Go.Proofs.Ytadkpelcbnljbaa
