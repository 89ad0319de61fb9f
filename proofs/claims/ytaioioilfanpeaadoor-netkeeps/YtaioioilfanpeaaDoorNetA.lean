/- net: words for lists, blocks, messages in memory. -/
import Derived.Test.YtaioioilfanpeaaDoorRows
import Derived.WalkKit
import Derived.ProofKit
import Derived.OpenShut
import Derived.Deep.QuietTactic
import Derived.BigQuiet
import Derived.WalkSmall
import Derived.Lib.Walk
import Derived.Lib.SliceRun
import Derived.Deep.WholeRow
import Derived.Deep.MidRow
import Derived.Deep.AppendLies
import Derived.Deep.RegionLaw
namespace Go.Proofs.YtaioioilfanpeaaDoor
open Go.ChangeShapes Go.WideShapes Go.ChangeAt Go.RowKit
set_option linter.unusedVariables false
set_option linter.unusedSimpArgs false

theorem ret_int {k : IntKind} {a b : Int} (h : a = b) : Ending.returned (.int k a) = .returned (.int k b) := by rw [h]
structure W.Sl where
  a : Option Addr
  n : Nat
  c : Nat
def W.Sl.nil : W.Sl := ⟨none, 0, 0⟩
def slV (s : W.Sl) : Value := .slice s.a s.n s.c
/-- A list of numbers lies in memory. -/
structure Li (s : W.Sl) (l : List Int) (w : World) : Prop where
  n : s.n = l.length
  m : s.n ≤ 4096
  nc : s.n ≤ s.c
  at_ : 0 < s.n → ∃ b o, s.a = some ⟨b, o, none⟩ ∧ b < w.heap.size ∧ ∀ j x, l[j]? = some x → w.cell? ⟨b, o + j, none⟩ = some (.int .i64 x)
theorem Li.below {s : W.Sl} {l : List Int} {w w' : World} (h : Li s l w) (hb : Below w.heap.size w w') : Li s l w' :=
  ⟨h.n, h.m, h.nc, fun h0 => by
    obtain ⟨b, o, e, hl, hc⟩ := h.at_ h0
    exact ⟨b, o, e, Nat.lt_of_lt_of_le hl hb.size, fun j x hx => (hb.cell (p := ⟨b, o + j, none⟩) hl).trans (hc j x hx)⟩⟩
theorem li_some {b o n c : Nat} {l : List Int} {w : World} (hn : n = l.length) (hm : n ≤ 4096) (hnc : n ≤ c) (hb : b < w.heap.size) (hc : ∀ j x, l[j]? = some x → w.cell? ⟨b, o + j, none⟩ = some (.int .i64 x)) : Li ⟨some ⟨b, o, none⟩, n, c⟩ l w := ⟨hn, hm, hnc, fun _ => ⟨b, o, rfl, hb, hc⟩⟩

/-- A block holds these cells. -/
structure Bc (b n : Nat) (f : Nat → Value) (w : World) : Prop where
  lt : b < w.heap.size
  c : ∀ j, j < n → w.cell? ⟨b, j, none⟩ = some (f j)
  fz : ∀ j, w.frozen? ⟨b, j, none⟩ = false
theorem Bc.below {b n : Nat} {f : Nat → Value} {w w' : World} (h : Bc b n f w) (hb : Below w.heap.size w w') : Bc b n f w' :=
  ⟨Nat.lt_of_lt_of_le h.lt hb.size, fun j hj => (hb.cell (p := ⟨b, j, none⟩) h.lt).trans (h.c j hj), fun j => (hb.frozen (p := ⟨b, j, none⟩) h.lt).trans (h.fz j)⟩
def updV (f : Nat → Value) (k : Nat) (v : Value) : Nat → Value := fun j => if j = k then v else f j
theorem Bc.set {b n : Nat} {f : Nat → Value} {w : World} (h : Bc b n f w) (k : Nat) (v : Value) : Bc b n (updV f k v) (w.setCell ⟨b, k, none⟩ v) :=
  ⟨by simpa [World.setCell] using h.lt, fun j hj => by
    unfold updV
    by_cases e : j = k
    · subst e
      rw [if_pos rfl]
      exact World.cell?_setCell_same _ _ _ (h.c j hj)
    · rw [if_neg e]
      exact (World.cell?_setCell_other _ _ _ _ (by simp [e])).trans (h.c j hj), fun j => (World.frozen?_setCell _ _ _ _).trans (h.fz j)⟩
theorem Bc.other {b n : Nat} {f : Nat → Value} {w : World} (h : Bc b n f w) (g k : Nat) (v : Value) (hg : b ≠ g) : Bc b n f (w.setCell ⟨g, k, none⟩ v) :=
  ⟨by simpa [World.setCell] using h.lt, fun j hj => (World.cell?_setCell_other _ _ _ _ (by simp [hg])).trans (h.c j hj), fun j => (World.frozen?_setCell _ _ _ _).trans (h.fz j)⟩
theorem Bc.grown {b n : Nat} {f : Nat → Value} {w w' : World} {r : Option Nat} (h : Bc b n f w) (hg : w.grownBy w' r) (hne : some b ≠ r) : Bc b n f w' := by
  have q := hg.block b h.lt hne
  exact ⟨Nat.lt_of_lt_of_le h.lt hg.size, fun j hj => (World.cell?_of_block q).trans (h.c j hj), fun j => by
    have := h.fz j
    simp only [World.frozen?] at this ⊢
    rw [q]
    exact this⟩
theorem Bc.congr {b n : Nat} {f g : Nat → Value} {w : World} (h : Bc b n f w) (e : ∀ j, j < n → f j = g j) : Bc b n g w := ⟨h.lt, fun j hj => by rw [← e j hj]; exact h.c j hj, h.fz⟩
theorem bc_row {b n : Nat} {f : Nat → Value} {w : World} {cs : Array Value} {T : TypeId} (h : w.heap[b]? = some (.cells cs T)) (hc : ∀ j, j < n → cs[j]? = some (f j)) : Bc b n f w :=
  ⟨(Array.getElem?_eq_some_iff.1 h).1, fun j hj => (cell_of_row _ _ j _ T (0, 0) h).trans (hc j hj), fun j => by unfold World.frozen?; rw [h]; simp⟩
theorem gsetCell (w : World) (b k : Nat) (v : Value) : w.grownBy (w.setCell ⟨b, k, none⟩ v) (some b) := by
  refine ⟨rfl, rfl, rfl, by simp [World.setCell], fun g hb hne => ?_⟩
  simp only [World.setCell, Array.getElem?_modify]
  rw [if_neg (fun e => hne (by rw [e]))]
theorem gtrans {x y z : World} {r : Option Nat} (h : x.grownBy y r) (k : y.grownBy z r) : x.grownBy z r :=
  ⟨k.os.trans h.os, k.tape.trans h.tape, k.output.trans h.output, Nat.le_trans h.size k.size, fun b hb hne => (k.block b (Nat.lt_of_lt_of_le hb h.size) hne).trans (h.block b hb hne)⟩
theorem gsetCells (b : Nat) : ∀ (vs : List Value) (o : Nat) (w : World), w.grownBy (w.setCells b o vs) (some b)
  | [], o, w => ⟨rfl, rfl, rfl, Nat.le_refl _, fun _ _ _ => rfl⟩
  | v :: r, o, w => gtrans (gsetCell w b o v) (gsetCells b r (o + 1) _)
theorem gbelow {x y : World} (h : Below x.heap.size x y) (r : Option Nat) : x.grownBy y r := ⟨h.os, h.tape, h.output, h.size, fun k hk _ => h.block k hk⟩
theorem own_below {w w' : World} {base : Nat} {e : TypeId} {size : Nat} {v : Value} {n : Nat} {xs : List Value} (h : w.ownsRow base e size v n xs) (hb : Below w.heap.size w w') : w'.ownsRow base e size v n xs :=
  h.kept (row := none) (gbelow hb none) (by cases hv : v.ownBlock <;> simp)

namespace W
structure Mg where
  k : Int
  l : Int
  f : Int
  t : Int
  d0 : Int
  d1 : Int
  d2 : Int
  d3 : Int
  h : Bool
  d : Bool
  a : Bool
deriving DecidableEq
structure Fl where
  id : Int
  m : Mg
def mg0 : Mg := ⟨0, 0, 0, 0, 0, 0, 0, 0, false, false, false⟩
def cls (k : Int) : Int := if 1 ≤ k ∧ k ≤ 3 then 0 else if 4 ≤ k ∧ k ≤ 9 then 1 else if 10 ≤ k ∧ k ≤ 12 then 2 else -1
/-- Is there a link? -/
def endB (h f t c : Int) : Bool := if c = 0 ∨ c = 2 then decide (t = -1 ∧ 0 ≤ f ∧ f < h) else if c = 1 then decide (f = -1 ∧ 0 ≤ t ∧ t < h) else false
def endH (h f t c : Int) : Int := bif endB h f t c then (if c = 1 then t else f) else 0
end W
def mgL (m : W.Mg) : List Value := [.int .i64 m.k, .int .i64 m.l, .int .i64 m.f, .int .i64 m.t, .int .u32 m.d0, .int .u32 m.d1, .int .u32 m.d2, .int .u32 m.d3, .bool m.h, .bool m.d, .bool m.a]
def mgV (m : W.Mg) : Value := .agg (mgL m).toArray
def flL (f : W.Fl) : List Value := .int .i64 f.id :: mgL f.m
def flV (f : W.Fl) : Value := .agg (flL f).toArray
def flX (l : List W.Fl) : List Value := l.flatMap flL
def mgX (l : List W.Mg) : List Value := l.flatMap mgL
theorem mgL_len (m : W.Mg) : (mgL m).length = 11 := rfl
theorem flL_len (f : W.Fl) : (flL f).length = 12 := rfl
theorem flX_len (l : List W.Fl) : (flX l).length = l.length * 12 := by
  induction l with
  | nil => rfl
  | cons x l ih => simp only [flX, List.flatMap_cons, List.length_append, flL_len, List.length_cons] at *; omega
theorem mgX_len (l : List W.Mg) : (mgX l).length = l.length * 11 := by
  induction l with
  | nil => rfl
  | cons x l ih => simp only [mgX, List.flatMap_cons, List.length_append, mgL_len, List.length_cons] at *; omega
theorem flX_app (l : List W.Fl) (f : W.Fl) : flX (l ++ [f]) = flX l ++ flL f := by simp [flX]
theorem mgX_app (l : List W.Mg) (f : W.Mg) : mgX (l ++ [f]) = mgX l ++ mgL f := by simp [mgX]
theorem flX_get : ∀ (l : List W.Fl) (j k : Nat) (f : W.Fl), l[j]? = some f → k < 12 → (flX l)[j * 12 + k]? = (flL f)[k]?
  | [], j, k, f, h, _ => by simp at h
  | x :: l, 0, k, f, h, hk => by
    have e : x = f := by simpa using h
    subst e
    show (flL x ++ flX l)[0 * 12 + k]? = _
    rw [Nat.zero_mul, Nat.zero_add, List.getElem?_append_left (by rw [flL_len]; exact hk)]
  | x :: l, j + 1, k, f, h, hk => by
    show (flL x ++ flX l)[(j + 1) * 12 + k]? = _
    rw [List.getElem?_append_right (by rw [flL_len]; omega), flL_len, show (j + 1) * 12 + k - 12 = j * 12 + k by omega]
    exact flX_get l j k f (by simpa using h) hk
theorem mgX_get : ∀ (l : List W.Mg) (j k : Nat) (f : W.Mg), l[j]? = some f → k < 11 → (mgX l)[j * 11 + k]? = (mgL f)[k]?
  | [], j, k, f, h, _ => by simp at h
  | x :: l, 0, k, f, h, hk => by
    have e : x = f := by simpa using h
    subst e
    show (mgL x ++ mgX l)[0 * 11 + k]? = _
    rw [Nat.zero_mul, Nat.zero_add, List.getElem?_append_left (by rw [mgL_len]; exact hk)]
  | x :: l, j + 1, k, f, h, hk => by
    show (mgL x ++ mgX l)[(j + 1) * 11 + k]? = _
    rw [List.getElem?_append_right (by rw [mgL_len]; omega), mgL_len, show (j + 1) * 11 + k - 11 = j * 11 + k by omega]
    exact mgX_get l j k f (by simpa using h) hk
theorem oneM (m : W.Mg) : ∀ u ∈ mgL m, u.oneCell' = true := by intro u hu; simp [mgL] at hu; rcases hu with h | h | h | h | h | h | h | h | h | h | h <;> subst h <;> rfl
theorem oneF (f : W.Fl) : ∀ u ∈ flL f, u.oneCell' = true := by
  intro u hu
  unfold flL at hu
  rcases List.mem_cons.1 hu with h | h
  · subst h; rfl
  · exact oneM _ u h
/-- Words for whole structs that the walk does not open. -/
def ldM (a : Addr) : Sem Value := loadVar 47 a
theorem ldM_eq (a : Addr) : loadVar 47 a = ldM a := rfl
def stM (a : Addr) (v : Value) : Sem Unit := storeVar 47 a v
theorem stM_eq (a : Addr) (v : Value) : storeVar 47 a v = stM a v := rfl
def ldF (a : Addr) : Sem Value := loadVar 66 a
theorem ldF_eq (a : Addr) : loadVar 66 a = ldF a := rfl
def stF (a : Addr) (v : Value) : Sem Unit := storeVar 66 a v
theorem stF_eq (a : Addr) (v : Value) : storeVar 66 a v = stF a v := rfl
def ldG (a : Addr) : Sem Value := loadVar 49 a
theorem ldG_eq (a : Addr) : loadVar 49 a = ldG a := rfl
def ldR (a : Addr) : Sem Value := loadVar 70 a
theorem ldR_eq (a : Addr) : loadVar 70 a = ldR a := rfl
def stR (a : Addr) (v : Value) : Sem Unit := storeVar 70 a v
theorem stR_eq (a : Addr) (v : Value) : storeVar 70 a v = stR a v := rfl
theorem ldM_at {w : World} {b o : Nat} {m : W.Mg} (h : w.rangeAt b o (mgL m)) : (ldM ⟨b, o, none⟩).run Tryd.prog w = .ok (mgV m) w := run_loadVar_mid w b o _ _ _ h Tryd.underlying47 rfl (by kernel_rfl)
theorem ldF_at {w : World} {b o : Nat} {f : W.Fl} (h : w.rangeAt b o (flL f)) : (ldF ⟨b, o, none⟩).run Tryd.prog w = .ok (flV f) w := run_loadVar_mid w b o _ _ _ h Tryd.underlying66 rfl (by kernel_rfl)
theorem ldG_at {w : World} {b o : Nat} {f : W.Fl} (h : w.rangeAt b o (flL f)) : (ldG ⟨b, o, none⟩).run Tryd.prog w = .ok (flV f) w := run_loadVar_mid w b o _ _ _ h Tryd.underlying49 rfl (by kernel_rfl)
theorem range_new (w : World) (cs : List Value) (T : TypeId) : (w.alloc (.cells cs.toArray T)).rangeAt w.heap.size 0 cs := fun j v hv => by
  rw [Nat.zero_add, cell_of_row _ _ j _ T (0, 0) (heap_alloc_last w _)]
  simpa using hv
theorem range_below {w w' : World} {b o : Nat} {cs : List Value} (h : w.rangeAt b o cs) (hb : Below w.heap.size w w') (hl : b < w.heap.size) : w'.rangeAt b o cs := fun j v hv => (hb.cell (p := ⟨b, o + j, none⟩) hl).trans (h j v hv)
theorem stM_new (w : World) (m : W.Mg) (Z : Array Value) (hz : Z.size = 11) : (stM ⟨w.heap.size, 0, none⟩ (mgV m)).run Tryd.prog (w.alloc (.cells Z 47)) = .ok () (w.alloc (.cells (mgL m).toArray 47)) := by
  have := run_storeVar_new (P := Tryd.prog) w 47 Z (mgL m).toArray (by kernel_rfl) (by rw [hz]; rfl) (by simpa using oneM m)
  exact this
theorem stF_new (w : World) (f : W.Fl) (Z : Array Value) (hz : Z.size = 12) : (stF ⟨w.heap.size, 0, none⟩ (flV f)).run Tryd.prog (w.alloc (.cells Z 66)) = .ok () (w.alloc (.cells (flL f).toArray 66)) := by
  have := run_storeVar_new (P := Tryd.prog) w 66 Z (flL f).toArray (by kernel_rfl) (by rw [hz]; rfl) (by simpa using oneF f)
  exact this
end Go.Proofs.YtaioioilfanpeaaDoor
