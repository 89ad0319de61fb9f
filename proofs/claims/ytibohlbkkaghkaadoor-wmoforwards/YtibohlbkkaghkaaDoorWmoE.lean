/- wmo: lay: the place in order of each operation. -/
import Derived.Test.YtibohlbkkaghkaaDoorWmoD
namespace Go.Proofs.YtibohlbkkaghkaaDoor
open Go.ChangeShapes Go.WideShapes Go.ChangeAt Go.RowKit
set_option linter.unusedVariables false
set_option linter.unusedSimpArgs false

namespace W
/-- The place of (h, i) among the first j of order; 0: none. -/
def plc (r : Nat → Nat × Nat) : Nat → Nat → Nat → Int
  | 0, _, _ => 0
  | j + 1, h, i => if h = (r j).1 ∧ i = (r j).2 then (j : Int) + 1 else plc r j h i
end W
/-- Refs in memory. -/
structure Os (a : Option Addr) (N : Nat) (r : Nat → Nat × Nat) (w : World) : Prop where
  at_ : 0 < N → ∃ b, a = some ⟨b, 0, none⟩ ∧ b < w.heap.size ∧ ∀ j, j < N → w.cell? ⟨b, j * 2, none⟩ = some (.int .i64 ((r j).1 : Int)) ∧ w.cell? ⟨b, j * 2 + 1, none⟩ = some (.int .i64 ((r j).2 : Int))
theorem Os.below {a : Option Addr} {N : Nat} {r : Nat → Nat × Nat} {w w' : World} (h : Os a N r w) (hb : Below w.heap.size w w') : Os a N r w' :=
  ⟨fun h0 => by
    obtain ⟨b, e, hl, hc⟩ := h.at_ h0
    exact ⟨b, e, Nat.lt_of_lt_of_le hl hb.size, fun j hj => ⟨(hb.cell (p := ⟨b, _, none⟩) hl).trans (hc j hj).1, (hb.cell (p := ⟨b, _, none⟩) hl).trans (hc j hj).2⟩⟩⟩
/-- Each Ref names an operation, none twice, and all are there. -/
structure W.Or (K : Nat) (n : Nat → Nat) (x : Nat → Nat → W.Oz) (N : Nat) (r : Nat → Nat × Nat) : Prop where
  h : ∀ j, j < N → (r j).1 < K
  i : ∀ j, j < N → (r j).2 < n (r j).1
  k : ∀ j, j < N → (x (r j).1 (r j).2).o.k ≠ 4
  f : ∀ j, j < N → W.plc r j (r j).1 (r j).2 = 0
  t : W.tot (fun h => W.cnt (x h) (n h)) K = N
/-- Places in memory, of the first m harts. -/
structure Pl (base PB K : Nat) (n : Nat → Nat) (pb : Nat → Nat) (f : Nat → Nat → Int) (m : Nat) (w : World) : Prop where
  o : Bc PB K (fun h => if h < m then .slice (some ⟨pb h, 0, none⟩) (n h) (n h) else .slice none 0 0) w
  i : ∀ h, h < m → Bc (pb h) (n h) (fun i => .int .i64 (f h i)) w
  ne : ∀ h, h < m → pb h ≠ PB
  inj : ∀ h h', h < m → h' < m → h ≠ h' → pb h ≠ pb h'
  b0 : base ≤ PB
  bi : ∀ h, h < m → base ≤ pb h
theorem Pl.below {base PB K : Nat} {n : Nat → Nat} {pb : Nat → Nat} {f : Nat → Nat → Int} {m : Nat} {w w' : World} (h : Pl base PB K n pb f m w) (hb : Below w.heap.size w w') : Pl base PB K n pb f m w' :=
  ⟨h.o.below hb, fun j hj => (h.i j hj).below hb, h.ne, h.inj, h.b0, h.bi⟩
/-- One hart more. -/
theorem Pl.step {base PB K : Nat} {n : Nat → Nat} {pb : Nat → Nat} {f : Nat → Nat → Int} {m : Nat} {w : World} (h : Pl base PB K n pb f m w) (hm : m < K) (T : TypeId) (hf : ∀ i, f m i = 0) (hbase : base ≤ w.heap.size) :
    Pl base PB K n (fun j => if j = m then w.heap.size else pb j) f (m + 1) ((w.alloc (.cells (madeCells #[.int .i64 0] (n m)) T)).setCell ⟨PB, m, none⟩ (.slice (some ⟨w.heap.size, 0, none⟩) (n m) (n m))) := by
  have hal : Below w.heap.size w (w.alloc (.cells (madeCells #[.int .i64 0] (n m)) T)) := (Below.refl _ _).alloc (Nat.le_refl _) _
  have q := h.below hal
  have hw : w.heap.size ≠ PB := by have := h.o.lt; omega
  refine ⟨((q.o.set m _).congr fun j hj => ?_), fun j hj => ?_, fun j hj => ?_, fun j j' hj hj' hne => ?_, h.b0, fun j hj => ?_⟩
  · unfold updV
    by_cases e : j = m
    · subst e; rw [if_pos rfl, if_pos (by omega), if_pos rfl]
    · rw [if_neg e, if_neg e]
      dsimp only
      by_cases e2 : j < m
      · rw [if_pos e2, if_pos (by omega)]
      · rw [if_neg e2, if_neg (by omega)]
  · by_cases e : j = m
    · subst e
      rw [if_pos rfl]
      refine ((Bc.made w #[.int .i64 0] (n j) T).congr fun i hi => ?_).other PB j _ hw
      rw [hf]
      show (#[Value.int .i64 0] : Array Value)[i % 1]! = _
      rw [Nat.mod_one]
      rfl
    · rw [if_neg e]
      exact (q.i j (by omega)).other PB m _ (h.ne j (by omega))
  · by_cases e : j = m
    · rw [if_pos e]; exact hw
    · rw [if_neg e]; exact h.ne j (by omega)
  · have hlt : ∀ t, t < m → pb t ≠ w.heap.size := fun t ht e => by have := (h.i t ht).lt; omega
    by_cases e : j = m
    · rw [if_pos e, if_neg (by omega)]
      exact (hlt j' (by omega)).symm
    · rw [if_neg e]
      by_cases e2 : j' = m
      · rw [if_pos e2]; exact hlt j (by omega)
      · rw [if_neg e2]; exact h.inj j j' (by omega) (by omega) hne
  · by_cases e : j = m
    · rw [if_pos e]; exact hbase
    · rw [if_neg e]; exact h.bi j (by omega)
/-- A place written. -/
theorem Pl.set {base PB K : Nat} {n : Nat → Nat} {pb : Nat → Nat} {f : Nat → Nat → Int} {m : Nat} {w : World} (h : Pl base PB K n pb f m w) (a b : Nat) (ha : a < m) (v : Int) :
    Pl base PB K n pb (fun j i => if j = a ∧ i = b then v else f j i) m (w.setCell ⟨pb a, b, none⟩ (.int .i64 v)) := by
  refine ⟨h.o.other _ _ _ (h.ne a ha).symm, fun j hj => ?_, h.ne, h.inj, h.b0, h.bi⟩
  by_cases e : j = a
  · subst e
    refine ((h.i j hj).set b _).congr fun i hi => ?_
    unfold updV
    by_cases e2 : i = b
    · rw [if_pos e2, if_pos ⟨rfl, e2⟩]
    · rw [if_neg e2, if_neg (fun q => e2 q.2)]
  · refine ((h.i j hj).other _ _ _ (h.inj j a hj ha e)).congr fun i hi => ?_
    rw [if_neg (fun q => e q.1)]
theorem Pl.congr {base PB K : Nat} {n : Nat → Nat} {pb : Nat → Nat} {f g : Nat → Nat → Int} {m : Nat} {w : World} (h : Pl base PB K n pb f m w) (e : ∀ j i, f j i = g j i) : Pl base PB K n pb g m w := by
  have : f = g := funext fun j => funext fun i => e j i
  subst this; exact h
theorem make_lists (n : Nat) (hn : n ≤ 8192) (w : World) : (Instr.makeSlice 64 (.int .i64 (n : Int)) (.int .i64 (n : Int))).run Tryd.prog w = .ok (.slice (some ⟨w.heap.size, 0, none⟩) n n) (w.alloc (.cells (madeCells #[.slice none 0 0] n) 23)) := by
  obtain ⟨i, hi, hzz⟩ := Option.map_eq_some_iff.1 (show (Tryd.prog.info? 23).map (fun i => (i.zero, i.size, i.bytes)) = some (some (.slice none 0 0), 1, 24) by kernel_rfl)
  simp only [Prod.mk.injEq] at hzz
  obtain ⟨hz, hs, hb⟩ := hzz
  have hr := run_make (P := Tryd.prog) w 64 23 i _ Tryd.underlying64 hi hz .i64 .i64 n n (by omega) (by omega) (by rw [hb]; omega) (by omega)
  simp only [Int.toNat_natCast, hs, Nat.mul_one] at hr
  exact hr
theorem Pl.start (w : World) (K : Nat) (n : Nat → Nat) (T : TypeId) : Pl w.heap.size w.heap.size K n (fun _ => 0) (fun _ _ => 0) 0 (w.alloc (.cells (madeCells #[.slice none 0 0] K) T)) :=
  ⟨(Bc.made w #[.slice none 0 0] K T).congr fun i hi => by
      rw [if_neg (by omega)]
      show (#[Value.slice none 0 0] : Array Value)[i % 1]! = _
      rw [Nat.mod_one]
      rfl, fun h hh => absurd hh (by omega), fun h hh => absurd hh (by omega), fun h h' hh => absurd hh (by omega), Nat.le_refl _, fun h hh => absurd hh (by omega)⟩
end Go.Proofs.YtibohlbkkaghkaaDoor
