/- Things and numbers out of what can be read. -/
import Derived.Test.YtlindkhmjkionaaDoorCacA
import Derived.WalkKit
import Derived.ProofKit
import Derived.OpenShut
import Derived.ShutString
import Derived.ChangeOld
import Derived.Below
import Derived.Deep.Slices
namespace Go.Proofs.YtlindkhmjkionaaDoor
open Go.ChangeShapes Go.WideShapes Go.ChangeAt Go.RowKit Go.Deep
set_option linter.unusedVariables false

/-- Numbers out of what can be read. -/
def IsIs (s : W.Sl) (q : Nat → Int) (w : World) : Prop := s.n ≤ s.c ∧ s.n ≤ maxLen ∧ (0 < s.n → ∃ b o, s.a = some ⟨b, o, none⟩ ∧ b < w.heap.size ∧ ∀ j, j < s.n → w.cell? ⟨b, o + j, none⟩ = some (.int .i64 (q j)) ∧ -9223372036854775808 ≤ q j ∧ q j ≤ 9223372036854775807)

/-- Something that a cache is told. -/
structure W.Do where
  k : Int
  n : Int
  e : W.En
def W.do0 : W.Do := ⟨0, 0, W.en0⟩
def doL (d : W.Do) : List Value := .int .i64 d.k :: .int .i64 d.n :: enL d.e
/-- What is said of the numbers of an entry. -/
def W.EOk (e : W.En) : Prop := (-9223372036854775808 ≤ e.l ∧ e.l ≤ 9223372036854775807) ∧ (-9223372036854775808 ≤ e.s ∧ e.s ≤ 9223372036854775807) ∧ (0 ≤ e.d0 ∧ e.d0 < 4294967296) ∧ (0 ≤ e.d1 ∧ e.d1 < 4294967296) ∧ (0 ≤ e.d2 ∧ e.d2 < 4294967296) ∧ 0 ≤ e.d3 ∧ e.d3 < 4294967296
def W.DOk (d : W.Do) : Prop := (-9223372036854775808 ≤ d.n ∧ d.n ≤ 9223372036854775807) ∧ W.EOk d.e
/-- Things out of what can be read: of any length. -/
def IsDs (s : W.Sl) (q : Nat → W.Do) (w : World) : Prop := s.n ≤ s.c ∧ s.n ≤ maxLen ∧ (0 < s.n → ∃ b o, s.a = some ⟨b, o, none⟩ ∧ b < w.heap.size ∧ ∀ j, j < s.n → w.rangeAt b (o + j * 8) (doL (q j)) ∧ W.DOk (q j))
namespace Of
theorem cellsL : Tryd.prog.cellsOf 35 = 4 := by kernel_rfl
theorem cellsI : Tryd.prog.cellsOf 3 = 1 := by kernel_rfl
theorem cellsU : Tryd.prog.cellsOf 33 = 1 := by kernel_rfl
theorem cellsB : Tryd.prog.cellsOf 4 = 1 := by kernel_rfl
theorem lt_of_cell {w : World} {b o : Nat} {v : Value} (h : w.cell? ⟨b, o, none⟩ = some v) : b < w.heap.size := by
  by_cases hb : b < w.heap.size
  · exact hb
  · have e : w.heap[b]? = none := by simp; omega
    simp [World.cell?, e] at h
theorem cellsE : Tryd.prog.cellsOf 37 = 6 := by kernel_rfl
theorem cellsD : Tryd.prog.cellsOf 39 = 8 := by kernel_rfl
set_option maxRecDepth 100000 in
theorem line {H : Type} {enc : TypeId × Value → H} {w : World} {fuel : Nat} {cs : List Value} {x : DataW H × List MemPlace} (hl : cs.length = 4)
    (h : DataW.trod enc Tryd.prog w 0 (fun _ => true) true fuel 35 cs = some x) : ∃ n0 n1 n2 n3 : Int, cs = [.int .u32 n0, .int .u32 n1, .int .u32 n2, .int .u32 n3] ∧ (0 ≤ n0 ∧ n0 < 4294967296) ∧ (0 ≤ n1 ∧ n1 < 4294967296) ∧ (0 ≤ n2 ∧ n2 < 4294967296) ∧ 0 ≤ n3 ∧ n3 < 4294967296 := by
  obtain ⟨zs, k5, _, _, _, hzl, hz5⟩ := DataW.trod_array Tryd.underlying35 h
  match zs, hzl, cs, hl with
  | [z0, z1, z2, z3], _, [v0, v1, v2, v3], _ =>
    have t0 := hz5 0 (by decide)
    have t1 := hz5 1 (by decide)
    have t2 := hz5 2 (by decide)
    have t3 := hz5 3 (by decide)
    simp [cellsU] at t0 t1 t2 t3
    obtain ⟨n4, e4, _, w4⟩ := DataW.trod_int Tryd.underlying33 t0
    obtain ⟨n5, e5, _, w5⟩ := DataW.trod_int Tryd.underlying33 t1
    obtain ⟨n6, e6, _, w6⟩ := DataW.trod_int Tryd.underlying33 t2
    obtain ⟨n7, e7, _, w7⟩ := DataW.trod_int Tryd.underlying33 t3
    simp only [List.cons.injEq, and_true] at e4 e5 e6 e7
    subst e4 e5 e6 e7
    have b4 := bounds_u32 w4
    have b5 := bounds_u32 w5
    have b6 := bounds_u32 w6
    have b7 := bounds_u32 w7
    exact ⟨n4, n5, n6, n7, rfl, by omega, by omega, by omega, by omega, by omega⟩
set_option maxRecDepth 100000 in
theorem entry {H : Type} {enc : TypeId × Value → H} {w : World} {fuel : Nat} {cs : List Value} {x : DataW H × List MemPlace} (hl : cs.length = 6)
    (h : DataW.trod enc Tryd.prog w 0 (fun _ => true) true fuel 37 cs = some x) : ∃ e : W.En, cs = enL e ∧ W.EOk e := by
  obtain ⟨xs, k, hk, hxy, _, hxl, hf⟩ := DataW.trod_struct Tryd.underlying37 h
  match xs, hxl, cs, hl with
  | [y0, y1, y2], _, [v0, v1, v2, v3, v4, v5], _ =>
    have g0 := hf 0 _ rfl
    have g1 := hf 1 _ rfl
    have g2 := hf 2 _ rfl
    simp [cellsI, cellsL] at g0 g1 g2
    obtain ⟨n0, e0, _, w0⟩ := DataW.trod_int Tryd.underlying3 g0
    obtain ⟨n1, e1, _, w1⟩ := DataW.trod_int Tryd.underlying3 g1
    obtain ⟨n2, n3, n4, n5, e2, b2, b3, b4, b5⟩ := line (by rfl) g2
    simp only [List.cons.injEq, and_true] at e0 e1 e2
    obtain ⟨e2, e3, e4, e5⟩ := e2
    subst e0 e1 e2 e3 e4 e5
    exact ⟨⟨n0, n1, n2, n3, n4, n5⟩, rfl, bounds_i64 w0, bounds_i64 w1, b2, b3, b4, b5⟩
set_option maxRecDepth 100000 in
theorem do_ {H : Type} {enc : TypeId × Value → H} {w : World} {fuel : Nat} {cs : List Value} {x : DataW H × List MemPlace} (hl : cs.length = 8)
    (h : DataW.trod enc Tryd.prog w 0 (fun _ => true) true fuel 39 cs = some x) : ∃ d : W.Do, cs = doL d ∧ W.DOk d := by
  obtain ⟨xs, k, hk, hxy, _, hxl, hf⟩ := DataW.trod_struct Tryd.underlying39 h
  match xs, hxl, cs, hl with
  | [y0, y1, y2], _, [v0, v1, v2, v3, v4, v5, v6, v7], _ =>
    have g0 := hf 0 _ rfl
    have g1 := hf 1 _ rfl
    have g2 := hf 2 _ rfl
    simp [cellsI, cellsE] at g0 g1 g2
    obtain ⟨n0, e0, _, w0⟩ := DataW.trod_int Tryd.underlying3 g0
    obtain ⟨n1, e1, _, w1⟩ := DataW.trod_int Tryd.underlying3 g1
    obtain ⟨e, e2, b2⟩ := entry (by rfl) g2
    simp only [List.cons.injEq, and_true] at e0 e1
    subst e0 e1
    refine ⟨⟨n0, n1, e⟩, ?_, bounds_i64 w1, b2⟩
    show [_, _, v2, v3, v4, v5, v6, v7] = _ :: _ :: enL e
    rw [← e2]
theorem dos {H : Type} {enc : TypeId × Value → H} {w : World} {fuel : Nat} {v : Value} {x : DataW H × List MemPlace}
    (h : DataW.trod enc Tryd.prog w 0 (fun _ => true) true fuel 22 [v] = some x) : ∃ (s : W.Sl) (q : Nat → W.Do), v = slV s ∧ IsDs s q w := by
  rcases open_slice Tryd.underlying22 h with ⟨hcs, _⟩ | ⟨a', len', cap', m, n, D, Pl, hcs, _, hl, hm, hmm, _, hx⟩
  · simp only [List.cons.injEq, and_true] at hcs
    subst hcs
    exact ⟨⟨none, 0, 0⟩, fun _ => W.do0, rfl, Nat.le_refl _, Nat.zero_le _, fun h => absurd h (Nat.lt_irrefl 0)⟩
  · simp only [List.cons.injEq, and_true] at hcs
    subst hcs
    simp only [if_true] at hmm
    subst hmm
    by_cases hz : len' = 0
    · subst hz
      exact ⟨⟨some a', 0, m⟩, fun _ => W.do0, rfl, hl, Nat.le_trans hl hm, fun h => absurd h (Nat.lt_irrefl 0)⟩
    · haveI : Inhabited W.Do := ⟨W.do0⟩
      have each : ∀ i, i < len' → ∃ q : W.Do, (∀ j v, (doL q)[j]? = some v → w.cell? (a'.add (i * 8 + j)) = some v) ∧ W.DOk q := by
        intro i hi
        obtain ⟨cs', h1, h2⟩ := hx i (by omega)
        rw [cellsD] at h1
        obtain ⟨_, hlen, hcell⟩ := World.cells?_some h1
        obtain ⟨q, rfl, hok⟩ := do_ hlen h2
        refine ⟨q, fun j v hv => ?_, hok⟩
        have hj : j < 8 := (List.getElem?_eq_some_iff.1 hv).1
        have c := hcell j hj
        rw [add_add] at c
        exact c.trans hv
      obtain ⟨q, hq⟩ := choose_lt each
      have s0 := World.cell?_spot ((hq 0 (by omega)).1 0 _ rfl)
      obtain ⟨b, off, spot⟩ := a'
      have hspot : spot = none := by simpa [Addr.add] using s0
      subst hspot
      simp only [add_plain] at hq
      refine ⟨⟨some ⟨b, off, none⟩, len', m⟩, q, rfl, hl, Nat.le_trans hl hm, fun _ => ⟨b, off, rfl, lt_of_cell ((hq 0 (by omega)).1 0 _ rfl), fun j hj => ⟨fun i v hv => ?_, (hq j hj).2⟩⟩⟩
      rw [Nat.add_assoc]
      exact (hq j hj).1 i v hv
theorem ints {H : Type} {enc : TypeId × Value → H} {w : World} {fuel : Nat} {v : Value} {x : DataW H × List MemPlace}
    (h : DataW.trod enc Tryd.prog w 0 (fun _ => true) true fuel 23 [v] = some x) : ∃ (s : W.Sl) (q : Nat → Int), v = slV s ∧ IsIs s q w := by
  rcases open_slice Tryd.underlying23 h with ⟨hcs, _⟩ | ⟨a', len', cap', m, n, D, Pl, hcs, _, hl, hm, hmm, _, hx⟩
  · simp only [List.cons.injEq, and_true] at hcs
    subst hcs
    exact ⟨⟨none, 0, 0⟩, fun _ => 0, rfl, Nat.le_refl _, Nat.zero_le _, fun h => absurd h (Nat.lt_irrefl 0)⟩
  · simp only [List.cons.injEq, and_true] at hcs
    subst hcs
    simp only [if_true] at hmm
    subst hmm
    by_cases hz : len' = 0
    · subst hz
      exact ⟨⟨some a', 0, m⟩, fun _ => 0, rfl, hl, Nat.le_trans hl hm, fun h => absurd h (Nat.lt_irrefl 0)⟩
    · have each : ∀ i, i < len' → ∃ q : Int, w.cell? (a'.add i) = some (.int .i64 q) ∧ (Lit.int .i64 q).wf = true := by
        intro i hi
        obtain ⟨cs', h1, h2⟩ := hx i (by omega)
        rw [cellsI] at h1
        obtain ⟨_, hlen, hcell⟩ := World.cells?_some h1
        match cs', hlen with
        | [v0], _ =>
          obtain ⟨n0, e0, _, w0⟩ := DataW.trod_int Tryd.underlying3 h2
          simp only [List.cons.injEq, and_true] at e0
          subst e0
          have c0 := hcell 0 (by omega)
          rw [add_add] at c0
          exact ⟨n0, by simpa using c0, w0⟩
      obtain ⟨q, hq⟩ := choose_lt each
      have s0 := World.cell?_spot (hq 0 (by omega)).1
      obtain ⟨b, off, spot⟩ := a'
      have hspot : spot = none := by simpa [Addr.add] using s0
      subst hspot
      simp only [add_plain] at hq
      exact ⟨⟨some ⟨b, off, none⟩, len', m⟩, q, rfl, hl, Nat.le_trans hl hm, fun _ => ⟨b, off, rfl, lt_of_cell (hq 0 (by omega)).1, fun j hj => ⟨(hq j hj).1, (bounds_i64 (hq j hj).2).1, (bounds_i64 (hq j hj).2).2⟩⟩⟩
end Of
end Go.Proofs.YtlindkhmjkionaaDoor
