/- Messages, numbers and lines out of what can be read. -/
import Derived.Test.YtadkpelcbnljbaaHomA
import Derived.WalkKit
import Derived.ProofKit
import Derived.OpenShut
import Derived.ShutString
import Derived.ChangeOld
import Derived.Below
import Derived.Deep.Slices
namespace Go.Proofs.Ytadkpelcbnljbaa
open Go.ChangeShapes Go.WideShapes Go.ChangeAt Go.RowKit Go.Deep
set_option linter.unusedVariables false

/-- Messages out of what can be read: of any length. -/
def IsMs (s : W.Sl) (q : Nat → W.Mg) (w : World) : Prop := s.n ≤ s.c ∧ s.n ≤ maxLen ∧ (0 < s.n → ∃ b o, s.a = some ⟨b, o, none⟩ ∧ b < w.heap.size ∧ ∀ j, j < s.n → w.rangeAt b (o + j * 11) (mgL (q j)) ∧ -9223372036854775808 ≤ (q j).k ∧ (q j).k ≤ 9223372036854775807)
/-- Numbers out of what can be read. -/
def IsIs (s : W.Sl) (q : Nat → Int) (w : World) : Prop := s.n ≤ s.c ∧ s.n ≤ maxLen ∧ (0 < s.n → ∃ b o, s.a = some ⟨b, o, none⟩ ∧ b < w.heap.size ∧ ∀ j, j < s.n → w.cell? ⟨b, o + j, none⟩ = some (.int .i64 (q j)) ∧ -9223372036854775808 ≤ q j ∧ q j ≤ 9223372036854775807)
theorem IsMs.ms {s : W.Sl} {q : Nat → W.Mg} {w : World} (h : IsMs s q w) (hn : s.n ≤ 4096) : Ms s ((List.range s.n).map q) w :=
  ⟨by simp, hn, h.1, fun h0 => by
    obtain ⟨b, o, e, hl, hc⟩ := h.2.2 h0
    refine ⟨b, o, e, hl, fun j x hx => ?_⟩
    have hj : j < s.n := by have := (List.getElem?_eq_some_iff.1 hx).1; simpa using this
    rw [List.getElem?_map, List.getElem?_range hj] at hx
    obtain rfl : q j = x := by simpa using hx
    exact (hc j hj).1⟩
namespace Of
theorem cellsM : Try.prog.cellsOf 35 = 11 := by kernel_rfl
theorem cellsL : Try.prog.cellsOf 24 = 4 := by kernel_rfl
theorem cellsI : Try.prog.cellsOf 3 = 1 := by kernel_rfl
theorem cellsU : Try.prog.cellsOf 22 = 1 := by kernel_rfl
theorem cellsB : Try.prog.cellsOf 4 = 1 := by kernel_rfl
theorem lt_of_cell {w : World} {b o : Nat} {v : Value} (h : w.cell? ⟨b, o, none⟩ = some v) : b < w.heap.size := by
  by_cases hb : b < w.heap.size
  · exact hb
  · have e : w.heap[b]? = none := by simp; omega
    simp [World.cell?, e] at h
set_option maxRecDepth 100000 in
theorem msg {H : Type} {enc : TypeId × Value → H} {w : World} {fuel : Nat} {cs : List Value} {x : DataW H × List MemPlace} (hl : cs.length = 11)
    (h : DataW.trod enc Try.prog w 0 (fun _ => true) true fuel 35 cs = some x) : ∃ m : W.Mg, cs = mgL m ∧ -9223372036854775808 ≤ m.k ∧ m.k ≤ 9223372036854775807 := by
  obtain ⟨xs, k, hk, hxy, _, hxl, hf⟩ := DataW.trod_struct Try.underlying35 h
  match xs, hxl, cs, hl with
  | [y0, y1, y2, y3, y4, y5, y6, y7], _, [v0, v1, v2, v3, v4, v5, v6, v7, v8, v9, v10], _ =>
    have g0 := hf 0 _ rfl
    have g1 := hf 1 _ rfl
    have g2 := hf 2 _ rfl
    have g3 := hf 3 _ rfl
    have g4 := hf 4 _ rfl
    have g5 := hf 5 _ rfl
    have g6 := hf 6 _ rfl
    have g7 := hf 7 _ rfl
    simp [cellsI, cellsL, cellsB] at g0 g1 g2 g3 g4 g5 g6 g7
    obtain ⟨n0, e0, _, w0⟩ := DataW.trod_int Try.underlying3 g0
    have b0 := bounds_i64 w0
    obtain ⟨n1, e1, _, _⟩ := DataW.trod_int Try.underlying3 g1
    obtain ⟨n2, e2, _, _⟩ := DataW.trod_int Try.underlying3 g2
    obtain ⟨n3, e3, _, _⟩ := DataW.trod_int Try.underlying3 g3
    obtain ⟨zs, k5, _, _, _, hzl, hz5⟩ := DataW.trod_array Try.underlying24 g4
    obtain ⟨n8, e8, _⟩ := DataW.trod_bool Try.underlying4 g5
    obtain ⟨n9, e9, _⟩ := DataW.trod_bool Try.underlying4 g6
    obtain ⟨n10, e10, _⟩ := DataW.trod_bool Try.underlying4 g7
    match zs, hzl with
    | [z0, z1, z2, z3], _ =>
      have t0 := hz5 0 (by decide)
      have t1 := hz5 1 (by decide)
      have t2 := hz5 2 (by decide)
      have t3 := hz5 3 (by decide)
      simp [cellsU] at t0 t1 t2 t3
      obtain ⟨n4, e4, _, _⟩ := DataW.trod_int Try.underlying22 t0
      obtain ⟨n5, e5, _, _⟩ := DataW.trod_int Try.underlying22 t1
      obtain ⟨n6, e6, _, _⟩ := DataW.trod_int Try.underlying22 t2
      obtain ⟨n7, e7, _, _⟩ := DataW.trod_int Try.underlying22 t3
      simp only [List.cons.injEq, and_true] at e0 e1 e2 e3 e4 e5 e6 e7 e8 e9 e10
      subst e0 e1 e2 e3 e4 e5 e6 e7 e8 e9 e10
      exact ⟨⟨n0, n1, n2, n3, n4, n5, n6, n7, n8, n9, n10⟩, rfl, b0.1, by have := b0.2; show n0 ≤ 9223372036854775807; omega⟩
theorem msgs {H : Type} {enc : TypeId × Value → H} {w : World} {fuel : Nat} {v : Value} {x : DataW H × List MemPlace}
    (h : DataW.trod enc Try.prog w 0 (fun _ => true) true fuel 25 [v] = some x) : ∃ (s : W.Sl) (q : Nat → W.Mg), v = slV s ∧ IsMs s q w := by
  rcases open_slice Try.underlying25 h with ⟨hcs, _⟩ | ⟨a', len', cap', m, n, D, Pl, hcs, _, hl, hm, hmm, _, hx⟩
  · simp only [List.cons.injEq, and_true] at hcs
    subst hcs
    exact ⟨⟨none, 0, 0⟩, fun _ => W.mg0, rfl, Nat.le_refl _, Nat.zero_le _, fun h => absurd h (Nat.lt_irrefl 0)⟩
  · simp only [List.cons.injEq, and_true] at hcs
    subst hcs
    simp only [if_true] at hmm
    subst hmm
    by_cases hz : len' = 0
    · subst hz
      exact ⟨⟨some a', 0, m⟩, fun _ => W.mg0, rfl, hl, Nat.le_trans hl hm, fun h => absurd h (Nat.lt_irrefl 0)⟩
    · haveI : Inhabited W.Mg := ⟨W.mg0⟩
      have each : ∀ i, i < len' → ∃ q : W.Mg, (∀ j v, (mgL q)[j]? = some v → w.cell? (a'.add (i * 11 + j)) = some v) ∧ -9223372036854775808 ≤ q.k ∧ q.k ≤ 9223372036854775807 := by
        intro i hi
        obtain ⟨cs', h1, h2⟩ := hx i (by omega)
        rw [cellsM] at h1
        obtain ⟨_, hlen, hcell⟩ := World.cells?_some h1
        obtain ⟨q, rfl, hb⟩ := msg hlen h2
        refine ⟨q, fun j v hv => ?_, hb⟩
        have hj : j < 11 := (List.getElem?_eq_some_iff.1 hv).1
        have c := hcell j hj
        rw [add_add] at c
        exact c.trans hv
      obtain ⟨q, hq⟩ := choose_lt each
      have s0 := World.cell?_spot ((hq 0 (by omega)).1 0 _ rfl)
      obtain ⟨b, off, spot⟩ := a'
      have hspot : spot = none := by simpa [Addr.add] using s0
      subst hspot
      simp only [add_plain] at hq
      refine ⟨⟨some ⟨b, off, none⟩, len', m⟩, q, rfl, hl, Nat.le_trans hl hm, fun _ => ⟨b, off, rfl, lt_of_cell ((hq 0 (by omega)).1 0 _ rfl), fun j hj => ⟨fun i v hv => ?_, (hq j hj).2⟩⟩⟩
      rw [Nat.add_assoc]
      exact (hq j hj).1 i v hv
theorem ints {H : Type} {enc : TypeId × Value → H} {w : World} {fuel : Nat} {v : Value} {x : DataW H × List MemPlace}
    (h : DataW.trod enc Try.prog w 0 (fun _ => true) true fuel 39 [v] = some x) : ∃ (s : W.Sl) (q : Nat → Int), v = slV s ∧ IsIs s q w := by
  rcases open_slice Try.underlying39 h with ⟨hcs, _⟩ | ⟨a', len', cap', m, n, D, Pl, hcs, _, hl, hm, hmm, _, hx⟩
  · simp only [List.cons.injEq, and_true] at hcs
    subst hcs
    exact ⟨⟨none, 0, 0⟩, fun _ => 0, rfl, Nat.le_refl _, Nat.zero_le _, fun h => absurd h (Nat.lt_irrefl 0)⟩
  · simp only [List.cons.injEq, and_true] at hcs
    subst hcs
    simp only [if_true] at hmm
    subst hmm
    by_cases hz : len' = 0
    · subst hz
      exact ⟨⟨some a', 0, m⟩, fun _ => 0, rfl, hl, Nat.le_trans hl hm, fun h => absurd h (Nat.lt_irrefl 0)⟩
    · have each : ∀ i, i < len' → ∃ q : Int, w.cell? (a'.add i) = some (.int .i64 q) ∧ (Lit.int .i64 q).wf = true := by
        intro i hi
        obtain ⟨cs', h1, h2⟩ := hx i (by omega)
        rw [cellsI] at h1
        obtain ⟨_, hlen, hcell⟩ := World.cells?_some h1
        match cs', hlen with
        | [v0], _ =>
          obtain ⟨n0, e0, _, w0⟩ := DataW.trod_int Try.underlying3 h2
          simp only [List.cons.injEq, and_true] at e0
          subst e0
          have c0 := hcell 0 (by omega)
          rw [add_add] at c0
          exact ⟨n0, by simpa using c0, w0⟩
      obtain ⟨q, hq⟩ := choose_lt each
      have s0 := World.cell?_spot (hq 0 (by omega)).1
      obtain ⟨b, off, spot⟩ := a'
      have hspot : spot = none := by simpa [Addr.add] using s0
      subst hspot
      simp only [add_plain] at hq
      exact ⟨⟨some ⟨b, off, none⟩, len', m⟩, q, rfl, hl, Nat.le_trans hl hm, fun _ => ⟨b, off, rfl, lt_of_cell (hq 0 (by omega)).1, fun j hj => ⟨(hq j hj).1, (bounds_i64 (hq j hj).2).1, (bounds_i64 (hq j hj).2).2⟩⟩⟩
end Of
end Go.Proofs.Ytadkpelcbnljbaa
