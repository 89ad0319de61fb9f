/- Operations out of what can be read. -/
import Derived.Test.YtbppeehhohdfiaaPpoIs
import Derived.WalkKit
import Derived.ProofKit
import Derived.OpenShut
import Derived.ShutString
import Derived.ChangeOld
import Derived.Below
import Derived.Deep.Slices
namespace Go.Proofs.Ytbppeehhohdfiaa
open Go.ChangeShapes Go.WideShapes Go.ChangeAt Go.RowKit Go.Deep
set_option linter.unusedVariables false

namespace Of
theorem cellsO : Try.prog.cellsOf 30 = 13 := by kernel_rfl
theorem cellsI : Try.prog.cellsOf 3 = 1 := by kernel_rfl
theorem cellsU : Try.prog.cellsOf 27 = 1 := by kernel_rfl
theorem cellsB : Try.prog.cellsOf 4 = 1 := by kernel_rfl
theorem cellsS : Try.prog.cellsOf 28 = 1 := by kernel_rfl
theorem lt_of_cell {w : World} {b o : Nat} {v : Value} (h : w.cell? ⟨b, o, none⟩ = some v) : b < w.heap.size := by
  by_cases hb : b < w.heap.size
  · exact hb
  · have e : w.heap[b]? = none := by simp; omega
    simp [World.cell?, e] at h
theorem ints {H : Type} {enc : TypeId × Value → H} {w : World} {fuel : Nat} {v : Value} {x : DataW H × List MemPlace}
    (h : DataW.trod enc Try.prog w 0 (fun _ => true) true fuel 28 [v] = some x) : ∃ (s : W.Sl) (f : Nat → Int), v = slV s ∧ IsLi s f w := by
  rcases open_slice Try.underlying28 h with ⟨hcs, _⟩ | ⟨a', len', cap', m, n, D, Pl, hcs, _, hl, hm, hmm, _, hx⟩
  · simp only [List.cons.injEq, and_true] at hcs
    subst hcs
    exact ⟨⟨none, 0, 0⟩, fun _ => 0, rfl, Nat.le_refl _, Nat.zero_le _, fun h => absurd h (Nat.lt_irrefl 0)⟩
  · simp only [List.cons.injEq, and_true] at hcs
    subst hcs
    simp only [if_true] at hmm
    subst hmm
    by_cases hz : len' = 0
    · subst hz
      exact ⟨⟨some a', 0, m⟩, fun _ => 0, rfl, hl, hm, fun h => absurd h (Nat.lt_irrefl 0)⟩
    · have each : ∀ i, i < len' → ∃ q : Int, w.cell? (a'.add i) = some (.int .i64 q) := by
        intro i hi
        obtain ⟨cs', h1, h2⟩ := hx i (by omega)
        rw [cellsI] at h1
        obtain ⟨_, hlen, hcell⟩ := World.cells?_some h1
        match cs', hlen with
        | [v0], _ =>
          obtain ⟨n0, e0, _, w0⟩ := DataW.trod_int Try.underlying3 h2
          simp only [List.cons.injEq, and_true] at e0
          subst e0
          have c0 := hcell 0 (by omega)
          rw [add_add] at c0
          exact ⟨n0, by simpa using c0⟩
      obtain ⟨q, hq⟩ := choose_lt each
      have s0 := World.cell?_spot (hq 0 (by omega))
      obtain ⟨b, off, spot⟩ := a'
      have hspot : spot = none := by simpa [Addr.add] using s0
      subst hspot
      simp only [add_plain] at hq
      exact ⟨⟨some ⟨b, off, none⟩, len', m⟩, q, rfl, hl, hm, fun _ => ⟨b, off, rfl, lt_of_cell (hq 0 (by omega)), fun j hj => hq j hj⟩⟩
theorem ops {H : Type} {enc : TypeId × Value → H} {w : World} {fuel : Nat} {a : Option Addr} {len cap : Nat} {x : DataW H × List MemPlace}
    (h : DataW.trod enc Try.prog w 0 (fun _ => true) true fuel 22 [.slice a len cap] = some x) : ∃ o S A D C, Rs a len cap o S A D C w := by
  rcases open_slice Try.underlying22 h with ⟨hcs, _⟩ | ⟨a', len', cap', m, n, D, Pl, hcs, _, hl, hm, hmm, _, hx⟩
  · simp only [List.cons.injEq, Value.slice.injEq, and_true] at hcs
    obtain ⟨rfl, rfl, rfl⟩ := hcs
    exact ⟨fun _ => W.op3 0 0 0, fun _ => S3.nil, fun _ _ => 0, fun _ _ => 0, fun _ _ => 0, Nat.le_refl _, Nat.zero_le _, fun h => absurd h (Nat.lt_irrefl 0)⟩
  · simp only [List.cons.injEq, Value.slice.injEq, and_true] at hcs
    obtain ⟨rfl, rfl, rfl⟩ := hcs
    simp only [if_true] at hmm
    subst hmm
    by_cases hz : len = 0
    · subst hz
      exact ⟨fun _ => W.op3 0 0 0, fun _ => S3.nil, fun _ _ => 0, fun _ _ => 0, fun _ _ => 0, hl, hm, fun h => absurd h (Nat.lt_irrefl 0)⟩
    · haveI : Inhabited (W.Opr × S3 × (Nat → Int) × (Nat → Int) × (Nat → Int)) := ⟨(W.op3 0 0 0, S3.nil, fun _ => 0, fun _ => 0, fun _ => 0)⟩
      have each : ∀ i, i < len → ∃ q : W.Opr × S3 × (Nat → Int) × (Nat → Int) × (Nat → Int), (∀ k, k < 13 → w.cell? (a'.add (i * 13 + k)) = some (opF (fun _ => W.oz0 q.1) (fun _ => q.2.1) k)) ∧ IsLi q.2.1.a q.2.2.1 w ∧ IsLi q.2.1.d q.2.2.2.1 w ∧ IsLi q.2.1.c q.2.2.2.2 w ∧ (Lit.int .i64 q.1.sz).wf = true ∧ (Lit.int .u32 q.1.ad).wf = true := by
        intro i hi
        obtain ⟨cs', h1, h2⟩ := hx i (by omega)
        rw [cellsO] at h1
        obtain ⟨_, hlen, hcell⟩ := World.cells?_some h1
        obtain ⟨xs, k, hk, hxy, _, hxl, hf⟩ := DataW.trod_struct Try.underlying30 h2
        match xs, hxl, cs', hlen with
        | [y0, y1, y2, y3, y4, y5, y6, y7, y8, y9, y10, y11, y12], _, [v0, v1, v2, v3, v4, v5, v6, v7, v8, v9, v10, v11, v12], _ =>
          have g0 := hf 0 _ rfl
          have g1 := hf 1 _ rfl
          have g2 := hf 2 _ rfl
          have g3 := hf 3 _ rfl
          have g4 := hf 4 _ rfl
          have g5 := hf 5 _ rfl
          have g6 := hf 6 _ rfl
          have g7 := hf 7 _ rfl
          have g8 := hf 8 _ rfl
          have g9 := hf 9 _ rfl
          have g10 := hf 10 _ rfl
          have g11 := hf 11 _ rfl
          have g12 := hf 12 _ rfl
          simp [cellsI, cellsU, cellsB, cellsS] at g0 g1 g2 g3 g4 g5 g6 g7 g8 g9 g10 g11 g12
          obtain ⟨n0, e0, _, w0⟩ := DataW.trod_int Try.underlying3 g0
          obtain ⟨n1, e1, _, w1⟩ := DataW.trod_int Try.underlying3 g1
          obtain ⟨n2, e2, _, w2⟩ := DataW.trod_int Try.underlying27 g2
          obtain ⟨n3, e3, _, w3⟩ := DataW.trod_int Try.underlying27 g3
          obtain ⟨n4, e4, _, w4⟩ := DataW.trod_int Try.underlying27 g4
          obtain ⟨n5, e5, _⟩ := DataW.trod_bool Try.underlying4 g5
          obtain ⟨n6, e6, _⟩ := DataW.trod_bool Try.underlying4 g6
          obtain ⟨n7, e7, _⟩ := DataW.trod_bool Try.underlying4 g7
          obtain ⟨n8, e8, _, w8⟩ := DataW.trod_int Try.underlying3 g8
          obtain ⟨n9, e9, _, w9⟩ := DataW.trod_int Try.underlying3 g9
          simp only [List.cons.injEq, and_true] at e0 e1 e2 e3 e4 e5 e6 e7 e8 e9
          subst e0 e1 e2 e3 e4 e5 e6 e7 e8 e9
          obtain ⟨s10, f10, rfl, l10⟩ := ints g10
          obtain ⟨s11, f11, rfl, l11⟩ := ints g11
          obtain ⟨s12, f12, rfl, l12⟩ := ints g12
          refine ⟨(⟨n0, n1, n2, n3, n4, n5, n6, n7, n8, n9⟩, ⟨s10, s11, s12⟩, f10, f11, f12), fun k hk => ?_, l10, l11, l12, w1, w2⟩
          have c := hcell k (by simpa using hk)
          rw [add_add] at c
          match k, hk with
          | 0, _ => exact c
          | 1, _ => exact c
          | 2, _ => exact c
          | 3, _ => exact c
          | 4, _ => exact c
          | 5, _ => exact c
          | 6, _ => exact c
          | 7, _ => exact c
          | 8, _ => exact c
          | 9, _ => exact c
          | 10, _ => exact c
          | 11, _ => exact c
          | 12, _ => exact c
      obtain ⟨q, hq⟩ := choose_lt each
      have s0 := World.cell?_spot ((hq 0 (by omega)).1 0 (by decide))
      obtain ⟨b, off, spot⟩ := a'
      have hspot : spot = none := by simpa [Addr.add] using s0
      subst hspot
      simp only [add_plain] at hq
      have hlt : b < w.heap.size := lt_of_cell ((hq 0 (by omega)).1 0 (by decide))
      refine ⟨fun j => (q j).1, fun j => (q j).2.1, fun j => (q j).2.2.1, fun j => (q j).2.2.2.1, fun j => (q j).2.2.2.2, hl, hm, fun _ => ⟨b, off, rfl, hlt, fun j hj => ?_⟩⟩
      obtain ⟨h1, h2, h3, h4, h5, h6⟩ := hq j hj
      have b5 := bounds_i64 h5
      have b6 := bounds_u32 h6
      exact ⟨hlt, fun k hk => by rw [Nat.add_assoc]; exact h1 k hk, h2, h3, h4, b5.1, b5.2, b6.1, by omega⟩
end Of
end Go.Proofs.Ytbppeehhohdfiaa
