/- Messages in blocks. -/
import Derived.Test.YtogchippkenppaaLonB
namespace Go.Proofs.Ytogchippkenppaa
open Go.ChangeShapes Go.WideShapes Go.ChangeAt Go.RowKit
set_option linter.unusedVariables false
set_option linter.unusedSimpArgs false
variable {w w' w'' : World}
theorem MsgRoom.below {b : Nat} (hm : MsgRoom b w) (hb : Below w.heap.size w w') : MsgRoom b w' := by
  obtain ⟨Z, h1, h2⟩ := hm
  exact ⟨Z, h1, (hb.block b (Array.getElem?_eq_some_iff.1 h2).1).trans h2⟩
theorem MsgRoom.lt {b : Nat} (hm : MsgRoom b w) : b < w.heap.size := by
  obtain ⟨Z, h1, h2⟩ := hm
  exact (Array.getElem?_eq_some_iff.1 h2).1
theorem MsgRoom.st {b : Nat} (hm : MsgRoom b w) (m : W.Mg) : (stM ⟨b, 0, none⟩ (mgV m)).run Try.prog w = .ok () (w.setRow b (mgL m).toArray) := by
  obtain ⟨Z, q1, q2⟩ := hm
  exact run_storeVar_row w b 33 33 Z (mgL m).toArray q2 (by kernel_rfl) (by rw [q1]; rfl) (by simpa using oneM m)
theorem MsgRoom.set {b : Nat} (hm : MsgRoom b w) (m : W.Mg) : MsgAt b m (w.setRow b (mgL m).toArray) := by
  obtain ⟨Z, q1, q2⟩ := hm
  exact setRow_heap w b Z _ _ _ q2
theorem gsetRow (w : World) (b : Nat) (c : Array Value) : w.grownBy (w.setRow b c) (some b) := by
  refine ⟨rfl, rfl, rfl, by simp [World.setRow], fun g hb hne => setRow_other w b g c (fun e => hne (by rw [e]))⟩
theorem msgRoom_new (w : World) (Z : Array Value) (hz : Z.size = 11) : MsgRoom w.heap.size (w.alloc (.cells Z 33)) := ⟨Z, hz, heap_alloc_last w _⟩
theorem MsgAt.room {b : Nat} {m : W.Mg} (h : MsgAt b m w) : MsgRoom b w := ⟨(mgL m).toArray, by simp [mgL_len], h⟩
theorem MsgAt.cAt {b : Nat} {m : W.Mg} (h : MsgAt b m w) (j : Nat) : w.cell? ⟨b, j, none⟩ = (mgL m)[j]? := by
  rw [cell_of_row _ _ j _ 33 (0, 0) h]
  simp
theorem MsgAt.fz {b : Nat} {m : W.Mg} (h : MsgAt b m w) (j : Nat) : w.frozen? ⟨b, j, none⟩ = false := by
  have h' : w.heap[b]? = some (.cells (mgL m).toArray 33) := h
  simp [World.frozen?, h']
theorem MsgAt.set1 {b : Nat} {m m' : W.Mg} (h : MsgAt b m w) (k : Nat) (v : Value) (e : (mgL m).set k v = mgL m') : MsgAt b m' (w.setCell ⟨b, k, none⟩ v) := by
  have h' : w.heap[b]? = some (.cells (mgL m).toArray 33) := h
  unfold MsgAt World.setCell
  rw [Array.getElem?_modify]
  simp [h', ← e]
theorem ms_one (m : W.Mg) (w : World) : Ms ⟨some ⟨w.heap.size, 0, none⟩, 1, 1⟩ [m] (w.alloc (.cells (mgL m).toArray 33)) :=
  ⟨rfl, by show 1 ≤ 4096; decide, by show 1 ≤ 1; decide, fun _ => ⟨w.heap.size, 0, rfl, by simp, fun j x hx => by
    match j, hx with
    | 0, hx =>
      obtain rfl : m = x := by simpa using hx
      exact range_new w _ _
    | j + 1, hx => simp at hx⟩⟩
theorem ms_nil (w : World) : Ms ⟨none, 0, 0⟩ [] w := ⟨rfl, by show 0 ≤ 4096; decide, Nat.le_refl _, fun h => absurd h (Nat.lt_irrefl 0)⟩
theorem ms_1 {sl : W.Sl} {m : W.Mg} (h : Ms sl [m] w) : ∃ b o c, sl = ⟨some ⟨b, o, none⟩, 1, c⟩ ∧ 1 ≤ c ∧ b < w.heap.size ∧ w.rangeAt b o (mgL m) := by
  obtain ⟨a, n, c⟩ := sl
  obtain rfl : n = 1 := h.n
  obtain ⟨b, o, rfl, hl, hr⟩ := h.at_ (by show 0 < 1; decide)
  refine ⟨b, o, c, rfl, h.nc, hl, ?_⟩
  have := hr 0 m rfl
  simpa using this
end Go.Proofs.Ytogchippkenppaa
