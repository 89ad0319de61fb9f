/- Two lists that grow beside each other; an operation in a block of its own. -/
import Derived.Test.YtbppeehhohdfiaaPpoW
import Derived.Test.YtbppeehhohdfiaaPpoX0
import Derived.Deep.AppendLies
namespace Go.Proofs.Ytbppeehhohdfiaa
open Go.ChangeShapes Go.WideShapes Go.ChangeAt Go.RowKit
set_option linter.unusedVariables false
set_option linter.unusedSimpArgs false

def Ap (u v : Value) : Prop := v.ownBlock = none ∨ v.ownBlock ≠ u.ownBlock
theorem Ap.symm {u v : Value} (h : Ap u v) : Ap v u := by
  unfold Ap at *
  rcases h with h | h
  · rw [h]
    cases hu : u.ownBlock
    · exact Or.inl rfl
    · exact Or.inr (by simp)
  · exact Or.inr (Ne.symm h)
/-- Behind an append of u. -/
theorem Ap.app {u v : Value} {g n c H : Nat} {w : World} {base : Nat} {e : TypeId} {size m : Nat} {xs : List Value} (h : Ap u v) (hv : w.ownsRow base e size v m xs) (hat : u.ownBlock = some g ∨ g = H) (hH : w.heap.size ≤ H) : Ap (.slice (some ⟨g, 0, none⟩) n c) v := by
  unfold Ap at *
  have eg : (Value.slice (some ⟨g, 0, none⟩) n c).ownBlock = some g := rfl
  rw [eg]
  rcases hat with h1 | h1
  · rw [← h1]; exact h
  · cases hb : v.ownBlock with
    | none => exact Or.inl rfl
    | some b =>
      right
      have := (hv.lt b hb).2
      intro e'
      cases e'
      omega
def stO (a : Addr) (v : Value) : Sem Unit := storeVar 30 a v
theorem stO_eq (a : Addr) (v : Value) : storeVar 30 a v = stO a v := rfl
theorem infoO : (Try.prog.info? 30).map (·.size) = some 13 := by kernel_rfl
theorem stO_new (o : W.Opr) (w : World) (Z : Array Value) (hz : Z.size = 13) : (stO ⟨w.heap.size, 0, none⟩ (.agg (opN o))).run Try.prog (w.alloc (.cells Z 30)) = .ok () (w.alloc (.cells (opN o) 30)) := by
  have ha : (opN o).all (fun x => x.oneCell') = true := by simp [opN, opC, Value.oneCell']
  have := run_storeVar_row (P := Try.prog) (w.alloc (.cells Z 30)) w.heap.size 30 _ _ (opN o) (heap_alloc_last w _) (by rw [infoO]; rfl) (by rw [hz]; rfl) ha
  unfold stO
  rw [this, World.setRow_alloc_new]
theorem ldO_blk {w : World} {g : Nat} (o : W.Opr) (T : TypeId) (hh : w.heap[g]? = some (.cells (opN o) T)) : (ldO ⟨g, 0, none⟩).run Try.prog w = .ok (.agg (opN o)) w := by
  have := ldO_row (w := w) (g := g) [o] T (by rw [opsR_one]; exact hh) 0 o rfl
  rw [Nat.zero_mul] at this
  exact this
theorem bdO_p (ad : Int) (w : World) : (bdO #[(0, .int .i64 1), (1, .int .i64 4), (2, .int .u32 ad), (5, .bool true)]).run Try.prog w = .ok (.agg (opN ⟨1, 4, ad, 0, 0, true, false, false, 0, 0⟩)) w := by kernel_rfl
theorem opN_k (o : W.Opr) (k : Int) : (opN o).setIfInBounds 0 (.int .i64 k) = opN { o with k := k } := rfl
theorem opN_0 (o : W.Opr) : (opN o)[0]? = some (.int .i64 o.k) := rfl
theorem opN_sz (o : W.Opr) : (opN o).size = 13 := rfl
/-- What a slice of bools that can be read holds. -/
def IsBools (w : World) (a : Option Addr) (k : Nat) : Prop :=
  k ≤ maxLen ∧ ∃ (b off : Nat) (u : Nat → Bool), (0 < k → a = some ⟨b, off, none⟩ ∧ b < w.heap.size) ∧ (∀ j, j < k → w.cell? ⟨b, off + j, none⟩ = some (.bool (u j)))
theorem IsBools.below {w w' : World} {a : Option Addr} {k : Nat} {b off : Nat} {u : Nat → Bool} (h : 0 < k → a = some ⟨b, off, none⟩ ∧ b < w.heap.size) (hc : ∀ j, j < k → w.cell? ⟨b, off + j, none⟩ = some (.bool (u j))) (hb : Below w.heap.size w w') : (0 < k → a = some ⟨b, off, none⟩ ∧ b < w'.heap.size) ∧ (∀ j, j < k → w'.cell? ⟨b, off + j, none⟩ = some (.bool (u j))) :=
  ⟨fun h0 => ⟨(h h0).1, Nat.lt_of_lt_of_le (h h0).2 hb.size⟩, fun j hj => (hb.cell (p := ⟨b, off + j, none⟩) (h (by omega)).2).trans (hc j hj)⟩
theorem infoInt : (Try.prog.info? 3).map (fun i => (i.zero, i.size, i.bytes)) = some (some (.int .i64 0), 1, 8) := by kernel_rfl
def intsG (f : Nat → Int) (n : Nat) : List Value := (List.range n).map fun j => .int .i64 (f j)
theorem intsG_succ (f : Nat → Int) (n : Nat) : intsG f (n + 1) = intsG f n ++ [.int .i64 (f n)] := by
  unfold intsG
  rw [List.range_succ, List.map_append]
  rfl
theorem own_ints {w : World} {base n : Nat} {v : Value} {f : Nat → Int} (h : w.ownsRow base 3 1 v n (intsG f n)) (hn : 0 < n) : ∃ g cap, v = .slice (some ⟨g, 0, none⟩) n cap ∧ g < w.heap.size ∧ ∀ j, j < n → w.cell? ⟨g, j, none⟩ = some (.int .i64 (f j)) := by
  obtain ⟨g, cap, rfl, hb, hl⟩ := h.form hn
  refine ⟨g, cap, rfl, hl, fun j hj => ?_⟩
  have hc := h.cells (g := g) rfl j (.int .i64 (f j)) (by simp [intsG, hj])
  rw [Addr.add_lit] at hc
  simpa using hc
theorem news_int (x : Int) (w : World) : ∀ j u, [Value.int .i64 x][j]? = some u → (w.alloc (.cells #[.int .i64 x] 3)).cell? ((⟨w.heap.size, 0, none⟩ : Addr).add j) = some u := World.news_of_block (cs := #[.int .i64 x]) (heap_alloc_last w _)
end Go.Proofs.Ytbppeehhohdfiaa
