/- A file in memory; what each method of package csr answers, and what it leaves there. -/
import Derived.Test.YtbagmlcakmhhaaaPack
import Derived.Test.YtbagmlcakmhhaaaCsrP
import Derived.Test.YtbagmlcakmhhaaaEnc2
import Derived.OwnWalk
namespace Go.Proofs.Ytbagmlcakmhhaaa
open Go.ChangeShapes Go.WideShapes Go.ChangeAt Go.RowKit
set_option linter.unusedVariables false

def fileCells (G : W.F) : Array Value := #[.int .i64 G.m, .int .u32 G.satp, .int .u32 G.st, .int .u32 G.mie, .int .u32 G.tvec, .int .u32 G.scr, .int .u32 G.epc, .int .u32 G.cause, .int .u32 G.tval, .int .u32 G.mip, .int .u32 G.hart]

/-- The file G lies in block b. -/
structure At (T : TypeId) (b : Nat) (G : W.F) (w : World) : Prop where
  out : w.heap[b]? = some (.cells (fileCells G) T)

theorem At.lt {T : TypeId} {b : Nat} {G : W.F} {w : World} (h : At T b G w) : b < w.heap.size := by
  obtain ⟨h1, _⟩ := Array.getElem?_eq_some_iff.1 h.out
  exact h1
theorem At.cells {T : TypeId} {b : Nat} {G : W.F} {w : World} (h : At T b G w) :
    w.cell? ⟨b, 0, none⟩ = some (.int .i64 G.m) ∧ w.cell? ⟨b, 1, none⟩ = some (.int .u32 G.satp) ∧ w.cell? ⟨b, 2, none⟩ = some (.int .u32 G.st) ∧ w.cell? ⟨b, 3, none⟩ = some (.int .u32 G.mie) ∧ w.cell? ⟨b, 4, none⟩ = some (.int .u32 G.tvec) ∧ w.cell? ⟨b, 5, none⟩ = some (.int .u32 G.scr) ∧ w.cell? ⟨b, 6, none⟩ = some (.int .u32 G.epc) ∧ w.cell? ⟨b, 7, none⟩ = some (.int .u32 G.cause) ∧ w.cell? ⟨b, 8, none⟩ = some (.int .u32 G.tval) ∧ w.cell? ⟨b, 9, none⟩ = some (.int .u32 G.mip) ∧ w.cell? ⟨b, 10, none⟩ = some (.int .u32 G.hart) ∧ ∀ o, w.frozen? ⟨b, o, none⟩ = false := by
  have e := h.out
  simp [World.cell?, World.frozen?, e, fileCells]
theorem At.below {T : TypeId} {b : Nat} {G : W.F} {w w' : World} (h : At T b G w) (hb : Below w.heap.size w w') : At T b G w' := ⟨(hb.block b h.lt).trans h.out⟩
theorem At.kept {T : TypeId} {b c : Nat} {G : W.F} {w w' : World} (h : At T b G w) (hg : w.grownBy w' (some c)) (hne : b ≠ c) : At T b G w' := ⟨(hg.block b h.lt (by simpa using hne)).trans h.out⟩
theorem At.drewN {T : TypeId} {b : Nat} {G : W.F} {w : World} (h : At T b G w) (k : Nat) : At T b G (w.drewN k) := h.below (below_drewN (Below.refl _ _) k)
theorem At.alloc {T : TypeId} {b : Nat} {G : W.F} {w : World} (h : At T b G w) (o : Obj) : At T b G (w.alloc o) := h.below ((Below.refl _ _).alloc (Nat.le_refl _) _)
theorem At.put {T : TypeId} {b : Nat} {G G' : W.F} {w : World} (h : At T b G w) {o : Nat} {v : Value} (e : (fileCells G).setIfInBounds o v = fileCells G') : At T b G' (w.setCell ⟨b, o, none⟩ v) := by
  refine ⟨?_⟩
  have e0 := h.out
  simp only [World.setCell, Array.getElem?_modify, if_true, e0, Option.map_some]
  simp [e]
theorem At.new {T : TypeId} {G : W.F} (w : World) : At T w.heap.size G (w.alloc (.cells (fileCells G) T)) := ⟨by show (w.heap.push _)[w.heap.size]? = _; simp⟩

theorem gset (w : World) (b o : Nat) (v : Value) : w.grownBy (w.setCell ⟨b, o, none⟩ v) (some b) :=
  ⟨rfl, rfl, rfl, by simp [World.setCell], fun k _ hne => Below.heap_setCell _ _ _ _ (by simpa using hne)⟩
theorem gtrans {a b c : World} {r : Option Nat} (h : a.grownBy b r) (k : b.grownBy c r) : a.grownBy c r :=
  ⟨k.os.trans h.os, k.tape.trans h.tape, k.output.trans h.output, Nat.le_trans h.size k.size, fun i hi hne => (k.block i (Nat.lt_of_lt_of_le hi h.size) hne).trans (h.block i hi hne)⟩
theorem gbelow {a b : World} {r : Option Nat} (h : Below a.heap.size a b) : a.grownBy b r := ⟨h.os, h.tape, h.output, h.size, fun k hk _ => h.block k hk⟩

theorem new_any (hart : Int) (w : World) : Calls Try.prog 10 #[.int .i64 hart] w fun e w' => e = .returned (.agg (fileCells (W.fnew hart))) ∧ Below w.heap.size w w' := by
  go_enter Try.func10, Try.ntmps10
  go_wp2
  exact bodyPost_ret (v := .agg (fileCells (W.fnew hart))) (by simp [results, Try.results10, go_sem, fileCells, W.fnew]) rfl ⟨rfl, ((Below.refl _ _).alloc (Nat.le_refl _) _)⟩
end Go.Proofs.Ytbagmlcakmhhaaa
