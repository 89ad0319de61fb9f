/- Texts in one: Enc2, CsrA, CsrB, CsrC, CsrD. -/
import Derived.OwnWalk
import Derived.Deep.RegionWith
import Derived.BigRegion
import Derived.Test.YteilpehekabccabGreatDoorJ01
import Derived.Test.YteilpehekabccabGreatDoorJ02
import Derived.Test.YteilpehekabccabGreatDoorJ03
/- What enc.Lay, enc.Split and enc.Join return, and the chapter's examples. -/
namespace Go.Proofs.YteilpehekabccabGreatDoor
open Go.ChangeShapes Go.WideShapes Go.ChangeAt Go.RowKit
set_option linter.unusedVariables false

theorem from_ {P : Program} {f : FuncId} {args : Array Value} {w0 w : World} {v : Value} (h : Calls P f args w fun e w' => e = .returned v ∧ Below w.heap.size w w') (hb : Below w0.heap.size w0 w) :
    Calls P f args w fun e w' => e = .returned v ∧ Below w0.heap.size w0 w' :=
  h.mono fun _ _ ⟨a, b⟩ => ⟨a, hb.trans (b.mono hb.size)⟩

end Go.Proofs.YteilpehekabccabGreatDoor

/- A file in memory; what each method of package csr answers, and what it leaves there. -/
namespace Go.Proofs.YteilpehekabccabGreatDoor
open Go.ChangeShapes Go.WideShapes Go.ChangeAt Go.RowKit
set_option linter.unusedVariables false

def fileCells (G : W.F) : Array Value := #[.int .i64 G.m, .int .u32 G.satp, .int .u32 G.st, .int .u32 G.mie, .int .u32 G.tvec, .int .u32 G.scr, .int .u32 G.epc, .int .u32 G.cause, .int .u32 G.tval, .int .u32 G.mip, .int .u32 G.hart]

/-- A block's type, and what stands in it behind a file. -/
abbrev TT := TypeId × Array Value

/-- The file G lies at the head of block b. -/
structure At (T : TT) (b : Nat) (G : W.F) (w : World) : Prop where
  out : w.heap[b]? = some (.cells (fileCells G ++ T.2) T.1)

theorem At.lt {T : TT} {b : Nat} {G : W.F} {w : World} (h : At T b G w) : b < w.heap.size := by
  obtain ⟨h1, _⟩ := Array.getElem?_eq_some_iff.1 h.out
  exact h1
theorem At.cells {T : TT} {b : Nat} {G : W.F} {w : World} (h : At T b G w) :
    w.cell? ⟨b, 0, none⟩ = some (.int .i64 G.m) ∧ w.cell? ⟨b, 1, none⟩ = some (.int .u32 G.satp) ∧ w.cell? ⟨b, 2, none⟩ = some (.int .u32 G.st) ∧ w.cell? ⟨b, 3, none⟩ = some (.int .u32 G.mie) ∧ w.cell? ⟨b, 4, none⟩ = some (.int .u32 G.tvec) ∧ w.cell? ⟨b, 5, none⟩ = some (.int .u32 G.scr) ∧ w.cell? ⟨b, 6, none⟩ = some (.int .u32 G.epc) ∧ w.cell? ⟨b, 7, none⟩ = some (.int .u32 G.cause) ∧ w.cell? ⟨b, 8, none⟩ = some (.int .u32 G.tval) ∧ w.cell? ⟨b, 9, none⟩ = some (.int .u32 G.mip) ∧ w.cell? ⟨b, 10, none⟩ = some (.int .u32 G.hart) ∧ ∀ o, w.frozen? ⟨b, o, none⟩ = false := by
  have e := h.out
  have g : ∀ i, i < 11 → (fileCells G ++ T.2)[i]? = (fileCells G)[i]? := fun i hi => Array.getElem?_append_left (by simpa [fileCells] using hi)
  simp only [World.cell?, World.frozen?, e]
  refine ⟨g 0 (by decide), g 1 (by decide), g 2 (by decide), g 3 (by decide), g 4 (by decide), g 5 (by decide), g 6 (by decide), g 7 (by decide), g 8 (by decide), g 9 (by decide), g 10 (by decide), fun o => ?_⟩
  simp
theorem At.below {T : TT} {b : Nat} {G : W.F} {w w' : World} (h : At T b G w) (hb : Below w.heap.size w w') : At T b G w' := ⟨(hb.block b h.lt).trans h.out⟩
theorem At.kept {T : TT} {b c : Nat} {G : W.F} {w w' : World} (h : At T b G w) (hg : w.grownBy w' (some c)) (hne : b ≠ c) : At T b G w' := ⟨(hg.block b h.lt (by simpa using hne)).trans h.out⟩
theorem At.drewN {T : TT} {b : Nat} {G : W.F} {w : World} (h : At T b G w) (k : Nat) : At T b G (w.drewN k) := h.below (below_drewN (Below.refl _ _) k)
theorem At.alloc {T : TT} {b : Nat} {G : W.F} {w : World} (h : At T b G w) (o : Obj) : At T b G (w.alloc o) := h.below ((Below.refl _ _).alloc (Nat.le_refl _) _)
theorem At.put {T : TT} {b : Nat} {G G' : W.F} {w : World} (h : At T b G w) {o : Nat} {v : Value} (e : (fileCells G).setIfInBounds o v = fileCells G') (ho : o < 11 := by decide) : At T b G' (w.setCell ⟨b, o, none⟩ v) := by
  refine ⟨?_⟩
  have e0 := h.out
  simp only [World.setCell, Array.getElem?_modify, if_true, e0, Option.map_some]
  have e2 : (fileCells G ++ T.2).setIfInBounds o v = fileCells G' ++ T.2 := by
    rw [← e, Array.setIfInBounds_append_left (by simpa [fileCells] using ho)]
  simp [e2]
theorem At.new {T : TypeId} {G : W.F} (w : World) : At (T, #[]) w.heap.size G (w.alloc (.cells (fileCells G) T)) := ⟨by show (w.heap.push _)[w.heap.size]? = _; simp⟩

theorem gset (w : World) (b o : Nat) (v : Value) : w.grownBy (w.setCell ⟨b, o, none⟩ v) (some b) :=
  ⟨rfl, rfl, rfl, by simp [World.setCell], fun k _ hne => Below.heap_setCell _ _ _ _ (by simpa using hne)⟩
theorem gtrans {a b c : World} {r : Option Nat} (h : a.grownBy b r) (k : b.grownBy c r) : a.grownBy c r :=
  ⟨k.os.trans h.os, k.tape.trans h.tape, k.output.trans h.output, Nat.le_trans h.size k.size, fun i hi hne => (k.block i (Nat.lt_of_lt_of_le hi h.size) hne).trans (h.block i hi hne)⟩
theorem gbelow {a b : World} {r : Option Nat} (h : Below a.heap.size a b) : a.grownBy b r := ⟨h.os, h.tape, h.output, h.size, fun k hk _ => h.block k hk⟩

theorem new_any (hart : Int) (w : World) : Calls Tryz.prog 12 #[.int .i64 hart] w fun e w' => e = .returned (.agg (fileCells (W.fnew hart))) ∧ Below w.heap.size w w' := by
  go_enter Tryz.func12, Tryz.ntmps12
  go_wp2
  exact bodyPost_ret (v := .agg (fileCells (W.fnew hart))) (by simp [results, Tryz.results12, go_sem, fileCells, W.fnew]) rfl ⟨rfl, ((Below.refl _ _).alloc (Nat.le_refl _) _)⟩
end Go.Proofs.YteilpehekabccabGreatDoor

/- What the methods of package csr that only look answer. -/
namespace Go.Proofs.YteilpehekabccabGreatDoor
open Go.ChangeShapes Go.WideShapes Go.ChangeAt Go.RowKit
set_option linter.unusedVariables false
set_option linter.unusedSimpArgs false

theorem status_cells (e p m : Int) (w : World) :
    (∀ j, j < 3 → (w.alloc (.cells #[.int .i64 3, .int .i64 1, .int .u32 e, .int .i64 7, .int .i64 1, .int .u32 p, .int .i64 11, .int .i64 2, .int .u32 (m % 4294967296)] 133)).cell? ⟨w.heap.size, 0 + j * 3, none⟩ = some (.int .i64 (W.stL j)))
    ∧ (∀ j, j < 3 → (w.alloc (.cells #[.int .i64 3, .int .i64 1, .int .u32 e, .int .i64 7, .int .i64 1, .int .u32 p, .int .i64 11, .int .i64 2, .int .u32 (m % 4294967296)] 133)).cell? ⟨w.heap.size, 0 + j * 3 + 1, none⟩ = some (.int .i64 (W.stN j)))
    ∧ (∀ j, j < 3 → (w.alloc (.cells #[.int .i64 3, .int .i64 1, .int .u32 e, .int .i64 7, .int .i64 1, .int .u32 p, .int .i64 11, .int .i64 2, .int .u32 (m % 4294967296)] 133)).cell? ⟨w.heap.size, 0 + j * 3 + 2, none⟩ = some (.int .u32 (W.stV e p m j))) := by
  refine ⟨?_, ?_, ?_⟩
  all_goals
    intro j hj
    match j, hj with
    | 0, _ => simp [go_sem, W.stL, W.stN, W.stV]
    | 1, _ => simp [go_sem, W.stL, W.stN, W.stV]
    | 2, _ => simp [go_sem, W.stL, W.stN, W.stV]

theorem status_any (e p m : Int) (w : World) : Calls Tryz.prog 60 #[.int .u32 e, .int .u32 p, .int .i64 m] w fun x w' => x = .returned (.int .u32 (W.status e p m)) ∧ Below w.heap.size w w' := by
  go_enter Tryz.func60, Tryz.ntmps60
  go_wp2_with fail
  have hx := status_cells e p m w
  refine (pack_any w.heap.size 0 3 3 W.stL W.stN (W.stV e p m) _ (by decide) (by simp) hx.1 hx.2.1 hx.2.2).mono ?_
  clear hx
  rintro x w' ⟨rfl, hb⟩
  go_wp2
  go_ret
  exact ⟨rfl, ((Below.refl _ _).alloc (Nat.le_refl _) _).trans (hb.mono (by simp))⟩

theorem kmode_any (v : Int) (w : World) : Calls Tryz.prog 118 #[.int .u32 v] w fun x w' => x = .returned (.int .i64 (W.kmode v)) ∧ ∃ k, w' = w.drewN k := by
  cases h : (W.bitsOf v 11 2 == 3)
  · have hk : Hid (W.kmode v = 0) := by
      have : W.kmode v = 0 := by rw [W.kmode, h]; rfl
      exact this
    go_enter Tryz.func118, Tryz.ntmps118
    go_wp2_with (go_at_call 44; refine (bits_any _ _ _ _).mono ?_; rintro e w' ⟨rfl, k, rfl⟩)
    go_ret
    exact ⟨ret_int hk.out.symm, _, rfl⟩
  · have hk : Hid (W.kmode v = 3) := by
      have : W.kmode v = 3 := by rw [W.kmode, h]; rfl
      exact this
    go_enter Tryz.func118, Tryz.ntmps118
    go_wp2_with (go_at_call 44; refine (bits_any _ _ _ _).mono ?_; rintro e w' ⟨rfl, k, rfl⟩)
    go_ret
    exact ⟨ret_int hk.out.symm, _, rfl⟩

theorem algn_any (v : Int) (w : World) : Calls Tryz.prog 59 #[.int .u32 v] w fun x w' => x = .returned (.int .u32 (W.algn v)) ∧ w = w' := by
  go_enter Tryz.func59, Tryz.ntmps59
  go_wp2
  go_ret
  exact ⟨rfl, rfl⟩

theorem mode_any (T : TT) (b : Nat) (G : W.F) (w : World) (h : At T b G w) : Calls Tryz.prog 62 #[.pointer (some ⟨b, 0, none⟩)] w fun x w' => x = .returned (.int .i64 G.m) ∧ w = w' := by
  obtain ⟨c0, c1, c2, c3, c4, c5, c6, c7, c8, c9, c10, hz⟩ := h.cells
  go_enter Tryz.func62, Tryz.ntmps62
  go_wp2
  go_ret
  exact ⟨rfl, rfl⟩

theorem satp_any (T : TT) (b : Nat) (G : W.F) (w : World) (h : At T b G w) : Calls Tryz.prog 61 #[.pointer (some ⟨b, 0, none⟩)] w fun x w' => x = .returned (.int .u32 G.satp) ∧ w = w' := by
  obtain ⟨c0, c1, c2, c3, c4, c5, c6, c7, c8, c9, c10, hz⟩ := h.cells
  go_enter Tryz.func61, Tryz.ntmps61
  go_wp2
  go_ret
  exact ⟨rfl, rfl⟩

theorem get_any (T : TT) (b : Nat) (G : W.F) (n : Int) (w : World) (h : At T b G w) : Calls Tryz.prog 98 #[.pointer (some ⟨b, 0, none⟩), .int .i64 n] w fun x w' => x = .returned (.tuple #[.int .u32 (W.getV G n), .bool (W.getB G n)]) ∧ w = w' := by
  obtain ⟨c0, c1, c2, c3, c4, c5, c6, c7, c8, c9, c10, hz⟩ := h.cells
  cases hm : (G.m == 0)
  case true =>
    have e1 : Hid (W.getV G n = 0 ∧ W.getB G n = false) := by
      have : W.getV G n = 0 ∧ W.getB G n = false := by simp [W.getV, W.getB, hm]
      exact this
    go_enter Tryz.func98, Tryz.ntmps98
    go_wp2
    exact bodyPost_ret (v := .tuple #[.int .u32 0, .bool false]) (by simp [results, Tryz.results98, go_sem]) rfl ⟨by rw [e1.out.1, e1.out.2], rfl⟩
  by_cases h0 : n = 384
  · subst h0
    have e1 : Hid (W.getV G 384 = G.satp ∧ W.getB G 384 = true) := by
      have : W.getV G 384 = G.satp ∧ W.getB G 384 = true := by simp [W.getV, W.getB, hm, W.reg, W.isReg]
      exact this
    go_enter Tryz.func98, Tryz.ntmps98
    go_wp2
    exact bodyPost_ret (v := .tuple #[.int .u32 G.satp, .bool true]) (by simp [results, Tryz.results98, go_sem]) rfl ⟨by rw [e1.out.1, e1.out.2], rfl⟩
  by_cases h1 : n = 768
  · subst h1
    have e1 : Hid (W.getV G 768 = G.st ∧ W.getB G 768 = true) := by
      have : W.getV G 768 = G.st ∧ W.getB G 768 = true := by simp [W.getV, W.getB, hm, W.reg, W.isReg]
      exact this
    go_enter Tryz.func98, Tryz.ntmps98
    go_wp2
    exact bodyPost_ret (v := .tuple #[.int .u32 G.st, .bool true]) (by simp [results, Tryz.results98, go_sem]) rfl ⟨by rw [e1.out.1, e1.out.2], rfl⟩
  by_cases h2 : n = 772
  · subst h2
    have e1 : Hid (W.getV G 772 = G.mie ∧ W.getB G 772 = true) := by
      have : W.getV G 772 = G.mie ∧ W.getB G 772 = true := by simp [W.getV, W.getB, hm, W.reg, W.isReg]
      exact this
    go_enter Tryz.func98, Tryz.ntmps98
    go_wp2
    exact bodyPost_ret (v := .tuple #[.int .u32 G.mie, .bool true]) (by simp [results, Tryz.results98, go_sem]) rfl ⟨by rw [e1.out.1, e1.out.2], rfl⟩
  by_cases h3 : n = 773
  · subst h3
    have e1 : Hid (W.getV G 773 = G.tvec ∧ W.getB G 773 = true) := by
      have : W.getV G 773 = G.tvec ∧ W.getB G 773 = true := by simp [W.getV, W.getB, hm, W.reg, W.isReg]
      exact this
    go_enter Tryz.func98, Tryz.ntmps98
    go_wp2
    exact bodyPost_ret (v := .tuple #[.int .u32 G.tvec, .bool true]) (by simp [results, Tryz.results98, go_sem]) rfl ⟨by rw [e1.out.1, e1.out.2], rfl⟩
  by_cases h4 : n = 832
  · subst h4
    have e1 : Hid (W.getV G 832 = G.scr ∧ W.getB G 832 = true) := by
      have : W.getV G 832 = G.scr ∧ W.getB G 832 = true := by simp [W.getV, W.getB, hm, W.reg, W.isReg]
      exact this
    go_enter Tryz.func98, Tryz.ntmps98
    go_wp2
    exact bodyPost_ret (v := .tuple #[.int .u32 G.scr, .bool true]) (by simp [results, Tryz.results98, go_sem]) rfl ⟨by rw [e1.out.1, e1.out.2], rfl⟩
  by_cases h5 : n = 833
  · subst h5
    have e1 : Hid (W.getV G 833 = G.epc ∧ W.getB G 833 = true) := by
      have : W.getV G 833 = G.epc ∧ W.getB G 833 = true := by simp [W.getV, W.getB, hm, W.reg, W.isReg]
      exact this
    go_enter Tryz.func98, Tryz.ntmps98
    go_wp2
    exact bodyPost_ret (v := .tuple #[.int .u32 G.epc, .bool true]) (by simp [results, Tryz.results98, go_sem]) rfl ⟨by rw [e1.out.1, e1.out.2], rfl⟩
  by_cases h6 : n = 834
  · subst h6
    have e1 : Hid (W.getV G 834 = G.cause ∧ W.getB G 834 = true) := by
      have : W.getV G 834 = G.cause ∧ W.getB G 834 = true := by simp [W.getV, W.getB, hm, W.reg, W.isReg]
      exact this
    go_enter Tryz.func98, Tryz.ntmps98
    go_wp2
    exact bodyPost_ret (v := .tuple #[.int .u32 G.cause, .bool true]) (by simp [results, Tryz.results98, go_sem]) rfl ⟨by rw [e1.out.1, e1.out.2], rfl⟩
  by_cases h7 : n = 835
  · subst h7
    have e1 : Hid (W.getV G 835 = G.tval ∧ W.getB G 835 = true) := by
      have : W.getV G 835 = G.tval ∧ W.getB G 835 = true := by simp [W.getV, W.getB, hm, W.reg, W.isReg]
      exact this
    go_enter Tryz.func98, Tryz.ntmps98
    go_wp2
    exact bodyPost_ret (v := .tuple #[.int .u32 G.tval, .bool true]) (by simp [results, Tryz.results98, go_sem]) rfl ⟨by rw [e1.out.1, e1.out.2], rfl⟩
  by_cases h8 : n = 836
  · subst h8
    have e1 : Hid (W.getV G 836 = G.mip ∧ W.getB G 836 = true) := by
      have : W.getV G 836 = G.mip ∧ W.getB G 836 = true := by simp [W.getV, W.getB, hm, W.reg, W.isReg]
      exact this
    go_enter Tryz.func98, Tryz.ntmps98
    go_wp2
    exact bodyPost_ret (v := .tuple #[.int .u32 G.mip, .bool true]) (by simp [results, Tryz.results98, go_sem]) rfl ⟨by rw [e1.out.1, e1.out.2], rfl⟩
  by_cases h9 : n = 3860
  · subst h9
    have e1 : Hid (W.getV G 3860 = G.hart ∧ W.getB G 3860 = true) := by
      have : W.getV G 3860 = G.hart ∧ W.getB G 3860 = true := by simp [W.getV, W.getB, hm, W.reg, W.isReg]
      exact this
    go_enter Tryz.func98, Tryz.ntmps98
    go_wp2
    exact bodyPost_ret (v := .tuple #[.int .u32 G.hart, .bool true]) (by simp [results, Tryz.results98, go_sem]) rfl ⟨by rw [e1.out.1, e1.out.2], rfl⟩
  have g0 : (n == 384) = false := by simpa using h0
  have g1 : (n == 768) = false := by simpa using h1
  have g2 : (n == 772) = false := by simpa using h2
  have g3 : (n == 773) = false := by simpa using h3
  have g4 : (n == 832) = false := by simpa using h4
  have g5 : (n == 833) = false := by simpa using h5
  have g6 : (n == 834) = false := by simpa using h6
  have g7 : (n == 835) = false := by simpa using h7
  have g8 : (n == 836) = false := by simpa using h8
  have g9 : (n == 3860) = false := by simpa using h9
  have e1 : Hid (W.getV G n = 0 ∧ W.getB G n = false) := by
    have : W.getV G n = 0 ∧ W.getB G n = false := by simp [W.getV, W.getB, hm, W.reg, W.isReg, g0, g1, g2, g3, g4, g5, g6, g7, g8, g9]
    exact this
  clear h0 h1 h2 h3 h4 h5 h6 h7 h8 h9
  go_enter Tryz.func98, Tryz.ntmps98
  go_wp2
  exact bodyPost_ret (v := .tuple #[.int .u32 0, .bool false]) (by simp [results, Tryz.results98, go_sem]) rfl ⟨by rw [e1.out.1, e1.out.2], rfl⟩
end Go.Proofs.YteilpehekabccabGreatDoor

/- What the methods of package csr that write answer, and what they leave. -/
namespace Go.Proofs.YteilpehekabccabGreatDoor
open Go.ChangeShapes Go.WideShapes Go.ChangeAt Go.RowKit
set_option linter.unusedVariables false
set_option linter.unusedSimpArgs false

theorem bits_bl6 (x low n : Int) (w : World) : Calls Tryz.prog 44 #[.int .u32 x, .int .i64 low, .int .i64 n] w fun e w' => e = .returned (.int .u32 (W.bitsOf x low n)) ∧ Below w.heap.size w w' :=
  (bits_any x low n w).mono fun e w' ⟨h, k, hk⟩ => ⟨h, by rw [hk]; exact below_drewN (Below.refl _ _) _⟩

theorem kmode_bel (v : Int) (w : World) : Calls Tryz.prog 118 #[.int .u32 v] w fun e w' => e = .returned (.int .i64 (W.kmode v)) ∧ Below w.heap.size w w' :=
  (kmode_any v w).mono fun e w' ⟨h, k, hk⟩ => ⟨h, by rw [hk]; exact below_drewN (Below.refl _ _) _⟩

theorem bell_any (T : TT) (b : Nat) (G : W.F) (on : Bool) (w : World) (h : At T b G w) : Calls Tryz.prog 29 #[.pointer (some ⟨b, 0, none⟩), .bool on] w fun x w' => x = .returned (.tuple #[]) ∧ At T b (W.bell G on) w' ∧ w.grownBy w' (some b) := by
  obtain ⟨c0, c1, c2, c3, c4, c5, c6, c7, c8, c9, c10, hz⟩ := h.cells
  have hlt := h.lt
  cases on
  · go_enter Tryz.func29, Tryz.ntmps29
    go_wp2
    go_end0
    exact ⟨rfl, h.put (by rfl), gset _ _ _ _⟩
  · go_enter Tryz.func29, Tryz.ntmps29
    go_wp2
    go_end0
    exact ⟨rfl, (h.put (G' := W.bell G false) (by rfl)).put (by rfl), gtrans (gset _ _ _ _) (gset _ _ _ _)⟩

theorem set_any (T : TT) (b : Nat) (G : W.F) (n v : Int) (w : World) (h : At T b G w) : Calls Tryz.prog 100 #[.pointer (some ⟨b, 0, none⟩), .int .i64 n, .int .u32 v] w fun x w' => x = .returned (.bool (W.setB G n)) ∧ At T b (W.fset G n v) w' ∧ w.grownBy w' (some b) := by
  obtain ⟨c0, c1, c2, c3, c4, c5, c6, c7, c8, c9, c10, hz⟩ := h.cells
  have hlt := h.lt
  cases hm : (G.m == 0)
  case true =>
    have e1 : Hid (W.setB G n = false ∧ W.fset G n v = G) := by
      have : W.setB G n = false ∧ W.fset G n v = G := by simp [W.setB, W.fset, hm]
      exact this
    go_enter Tryz.func100, Tryz.ntmps100
    go_wp2
    go_ret
    rw [e1.out.1, e1.out.2]
    exact ⟨rfl, h, World.grownBy.refl _ _⟩
  by_cases h0 : n = 384
  · subst h0
    have e1 : Hid (W.setB G 384 = true ∧ W.fset G 384 v = { G with satp := bits .and .u32 v 2151677951 }) := by
      have : W.setB G 384 = true ∧ W.fset G 384 v = { G with satp := bits .and .u32 v 2151677951 } := by simp [W.setB, W.fset, hm, W.isSet]
      exact this
    go_enter Tryz.func100, Tryz.ntmps100
    go_wp2
    go_ret
    rw [e1.out.1, e1.out.2]
    exact ⟨rfl, h.put (by rfl), gset _ _ _ _⟩
  by_cases h1 : n = 768
  · subst h1
    have e1 : Hid (W.setB G 768 = true ∧ W.fset G 768 v = { G with st := W.status (W.bitsOf v 3 1) (W.bitsOf v 7 1) (W.kmode v) }) := by
      have : W.setB G 768 = true ∧ W.fset G 768 v = { G with st := W.status (W.bitsOf v 3 1) (W.bitsOf v 7 1) (W.kmode v) } := by simp [W.setB, W.fset, hm, W.isSet]
      exact this
    go_enter Tryz.func100, Tryz.ntmps100
    have hb : Below w.heap.size w w := Below.refl _ _
    go_wp2_with (first | (go_at_call 44; refine (from_ (bits_bl6 _ _ _ _) hb).mono ?_; clear hb; rintro e w' ⟨rfl, hb⟩) | (go_at_call 118; refine (from_ (kmode_bel _ _) hb).mono ?_; clear hb; rintro e w' ⟨rfl, hb⟩) | (go_at_call 60; refine (from_ (status_any _ _ _ _) hb).mono ?_; clear hb; rintro e w1 ⟨rfl, hb⟩; have h' := h.below hb; clear c0 c1 c2 c3 c4 c5 c6 c7 c8 c9 c10 hz hlt; obtain ⟨c0, c1, c2, c3, c4, c5, c6, c7, c8, c9, c10, hz⟩ := h'.cells; have hlt := h'.lt))
    go_ret
    rw [e1.out.1, e1.out.2]
    exact ⟨rfl, h'.put (by rfl), gtrans (gbelow hb) (gset _ _ _ _)⟩
  by_cases h2 : n = 772
  · subst h2
    have e1 : Hid (W.setB G 772 = true ∧ W.fset G 772 v = { G with mie := bits .and .u32 v 8 }) := by
      have : W.setB G 772 = true ∧ W.fset G 772 v = { G with mie := bits .and .u32 v 8 } := by simp [W.setB, W.fset, hm, W.isSet]
      exact this
    go_enter Tryz.func100, Tryz.ntmps100
    go_wp2
    go_ret
    rw [e1.out.1, e1.out.2]
    exact ⟨rfl, h.put (by rfl), gset _ _ _ _⟩
  by_cases h3 : n = 773
  · subst h3
    have e1 : Hid (W.setB G 773 = true ∧ W.fset G 773 v = { G with tvec := W.algn v }) := by
      have : W.setB G 773 = true ∧ W.fset G 773 v = { G with tvec := W.algn v } := by simp [W.setB, W.fset, hm, W.isSet]
      exact this
    go_enter Tryz.func100, Tryz.ntmps100
    go_wp2_with (go_at_call 59; refine (algn_any _ _).mono ?_; rintro e w' ⟨rfl, rfl⟩)
    go_ret
    rw [e1.out.1, e1.out.2]
    exact ⟨rfl, h.put (by rfl), gset _ _ _ _⟩
  by_cases h4 : n = 832
  · subst h4
    have e1 : Hid (W.setB G 832 = true ∧ W.fset G 832 v = { G with scr := v }) := by
      have : W.setB G 832 = true ∧ W.fset G 832 v = { G with scr := v } := by simp [W.setB, W.fset, hm, W.isSet]
      exact this
    go_enter Tryz.func100, Tryz.ntmps100
    go_wp2
    go_ret
    rw [e1.out.1, e1.out.2]
    exact ⟨rfl, h.put (by rfl), gset _ _ _ _⟩
  by_cases h5 : n = 833
  · subst h5
    have e1 : Hid (W.setB G 833 = true ∧ W.fset G 833 v = { G with epc := W.algn v }) := by
      have : W.setB G 833 = true ∧ W.fset G 833 v = { G with epc := W.algn v } := by simp [W.setB, W.fset, hm, W.isSet]
      exact this
    go_enter Tryz.func100, Tryz.ntmps100
    go_wp2_with (go_at_call 59; refine (algn_any _ _).mono ?_; rintro e w' ⟨rfl, rfl⟩)
    go_ret
    rw [e1.out.1, e1.out.2]
    exact ⟨rfl, h.put (by rfl), gset _ _ _ _⟩
  by_cases h6 : n = 834
  · subst h6
    have e1 : Hid (W.setB G 834 = true ∧ W.fset G 834 v = { G with cause := v }) := by
      have : W.setB G 834 = true ∧ W.fset G 834 v = { G with cause := v } := by simp [W.setB, W.fset, hm, W.isSet]
      exact this
    go_enter Tryz.func100, Tryz.ntmps100
    go_wp2
    go_ret
    rw [e1.out.1, e1.out.2]
    exact ⟨rfl, h.put (by rfl), gset _ _ _ _⟩
  by_cases h7 : n = 835
  · subst h7
    have e1 : Hid (W.setB G 835 = true ∧ W.fset G 835 v = { G with tval := v }) := by
      have : W.setB G 835 = true ∧ W.fset G 835 v = { G with tval := v } := by simp [W.setB, W.fset, hm, W.isSet]
      exact this
    go_enter Tryz.func100, Tryz.ntmps100
    go_wp2
    go_ret
    rw [e1.out.1, e1.out.2]
    exact ⟨rfl, h.put (by rfl), gset _ _ _ _⟩
  have g0 : (n == 384) = false := by simpa using h0
  have g1 : (n == 768) = false := by simpa using h1
  have g2 : (n == 772) = false := by simpa using h2
  have g3 : (n == 773) = false := by simpa using h3
  have g4 : (n == 832) = false := by simpa using h4
  have g5 : (n == 833) = false := by simpa using h5
  have g6 : (n == 834) = false := by simpa using h6
  have g7 : (n == 835) = false := by simpa using h7
  clear h0 h1 h2 h3 h4 h5 h6 h7
  have e1 : Hid (W.fset G n v = G) := by
    have : W.fset G n v = G := by simp [W.fset, hm, g0, g1, g2, g3, g4, g5, g6, g7]
    exact this
  have e2 : Hid (W.setB G n = (n == 836)) := by
    have : W.setB G n = (n == 836) := by simp [W.setB, hm, W.isSet, g0, g1, g2, g3, g4, g5, g6, g7]
    exact this
  cases g8 : (n == 836)
  all_goals
    go_enter Tryz.func100, Tryz.ntmps100
    go_wp2
    go_ret
    rw [e1.out, e2.out, g8]
    exact ⟨rfl, h, World.grownBy.refl _ _⟩

theorem return_any (T : TT) (b : Nat) (G : W.F) (w : World) (h : At T b G w) : Calls Tryz.prog 97 #[.pointer (some ⟨b, 0, none⟩)] w fun x w' => x = .returned (.int .u32 G.epc) ∧ At T b (W.fret G) w' ∧ w.grownBy w' (some b) := by
  obtain ⟨c0, c1, c2, c3, c4, c5, c6, c7, c8, c9, c10, hz⟩ := h.cells
  have hlt := h.lt
  go_enter Tryz.func97, Tryz.ntmps97
  go_wp2_with (first | (go_at_call 118; refine (kmode_bel _ _).mono ?_; rintro e w1 ⟨rfl, hb1⟩; have h1 := h.below hb1; clear c0 c1 c2 c3 c4 c5 c6 c7 c8 c9 c10 hz hlt; obtain ⟨c0, c1, c2, c3, c4, c5, c6, c7, c8, c9, c10, hz⟩ := h1.cells; have hlt := h1.lt) | (go_at_call 44; refine (bits_bl6 _ _ _ _).mono ?_; rintro e w2 ⟨rfl, hb2⟩; have h2 := (h1.put (G' := { G with m := W.kmode G.st }) (by rfl)).below hb2) | (go_at_call 60; refine (status_any _ _ _ _).mono ?_; rintro e w3 ⟨rfl, hb3⟩; have h3 := h2.below hb3; clear c0 c1 c2 c3 c4 c5 c6 c7 c8 c9 c10 hz hlt; obtain ⟨c0, c1, c2, c3, c4, c5, c6, c7, c8, c9, c10, hz⟩ := h3.cells; have hlt := h3.lt))
  go_ret
  exact ⟨rfl, h3.put (by rfl), gtrans (gtrans (gtrans (gbelow hb1) (gset _ _ _ _)) (gtrans (gbelow hb2) (gbelow hb3))) (gset _ _ _ _)⟩
end Go.Proofs.YteilpehekabccabGreatDoor

/- Trap, Pending and All of package csr: the regions that draw their order. -/
namespace Go.Proofs.YteilpehekabccabGreatDoor
open Go.ChangeShapes Go.WideShapes Go.ChangeAt Go.RowKit
set_option linter.unusedVariables false
set_option linter.unusedSimpArgs false

theorem pending_any (T : TT) (b : Nat) (G : W.F) (w : World) (h : At T b G w) : Calls Tryz.prog 30 #[.pointer (some ⟨b, 0, none⟩)] w fun x w' => x = .returned (.tuple #[.int .u32 (W.pendV G), .bool (W.pend G)]) ∧ Below w.heap.size w w' := by
  obtain ⟨c0, c1, c2, c3, c4, c5, c6, c7, c8, c9, c10, hz⟩ := h.cells
  have hlt := h.lt
  cases h1 : (G.m == 0)
  all_goals cases h2 : (W.bitsOf G.st 3 1 == 1)
  all_goals cases h3 : (bits .and .u32 (bits .and .u32 G.mip G.mie) 8 != 0)
  all_goals
    have e1 : Hid (W.pend G = ((G.m == 0 || W.bitsOf G.st 3 1 == 1) && (bits .and .u32 (bits .and .u32 G.mip G.mie) 8 != 0)) ∧ W.pendV G = bif W.pend G then 2147483651 else 0) := by exact (⟨rfl, rfl⟩ : W.pend G = _ ∧ W.pendV G = _)
    rw [h1, h2, h3] at e1
    have e2 := e1.out.1
    have e3 := e1.out.2
    clear e1
    rw [e2] at e3
    have e2 : Hid (_ = _) := e2
    have e3 : Hid (_ = _) := e3
    go_enter Tryz.func30, Tryz.ntmps30
    go_wp2_with (go_at_call 44; refine (bits_any _ _ _ _).mono ?_; rintro e w1 ⟨rfl, k1, rfl⟩)
    go_quiet (fail)
    go_wp2
    first
    | exact bodyPost_ret (v := .tuple #[.int .u32 0, .bool false]) (by simp [results, Tryz.results30, go_sem]) rfl ⟨by rw [e2.out, e3.out]; rfl, by repeat (first | exact Below.refl _ _ | refine below_drewN ?_ _)⟩
    | exact bodyPost_ret (v := .tuple #[.int .u32 2147483651, .bool true]) (by simp [results, Tryz.results30, go_sem]) rfl ⟨by rw [e2.out, e3.out]; rfl, by repeat (first | exact Below.refl _ _ | refine below_drewN ?_ _)⟩
end Go.Proofs.YteilpehekabccabGreatDoor
