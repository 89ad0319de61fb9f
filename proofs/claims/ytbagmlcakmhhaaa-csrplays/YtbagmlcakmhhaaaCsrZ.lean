/- What lies in memory while CsrPlays goes on. -/
import Derived.Test.YtbagmlcakmhhaaaCsrV
import Derived.Test.YtbagmlcakmhhaaaCsrW
import Derived.Test.YtbagmlcakmhhaaaCsrX
import Derived.Test.YtbagmlcakmhhaaaCsrY
namespace Go.Proofs.Ytbagmlcakmhhaaa
open Go.ChangeShapes Go.WideShapes Go.ChangeAt Go.RowKit
set_option linter.unusedVariables false
set_option linter.unusedSimpArgs false

abbrev FT : TypeId := 26
def wordCells (G : W.F) : Array Value := #[.int .u32 G.satp, .int .u32 G.st, .int .u32 G.mie, .int .u32 G.tvec, .int .u32 G.scr, .int .u32 G.epc, .int .u32 G.cause, .int .u32 G.tval, .int .u32 G.mip, .int .u32 G.hart]
def wordAt (G : W.F) (j : Nat) : Int := match j with | 0 => G.satp | 1 => G.st | 2 => G.mie | 3 => G.tvec | 4 => G.scr | 5 => G.epc | 6 => G.cause | 7 => G.tval | 8 => G.mip | _ => G.hart
/-- The ten words lie in block b. -/
structure Wo (b : Nat) (G : W.F) (w : World) : Prop where
  out : w.heap[b]? = some (.cells (wordCells G) 24)
theorem Wo.lt {b : Nat} {G : W.F} {w : World} (h : Wo b G w) : b < w.heap.size := (Array.getElem?_eq_some_iff.1 h.out).1
theorem Wo.at_ {b : Nat} {G : W.F} {w : World} (h : Wo b G w) (j : Nat) (hj : j < 10) : w.cell? ⟨b, 0 + j, none⟩ = some (.int .u32 (wordAt G j)) := by
  have e := h.out
  have hh : j = 0 ∨ j = 1 ∨ j = 2 ∨ j = 3 ∨ j = 4 ∨ j = 5 ∨ j = 6 ∨ j = 7 ∨ j = 8 ∨ j = 9 := by omega
  rcases hh with rfl | rfl | rfl | rfl | rfl | rfl | rfl | rfl | rfl | rfl <;> simp [World.cell?, e, wordCells, wordAt]
theorem At.words {T : TypeId} {b : Nat} {G : W.F} {w : World} (h : At T b G w) (j : Nat) (hj : j < 10) : w.cell? ⟨b, 1 + j, none⟩ = some (.int .u32 (wordAt G j)) := by
  have e := h.out
  have hh : j = 0 ∨ j = 1 ∨ j = 2 ∨ j = 3 ∨ j = 4 ∨ j = 5 ∨ j = 6 ∨ j = 7 ∨ j = 8 ∨ j = 9 := by omega
  rcases hh with rfl | rfl | rfl | rfl | rfl | rfl | rfl | rfl | rfl | rfl <;> simp [World.cell?, e, fileCells, wordAt]
theorem Wo.below {b : Nat} {G : W.F} {w w' : World} (h : Wo b G w) (hb : Below w.heap.size w w') : Wo b G w' := ⟨(hb.block b h.lt).trans h.out⟩
theorem Wo.kept {b c : Nat} {G : W.F} {w w' : World} (h : Wo b G w) (hg : w.grownBy w' (some c)) (hne : b ≠ c) : Wo b G w' := ⟨(hg.block b h.lt (by simpa using hne)).trans h.out⟩

/-- What a thing told is. -/
structure W.D where
  k : Int
  n : Int
  v : Int
  u : Int
  p : Int
def doCells (d : W.D) : Array Value := #[.int .i64 d.k, .int .i64 d.n, .int .u32 d.v, .int .u32 d.u, .int .u32 d.p]
structure Dt (b : Nat) (d : W.D) (w : World) : Prop where
  out : w.heap[b]? = some (.cells (doCells d) 33)
theorem Dt.lt {b : Nat} {d : W.D} {w : World} (h : Dt b d w) : b < w.heap.size := (Array.getElem?_eq_some_iff.1 h.out).1
theorem Dt.cells {b : Nat} {d : W.D} {w : World} (h : Dt b d w) : w.cell? ⟨b, 0, none⟩ = some (.int .i64 d.k) ∧ w.cell? ⟨b, 1, none⟩ = some (.int .i64 d.n) ∧ w.cell? ⟨b, 2, none⟩ = some (.int .u32 d.v) ∧ w.cell? ⟨b, 3, none⟩ = some (.int .u32 d.u) ∧ w.cell? ⟨b, 4, none⟩ = some (.int .u32 d.p) := by
  have e := h.out
  simp [World.cell?, e, doCells]
theorem Dt.below {b : Nat} {d : W.D} {w w' : World} (h : Dt b d w) (hb : Below w.heap.size w w') : Dt b d w' := ⟨(hb.block b h.lt).trans h.out⟩
theorem Dt.kept {b c : Nat} {d : W.D} {w w' : World} (h : Dt b d w) (hg : w.grownBy w' (some c)) (hne : b ≠ c) : Dt b d w' := ⟨(hg.block b h.lt (by simpa using hne)).trans h.out⟩

/-- While a round goes on: f, x, the thing told, the copy kept, and its words. -/
structure Pw (w : World) (bf bx bd bk bw : Nat) (d : W.D) (G Gx G0 : W.F) (wr : World) : Prop where
  bel : Below w.heap.size w wr
  f : At FT bf G wr
  x : At RT bx Gx wr
  d : Dt bd d wr
  k : At FT bk G0 wr
  wo : Wo bw G0 wr
  lf : w.heap.size ≤ bf
  lx : w.heap.size ≤ bx
  fx : bf ≠ bx
  df : bd ≠ bf
  dx : bd ≠ bx
  kf : bk ≠ bf
  kx : bk ≠ bx
  wf : bw ≠ bf
  wx : bw ≠ bx
theorem Pw.below {w : World} {bf bx bd bk bw : Nat} {d : W.D} {G Gx G0 : W.F} {wr w' : World} (h : Pw w bf bx bd bk bw d G Gx G0 wr) (hb : Below wr.heap.size wr w') : Pw w bf bx bd bk bw d G Gx G0 w' :=
  ⟨h.bel.trans (hb.mono h.bel.size), h.f.below hb, h.x.below hb, h.d.below hb, h.k.below hb, h.wo.below hb, h.lf, h.lx, h.fx, h.df, h.dx, h.kf, h.kx, h.wf, h.wx⟩
theorem Pw.onF {w : World} {bf bx bd bk bw : Nat} {d : W.D} {G G' Gx G0 : W.F} {wr w' : World} (h : Pw w bf bx bd bk bw d G Gx G0 wr) (h2 : At FT bf G' w') (hg : wr.grownBy w' (some bf)) : Pw w bf bx bd bk bw d G' Gx G0 w' :=
  ⟨h.bel.grown hg h.bel.size (fun k hk => by cases hk; exact h.lf), h2, h.x.kept hg (Ne.symm h.fx), h.d.kept hg h.df, h.k.kept hg h.kf, h.wo.kept hg h.wf, h.lf, h.lx, h.fx, h.df, h.dx, h.kf, h.kx, h.wf, h.wx⟩
theorem Pw.onX {w : World} {bf bx bd bk bw : Nat} {d : W.D} {G Gx Gx' G0 : W.F} {wr w' : World} (h : Pw w bf bx bd bk bw d G Gx G0 wr) (h2 : At RT bx Gx' w') (hg : wr.grownBy w' (some bx)) : Pw w bf bx bd bk bw d G Gx' G0 w' :=
  ⟨h.bel.grown hg h.bel.size (fun k hk => by cases hk; exact h.lx), h.f.kept hg h.fx, h2, h.d.kept hg h.dx, h.k.kept hg h.kx, h.wo.kept hg h.wx, h.lf, h.lx, h.fx, h.df, h.dx, h.kf, h.kx, h.wf, h.wx⟩
theorem Pw.drew {w : World} {bf bx bd bk bw : Nat} {d : W.D} {G Gx G0 : W.F} {wr : World} (h : Pw w bf bx bd bk bw d G Gx G0 wr) : Pw w bf bx bd bk bw d G Gx G0 wr.drew := h.below (Below.refl _ _).drew

/-- Between two rounds: f and x, alike and well. -/
structure Pl (w : World) (bf bx : Nat) (G : W.F) (wr : World) : Prop where
  bel : Below w.heap.size w wr
  f : At FT bf G wr
  x : At RT bx G wr
  lf : w.heap.size ≤ bf
  lx : w.heap.size ≤ bx
  fx : bf ≠ bx
  m : G.m = 0 ∨ G.m = 3
  s0 : 0 ≤ G.st
  s1 : G.st < 4294967296

namespace W
structure Good (G : F) : Prop where
  m : G.m = 0 ∨ G.m = 3
  s0 : 0 ≤ G.st
  s1 : G.st < 4294967296
theorem Good.set {G : F} (h : Good G) (n v : Int) (v0 : 0 ≤ v) (v1 : v < 4294967296) : Good (fset G n v) := by
  have e := set_st v v0 v1
  have b : 0 ≤ status (bitsOf v 3 1) (bitsOf v 7 1) (kmode v) ∧ status (bitsOf v 3 1) (bitsOf v 7 1) (kmode v) < 4294967296 := by
    rw [e]; split <;> omega
  unfold fset
  cases (G.m == 0); case true => exact h
  cases (n == 384); case true => exact ⟨h.m, h.s0, h.s1⟩
  cases (n == 768); case true => exact ⟨h.m, b.1, b.2⟩
  cases (n == 772); case true => exact ⟨h.m, h.s0, h.s1⟩
  cases (n == 773); case true => exact ⟨h.m, h.s0, h.s1⟩
  cases (n == 832); case true => exact ⟨h.m, h.s0, h.s1⟩
  cases (n == 833); case true => exact ⟨h.m, h.s0, h.s1⟩
  cases (n == 834); case true => exact ⟨h.m, h.s0, h.s1⟩
  cases (n == 835); case true => exact ⟨h.m, h.s0, h.s1⟩
  exact h
theorem Good.bell {G : F} (h : Good G) (on : Bool) : Good (bell G on) := ⟨h.m, h.s0, h.s1⟩
theorem Good.trap {G : F} (h : Good G) (c t p : Int) : Good (trap G c t p) := by
  have hb := b3_eq G.st h.s0 h.s1
  have hs := status_eq 0 (bitsOf G.st 3 1) G.m (Or.inl rfl) (by omega) h.m
  have hm := h.m
  exact ⟨Or.inr rfl, by show 0 ≤ status 0 (bitsOf G.st 3 1) G.m; omega, by show status 0 (bitsOf G.st 3 1) G.m < 4294967296; omega⟩
theorem Good.fret {G : F} (h : Good G) : Good (fret G) := by
  have hb := b7_eq G.st h.s0 h.s1
  have hs := status_eq (bitsOf G.st 7 1) 1 0 (by omega) (Or.inr rfl) (Or.inl rfl)
  have hk := kmode_eq G.st h.s0 h.s1
  exact ⟨by show kmode G.st = 0 ∨ kmode G.st = 3; rw [hk]; split <;> omega, by show 0 ≤ status (bitsOf G.st 7 1) 1 0; omega, by show status (bitsOf G.st 7 1) 1 0 < 4294967296; omega⟩
theorem Good.new (hart : Int) : Good (fnew hart) := ⟨Or.inr rfl, Int.le_refl 0, by show (0 : Int) < 4294967296; decide⟩
end W
end Go.Proofs.Ytbagmlcakmhhaaa
