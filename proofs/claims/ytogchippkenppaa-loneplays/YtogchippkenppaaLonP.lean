/- lone: both lines in memory; what a line is told, in a block. -/
import Derived.Test.YtogchippkenppaaLonN
import Derived.Test.YtogchippkenppaaLonG
import Derived.Test.YtogchippkenppaaLonS
import Derived.Test.YtogchippkenppaaLonK
namespace Go.Proofs.Ytogchippkenppaa
open Go.ChangeShapes Go.WideShapes Go.ChangeAt Go.RowKit
set_option linter.unusedVariables false
set_option linter.unusedSimpArgs false
variable {n0 b db tb cb : Nat} {s s' s0 : W.Lo} {d d' : W.Ld} {D : W.Do} {w w' w'' w0 w2 : World}

/-- A word for the whole of what a line is told. -/
def ldD (a : Addr) : Sem Value := loadVar 35 a
theorem ldD_eq (a : Addr) : loadVar 35 a = ldD a := rfl
def stD (a : Addr) (v : Value) : Sem Unit := storeVar 35 a v
theorem stD_eq (a : Addr) (v : Value) : storeVar 35 a v = stD a v := rfl
def doV (d : W.Do) : Value := .agg (doL d).toArray
theorem oneD (d : W.Do) : ∀ u ∈ doL d, u.oneCell' = true := by
  intro u hu
  unfold doL at hu
  rcases List.mem_append.1 hu with h | h
  · simp at h
    rcases h with h | h | h | h | h | h <;> subst h <;> rfl
  · exact oneM d.m u h
theorem ldD_at {b o : Nat} {d : W.Do} (h : w.rangeAt b o (doL d)) : (ldD ⟨b, o, none⟩).run Try.prog w = .ok (doV d) w := run_loadVar_mid w b o _ _ _ h Try.underlying35 rfl (by kernel_rfl)
theorem stD_new (w : World) (d : W.Do) (Z : Array Value) (hz : Z.size = 17) : (stD ⟨w.heap.size, 0, none⟩ (doV d)).run Try.prog (w.alloc (.cells Z 35)) = .ok () (w.alloc (.cells (doL d).toArray 35)) := by
  have := run_storeVar_new (P := Try.prog) w 35 Z (doL d).toArray (by kernel_rfl) (by rw [hz]; rfl) (by simpa using oneD d)
  exact this
abbrev z17 : Array Value := #[.int .i64 0, .bool false, .int .u32 0, .int .u32 0, .int .u32 0, .int .u32 0, .int .i64 0, .int .i64 0, .int .i64 0, .int .i64 0, .int .u32 0, .int .u32 0, .int .u32 0, .int .u32 0, .bool false, .bool false, .bool false]
/-- A block holds what a line is told. -/
def Tb (tb : Nat) (D : W.Do) (w : World) : Prop := Rw tb (doL D).toArray 35 w
theorem Tb.k (h : Tb tb D w) : w.cell? ⟨tb, 0, none⟩ = some (.int .i64 D.k) := Rw.c h 0 rfl
theorem Tb.wr (h : Tb tb D w) : w.cell? ⟨tb, 1, none⟩ = some (.bool D.wr) := Rw.c h 1 rfl
theorem Tb.x0 (h : Tb tb D w) : w.cell? ⟨tb, 2, none⟩ = some (.int .u32 D.x0) := Rw.c h 2 rfl
theorem Tb.x1 (h : Tb tb D w) : w.cell? ⟨tb, 3, none⟩ = some (.int .u32 D.x1) := Rw.c h 3 rfl
theorem Tb.x2 (h : Tb tb D w) : w.cell? ⟨tb, 4, none⟩ = some (.int .u32 D.x2) := Rw.c h 4 rfl
theorem Tb.x3 (h : Tb tb D w) : w.cell? ⟨tb, 5, none⟩ = some (.int .u32 D.x3) := Rw.c h 5 rfl
theorem Tb.m (h : Tb tb D w) : (ldM ⟨tb, 6, none⟩).run Try.prog w = .ok (mgV D.m) w := by
  refine ldM_at (fun j v hv => ?_)
  refine Rw.c h (6 + j) ?_
  show (doL D).toArray[6 + j]? = some v
  rw [List.getElem?_toArray]
  unfold doL
  rw [List.getElem?_append_right (by simp)]
  simpa using hv
/-- Both lines, what is told, the copy. -/
structure Az (n0 b db tb cb : Nat) (s : W.Lo) (d : W.Ld) (D : W.Do) (s0 : W.Lo) (w0 w : World) : Prop where
  h : Lb b s w
  g : Db db d w
  t : Tb tb D w
  c : Lb cb s0 w
  ne : b ≠ db
  nt : tb ≠ b ∧ tb ≠ db
  nc : cb ≠ b ∧ cb ≠ db
  lo : n0 ≤ b ∧ n0 ≤ db
  b : Below n0 w0 w
  n : n0 ≤ w.heap.size
theorem Az.below (h : Az n0 b db tb cb s d D s0 w0 w) (hb : Below w.heap.size w w') : Az n0 b db tb cb s d D s0 w0 w' :=
  ⟨h.h.below hb, h.g.below hb, Rw.below h.t hb, h.c.below hb, h.ne, h.nt, h.nc, h.lo, h.b.trans (hb.mono h.n), Nat.le_trans h.n hb.size⟩
theorem Az.up (h : Az n0 b db tb cb s d D s0 w0 w) (H : Lb b s' w') (u : Up b w w') : Az n0 b db tb cb s' d D s0 w0 w' :=
  ⟨H, Rw.gs h.g u (fun e => h.ne e.symm), Rw.gs h.t u h.nt.1, Rw.gs h.c u h.nc.1, h.ne, h.nt, h.nc, h.lo, h.b.trans (Gs.below u h.n (fun g e => by rw [e]; exact h.lo.1)), Nat.le_trans h.n u.size⟩
theorem Az.upd (h : Az n0 b db tb cb s d D s0 w0 w) (H : Db db d' w') (u : Up db w w') : Az n0 b db tb cb s d' D s0 w0 w' :=
  ⟨Rw.gs h.h u h.ne, H, Rw.gs h.t u h.nt.2, Rw.gs h.c u h.nc.2, h.ne, h.nt, h.nc, h.lo, h.b.trans (Gs.below u h.n (fun g e => by rw [e]; exact h.lo.2)), Nat.le_trans h.n u.size⟩
theorem Ms.up {sl : W.Sl} {l : List W.Mg} (h : Ms sl l w) (u : Up db w w') (hn : ∀ g o, sl.a = some ⟨g, o, none⟩ → g ≠ db) : Ms sl l w' :=
  h.block u.size (fun g o e hl => u.block g hl (hn g o e))
/-- Both lines ahead of a round. -/
structure Bz (n0 b db : Nat) (s : W.Lo) (d : W.Ld) (w0 w : World) : Prop where
  h : Lb b s w
  g : Db db d w
  ne : b ≠ db
  lo : n0 ≤ b ∧ n0 ≤ db
  b : Below n0 w0 w
  n : n0 ≤ w.heap.size
theorem Az.bz (h : Az n0 b db tb cb s d D s0 w0 w) : Bz n0 b db s d w0 w := ⟨h.h, h.g, h.ne, h.lo, h.b, h.n⟩
theorem Bz.az (h : Bz n0 b db s d w0 w) (hb : Below w.heap.size w w') (ht : Tb tb D w') (hc : Lb cb s0 w') (h1 : w.heap.size ≤ tb) (h2 : w.heap.size ≤ cb) : Az n0 b db tb cb s d D s0 w0 w' :=
  have l1 := h.h.lt
  have l2 := h.g.lt
  ⟨h.h.below hb, h.g.below hb, ht, hc, h.ne, ⟨by omega, by omega⟩, ⟨by omega, by omega⟩, h.lo, h.b.trans (hb.mono h.n), Nat.le_trans h.n hb.size⟩
theorem Az.ask (h : Az n0 b db tb cb s d D s0 w0 w) (x : Bool) : Calls Try.prog 10 #[.pointer (some ⟨b, 0, none⟩), .bool x] w fun e w' => ∃ sl, e = .returned (.tuple #[slV sl, .bool (s.ask x).2.2]) ∧ Ms sl (s.ask x).2.1 w' ∧ Az n0 b db tb cb (s.ask x).1 d D s0 w0 w' ∧ ∀ g o, sl.a = some ⟨g, o, none⟩ → g ≠ db :=
  (ask_any h.h x).mono (by rintro e w' ⟨sl, rfl, r⟩; exact ⟨sl, rfl, r.1, h.up r.2.1 r.2.2.1, fun g o e => by have := r.2.2.2 g o e; have := h.g.lt; omega⟩)
theorem Az.evict (h : Az n0 b db tb cb s d D s0 w0 w) : Calls Try.prog 13 #[.pointer (some ⟨b, 0, none⟩)] w fun e w' => ∃ sl, e = .returned (.tuple #[slV sl, .bool s.evict.2.2]) ∧ Ms sl s.evict.2.1 w' ∧ Az n0 b db tb cb s.evict.1 d D s0 w0 w' ∧ ∀ g o, sl.a = some ⟨g, o, none⟩ → g ≠ db :=
  (evict_any h.h).mono (by rintro e w' ⟨sl, rfl, r⟩; exact ⟨sl, rfl, r.1, h.up r.2.1 r.2.2.1, fun g o e => by have := r.2.2.2 g o e; have := h.g.lt; omega⟩)
theorem Az.take (h : Az n0 b db tb cb s d D s0 w0 w) (m : W.Mg) : Calls Try.prog 19 #[.pointer (some ⟨b, 0, none⟩), mgV m] w fun e w' => ∃ sl, e = .returned (.tuple #[slV sl, .bool (s.take m).2.2]) ∧ Ms sl (s.take m).2.1 w' ∧ Az n0 b db tb cb (s.take m).1 d D s0 w0 w' ∧ ∀ g o, sl.a = some ⟨g, o, none⟩ → g ≠ db :=
  (take_any h.h m).mono (by rintro e w' ⟨sl, rfl, r⟩; exact ⟨sl, rfl, r.1, h.up r.2.1 r.2.2.1, fun g o e => by have := r.2.2.2 g o e; have := h.g.lt; omega⟩)
theorem Az.set (h : Az n0 b db tb cb s d D s0 w0 w) (x0 x1 x2 x3 : Int) : Calls Try.prog 16 #[.pointer (some ⟨b, 0, none⟩), .agg #[.int .u32 x0, .int .u32 x1, .int .u32 x2, .int .u32 x3]] w fun e w' => e = .returned (.bool (s.set x0 x1 x2 x3).2) ∧ Az n0 b db tb cb (s.set x0 x1 x2 x3).1 d D s0 w0 w' :=
  (set_any h.h x0 x1 x2 x3).mono (by rintro e w' ⟨rfl, r1, r2⟩; exact ⟨rfl, h.up r1 r2⟩)
theorem Az.dask (h : Az n0 b db tb cb s d D s0 w0 w) (x : Bool) {sl : W.Sl} {l : List W.Mg} (hm : Ms sl l w) (hn : ∀ g o, sl.a = some ⟨g, o, none⟩ → g ≠ db) : Calls Try.prog 11 #[.pointer (some ⟨db, 0, none⟩), .bool x] w fun e w' => ∃ sl', e = .returned (.tuple #[slV sl', .bool (d.ask x).2.2]) ∧ Ms sl' (d.ask x).2.1 w' ∧ Ms sl l w' ∧ Az n0 b db tb cb s (d.ask x).1 D s0 w0 w' :=
  (dask_any h.g x).mono (by rintro e w' ⟨sl', rfl, r⟩; exact ⟨sl', rfl, r.1, hm.up r.2.2.1 hn, h.upd r.2.1 r.2.2.1⟩)
theorem Az.devict (h : Az n0 b db tb cb s d D s0 w0 w) {sl : W.Sl} {l : List W.Mg} (hm : Ms sl l w) (hn : ∀ g o, sl.a = some ⟨g, o, none⟩ → g ≠ db) : Calls Try.prog 14 #[.pointer (some ⟨db, 0, none⟩)] w fun e w' => ∃ sl', e = .returned (.tuple #[slV sl', .bool d.evict.2.2]) ∧ Ms sl' d.evict.2.1 w' ∧ Ms sl l w' ∧ Az n0 b db tb cb s d.evict.1 D s0 w0 w' :=
  (devict_any h.g).mono (by rintro e w' ⟨sl', rfl, r⟩; exact ⟨sl', rfl, r.1, hm.up r.2.2.1 hn, h.upd r.2.1 r.2.2.1⟩)
theorem Az.dtake {s1 : W.Lo} (h : Az n0 b db tb cb s1 d D s0 w0 w) (hR : W.Rl s d) (m : W.Mg) (hk : s.tk m = true) {sl : W.Sl} {l : List W.Mg} (hm : Ms sl l w) (hn : ∀ g o, sl.a = some ⟨g, o, none⟩ → g ≠ db) : Calls Try.prog 20 #[.pointer (some ⟨db, 0, none⟩), mgV m] w fun e w' => ∃ sl', e = .returned (.tuple #[slV sl', .bool (d.lost m)]) ∧ Ms sl' (d.tak m).2 w' ∧ Ms sl l w' ∧ Az n0 b db tb cb s1 (d.tak m).1 D s0 w0 w' :=
  (dtake_any h.g hR m hk).mono (by rintro e w' ⟨sl', rfl, r⟩; exact ⟨sl', rfl, r.1, hm.up r.2.2.1 hn, h.upd r.2.1 r.2.2.1⟩)
theorem lost_eq (hR : W.Rl s d) (m : W.Mg) (hk : s.tk m = true) : d.lost m = (s.take m).2.2 ∧ (d.tak m).2 = (s.take m).2.1 ∧ W.Rl (s.take m).1 (d.tak m).1 := by
  have h := hR.take m hk
  unfold W.Lo.take W.Ld.lost
  rw [if_pos hk]
  refine ⟨?_, h.2, h.1⟩
  rw [hR.st, h.1.st]
end Go.Proofs.Ytogchippkenppaa
