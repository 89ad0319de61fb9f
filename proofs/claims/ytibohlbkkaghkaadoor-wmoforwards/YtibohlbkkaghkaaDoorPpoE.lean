/- The bytes and the traits of an operation. -/
import Derived.Test.YtibohlbkkaghkaaDoorPpoD
import Derived.Deep.RegionLaw
import Derived.Deep.RegionHeld3
namespace Go.Proofs.YtibohlbkkaghkaaDoor
open Go.ChangeShapes Go.WideShapes Go.ChangeAt Go.RowKit
set_option linter.unusedVariables false
set_option linter.unusedSimpArgs false

def opC (o : W.Opr) (a d c : W.Sl) : Array Value := #[.int .i64 o.k, .int .i64 o.sz, .int .u32 o.ad, .int .u32 o.vl, .int .u32 o.gt, .bool o.pr, .bool o.aq, .bool o.rl, .int .i64 o.pd, .int .i64 o.sc, .slice a.a a.n a.c, .slice d.a d.n d.c, .slice c.a c.n c.c]
/-- An operation lies in memory. -/
structure OpAt (g off : Nat) (o : W.Opr) (w : World) : Prop where
  lt : g < w.heap.size
  c0 : w.cell? ⟨g, off, none⟩ = some (.int .i64 o.k)
  c1 : w.cell? ⟨g, off + 1, none⟩ = some (.int .i64 o.sz)
  c2 : w.cell? ⟨g, off + 2, none⟩ = some (.int .u32 o.ad)
  c5 : w.cell? ⟨g, off + 5, none⟩ = some (.bool o.pr)
  c6 : w.cell? ⟨g, off + 6, none⟩ = some (.bool o.aq)
  c7 : w.cell? ⟨g, off + 7, none⟩ = some (.bool o.rl)
theorem OpAt.below {g off : Nat} {o : W.Opr} {w w' : World} (h : OpAt g off o w) (hb : Below w.heap.size w w') : OpAt g off o w' :=
  ⟨Nat.lt_of_lt_of_le h.lt hb.size, (hb.cell (p := ⟨g, _, none⟩) h.lt).trans h.c0, (hb.cell (p := ⟨g, _, none⟩) h.lt).trans h.c1, (hb.cell (p := ⟨g, _, none⟩) h.lt).trans h.c2, (hb.cell (p := ⟨g, _, none⟩) h.lt).trans h.c5, (hb.cell (p := ⟨g, _, none⟩) h.lt).trans h.c6, (hb.cell (p := ⟨g, _, none⟩) h.lt).trans h.c7⟩
set_option maxHeartbeats 800000 in
theorem spanOf_any (g off : Nat) (o : W.Opr) (w : World) (h : OpAt g off o w) (z0 : -9223372036854775808 ≤ o.sz) (z1 : o.sz ≤ 9223372036854775807) : Calls Tryd.prog 72 #[.pointer (some ⟨g, off, none⟩)] w fun e w' => e = .returned (spV (W.spn o)) ∧ Below w.heap.size w w' := by
  obtain ⟨lt, _, c1, c2, _, _, _⟩ := h
  obtain ⟨k, sz, ad, vl, gt, pr, aq, rl, pd, sc⟩ := o
  dsimp only at *
  unfold spV W.spn
  dsimp only
  go_enter Tryd.func72, Tryd.ntmps72
  go_wp2
  go_region
  go_wp2
  exact bodyPost_ret (v := .agg #[.int .u32 ad, .int .u64 (min (max sz 0) 4294967296)]) (by simp [results, Tryd.results72, go_sem]) rfl ⟨rfl, ((Below.refl _ _).alloc (Nat.le_refl _) _).drew⟩

/-- The sizes that there can be. -/
theorem W.spn_ok (o : W.Opr) (h0 : 0 ≤ o.ad) (h1 : o.ad < 4294967296) : W.SpOk (W.spn o) := ⟨h0, h1, by show 0 ≤ min (max o.sz 0) 4294967296; omega, by show min (max o.sz 0) 4294967296 ≤ 4294967296; omega⟩
def acC (x : W.Act) : Array Value := #[.int .u32 x.p.f, .int .u64 x.p.s, .int .u8 x.t]
end Go.Proofs.YtibohlbkkaghkaaDoor
