/- fence; operations in memory. -/
import Derived.Test.YtibohlbkkaghkaaDoorPpoH
import Derived.Deep.QuietTactic
import Derived.BigQuiet
namespace Go.Proofs.YtibohlbkkaghkaaDoor
open Go.ChangeShapes Go.WideShapes Go.ChangeAt Go.RowKit
set_option linter.unusedVariables false
set_option linter.unusedSimpArgs false
variable {F : Nat → Option Obj}

/-- An operation lies in memory, with what it hangs on. -/
structure OzAt (g off : Nat) (z : W.Oz) (w : World) : Prop where
  o : OpAt g off z.o w
  c8 : w.cell? ⟨g, off + 8, none⟩ = some (.int .i64 z.o.pd)
  c9 : w.cell? ⟨g, off + 9, none⟩ = some (.int .i64 z.o.sc)
  ca : ∃ s, w.cell? ⟨g, off + 10, none⟩ = some (slV s) ∧ Li s z.a w
  cd : ∃ s, w.cell? ⟨g, off + 11, none⟩ = some (slV s) ∧ Li s z.d w
  cc : ∃ s, w.cell? ⟨g, off + 12, none⟩ = some (slV s) ∧ Li s z.c w
theorem OzAt.below {g off : Nat} {z : W.Oz} {w w' : World} (h : OzAt g off z w) (hb : Below w.heap.size w w') : OzAt g off z w' := by
  obtain ⟨o, c8, c9, ⟨s1, a1, a2⟩, ⟨s2, b1, b2⟩, ⟨s3, d1, d2⟩⟩ := h
  have q := fun k => hb.cell (p := ⟨g, off + k, none⟩) o.lt
  exact ⟨o.below hb, (q 8).trans c8, (q 9).trans c9, ⟨s1, (q 10).trans a1, a2.below hb⟩, ⟨s2, (q 11).trans b1, b2.below hb⟩, ⟨s3, (q 12).trans d1, d2.below hb⟩⟩
/-- A list of old memory. -/
theorem Li.old {s : W.Sl} {l : List Int} {w0 : World} (h : Li s l w0) {b : Nat} (hb : w0.heap.size ≤ b) : ∀ g o, 0 < s.n → s.a = some ⟨g, o, none⟩ → g ≠ b := fun g o h0 e => by
  obtain ⟨g', o', e', hl, _⟩ := h.at_ h0
  rw [e] at e'
  cases e'
  omega
theorem wrap8 (x : Int) : IntKind.u8.wrap x = x % 256 := rfl
def Kd.st (d : Kd) : W.St := ⟨d.k, d.hid, d.G⟩
set_option maxHeartbeats 1600000 in
theorem fence_any (w0 : World) (d : Kd) (w : World) (h : LkF F w0 d w) (g off : Nat) (z : W.Oz) (hz : OzAt g off z w0) :
    Calls Tryd.prog 67 #[.pointer (some ⟨d.kb, 0, none⟩), .pointer (some ⟨g, off, none⟩)] w fun e w' => e = .returned (.tuple #[]) ∧ LkF F w0 { d with k := (W.fence d.b z d.st).k } w' := by
  obtain ⟨o, c8, c9, _, _, _⟩ := hz.below h.bl
  have gl := o.lt
  have gk : g ≠ d.kb := by have := hz.o.lt; have := h.nk; omega
  have k7 := h.k.c 7 (by decide)
  have k8 := h.k.c 8 (by decide)
  have kl := h.k.lt
  have fz := h.k.fz
  simp only [Kd.f] at k7 k8
  have X := h.setK (W.o8 d.k (W.a8 (z.o.pd % 256) 3))
  unfold W.fence Kd.st W.a8 W.o8 at *
  dsimp only
  have HX : Hid (_ ∧ _) := ⟨h, X⟩
  clear X h hz o
  cases hq : (bits BinOp.and IntKind.u8 (bits BinOp.and IntKind.u8 d.b.t (z.o.sc % 256)) 3 != 0)
  · go_enter Tryd.func67, Tryd.ntmps67
    go_wp2
    go_region
    go_wp2
    go_end0
    exact ⟨rfl, HX.out.1.below (Below.refl _ _).drew⟩
  · go_enter Tryd.func67, Tryd.ntmps67
    go_wp2
    go_region
    go_wp2
    go_region
    go_wp2
    go_end0
    exact ⟨rfl, HX.out.2.below (Below.refl _ _).drew.drew⟩
end Go.Proofs.YtibohlbkkaghkaaDoor
