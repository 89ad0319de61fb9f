/- Spans: meets, inside. -/
import Derived.Test.YtibohlbkkaghkaaDoorPpoA
namespace Go.Proofs.YtibohlbkkaghkaaDoor
open Go.ChangeShapes Go.WideShapes Go.ChangeAt Go.RowKit
set_option linter.unusedVariables false
set_option linter.unusedSimpArgs false

theorem bcell {W w1 : World} (hb : Below W.heap.size W w1) : (∀ b o, b < W.heap.size → w1.cell? ⟨b, o, none⟩ = W.cell? ⟨b, o, none⟩) ∧ (∀ b o, b < W.heap.size → w1.frozen? ⟨b, o, none⟩ = W.frozen? ⟨b, o, none⟩) :=
  ⟨fun b o h => hb.cell (p := ⟨b, o, none⟩) h, fun b o h => hb.frozen (p := ⟨b, o, none⟩) h⟩
set_option maxHeartbeats 1600000 in
theorem meets_any (s o : W.Sp) (hs : W.SpOk s) (ho : W.SpOk o) (w : World) : Calls Tryd.prog 68 #[spV s, spV o] w fun e w' => e = .returned (.bool (W.meets s o)) ∧ Below w.heap.size w w' := by
  have h1 := fun w => has_any s o.f hs ho.f0 ho.f1 w
  have h2 := fun w => has_any o s.f ho hs.f0 hs.f1 w
  have z1 := hs.s0
  have z2 := ho.s0
  obtain ⟨f, z⟩ := s
  obtain ⟨g, y⟩ := o
  clear hs ho
  unfold spV W.meets at *
  dsimp only at *
  generalize W.has ⟨f, z⟩ g = p at *
  generalize W.has ⟨g, y⟩ f = q at *
  have HH : Hid (_ ∧ _) := ⟨h1, h2⟩
  clear h1 h2
  cases e1 : decide (0 < y) <;> cases e2 : decide (0 < z) <;> cases p <;> cases q
  all_goals
    go_enter Tryd.func68, Tryd.ntmps68
    go_wp2_with (fail)
    refine (HH.out.1 _).mono ?_
    rintro e w1 ⟨rfl, b1⟩
    obtain ⟨hc, hf⟩ := bcell b1
    have hz := b1.size
    simp at hz
    have B1 : Below w.heap.size w w1 := ((((Below.refl _ _).alloc (Nat.le_refl _) _).alloc (by simp) _).trans (b1.mono (by simp; omega)))
    have l0 : w.heap.size < w1.heap.size := by omega
    have l1 : w.heap.size + 1 < w1.heap.size := by omega
    go_wp2_with (fail)
    first
    | (go_ret
       exact ⟨rfl, B1⟩)
    | (refine (HH.out.2 _).mono ?_
       rintro e w2 ⟨rfl, b2⟩
       have c2 := (bcell b2).1
       go_wp2
       go_ret
       exact ⟨rfl, B1.trans (b2.mono B1.size)⟩)
theorem inside_any (s o : W.Sp) (hs : W.SpOk s) (ho : W.SpOk o) (w : World) : Calls Tryd.prog 79 #[spV s, spV o] w fun e w' => e = .returned (.bool (W.inside s o)) ∧ Below w.heap.size w w' := by
  obtain ⟨a1, a2, a3, a4⟩ := hs
  obtain ⟨b1, b2, b3, b4⟩ := ho
  obtain ⟨f, z⟩ := s
  obtain ⟨g, y⟩ := o
  unfold spV W.inside
  dsimp only at *
  cases e1 : (y == 4294967296)
  · go_enter Tryd.func79, Tryd.ntmps79
    go_wp2
    go_ret
    exact ⟨rfl, ((Below.refl _ _).alloc (Nat.le_refl _) _).alloc (by simp) _⟩
  · go_enter Tryd.func79, Tryd.ntmps79
    go_wp2
    go_ret
    exact ⟨rfl, ((Below.refl _ _).alloc (Nat.le_refl _) _).alloc (by simp) _⟩
end Go.Proofs.YtibohlbkkaghkaaDoor
