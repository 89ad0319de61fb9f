/- Spans: share. -/
import Derived.Test.YtibohlbkkaghkaaDoorPpoB
namespace Go.Proofs.YtibohlbkkaghkaaDoor
open Go.ChangeShapes Go.WideShapes Go.ChangeAt Go.RowKit
set_option linter.unusedVariables false
set_option linter.unusedSimpArgs false

structure SpAt (b : Nat) (s : W.Sp) (w : World) : Prop where
  lt : b < w.heap.size
  c0 : w.cell? ⟨b, 0, none⟩ = some (.int .u32 s.f)
  c1 : w.cell? ⟨b, 1, none⟩ = some (.int .u64 s.s)
theorem SpAt.below {b : Nat} {s : W.Sp} {w w' : World} (h : SpAt b s w) (hb : Below w.heap.size w w') : SpAt b s w' :=
  ⟨Nat.lt_of_lt_of_le h.lt hb.size, (hb.cell (p := ⟨b, 0, none⟩) h.lt).trans h.c0, (hb.cell (p := ⟨b, 1, none⟩) h.lt).trans h.c1⟩
set_option maxHeartbeats 1600000 in
theorem share1_any (x : Int) (x0 : 0 ≤ x) (x1 : x < 4294967296) (pa pb pc : Nat) (a b c : W.Sp) (ha : W.SpOk a) (hb : W.SpOk b) (hc : W.SpOk c) (w : World) (A : SpAt pa a w) (B : SpAt pb b w) (C : SpAt pc c w) :
    Calls Tryd.prog 80 #[.int .u32 x, .pointer (some ⟨pa, 0, none⟩), .pointer (some ⟨pb, 0, none⟩), .pointer (some ⟨pc, 0, none⟩)] w fun e w' => e = .returned (.bool (W.inn a b c x)) ∧ Below w.heap.size w w' := by
  have h1 := fun w => has_any a x ha x0 x1 w
  have h2 := fun w => has_any b x hb x0 x1 w
  have h3 := fun w => has_any c x hc x0 x1 w
  obtain ⟨la, A0, A1⟩ := A
  have B' : Hid (SpAt pb b w) := B
  have C' : Hid (SpAt pc c w) := C
  clear B C ha hb hc
  unfold W.inn spV at *
  generalize W.has a x = p at *
  generalize W.has b x = q at *
  generalize W.has c x = r at *
  have HH : Hid (_ ∧ _ ∧ _) := ⟨h1, h2, h3⟩
  clear h1 h2 h3
  cases p
  · go_enter Tryd.func80, Tryd.ntmps80
    go_wp2_with (fail)
    refine (HH.out.1 _).mono ?_
    rintro e w1 ⟨rfl, b1⟩
    go_wp2
    go_ret
    exact ⟨rfl, b1⟩
  · cases q
    · go_enter Tryd.func80, Tryd.ntmps80
      go_wp2_with (fail)
      refine (HH.out.1 _).mono ?_
      rintro e w1 ⟨rfl, b1⟩
      obtain ⟨lb, B0, B1⟩ := B'.out.below b1
      go_wp2_with (fail)
      refine (HH.out.2.1 _).mono ?_
      rintro e w2 ⟨rfl, b2⟩
      go_wp2
      go_ret
      exact ⟨rfl, b1.trans (b2.mono b1.size)⟩
    · go_enter Tryd.func80, Tryd.ntmps80
      go_wp2_with (fail)
      refine (HH.out.1 _).mono ?_
      rintro e w1 ⟨rfl, b1⟩
      obtain ⟨lb, B0, B1⟩ := B'.out.below b1
      go_wp2_with (fail)
      refine (HH.out.2.1 _).mono ?_
      rintro e w2 ⟨rfl, b2⟩
      have b12 := b1.trans (b2.mono b1.size)
      obtain ⟨lc, C0, C1⟩ := C'.out.below b12
      clear B0 B1
      go_wp2_with (fail)
      refine (HH.out.2.2 _).mono ?_
      rintro e w3 ⟨rfl, b3⟩
      go_wp2
      go_ret
      exact ⟨rfl, b12.trans (b3.mono b12.size)⟩
end Go.Proofs.YtibohlbkkaghkaaDoor
