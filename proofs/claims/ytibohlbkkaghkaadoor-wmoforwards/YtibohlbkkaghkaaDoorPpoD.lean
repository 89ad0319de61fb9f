/- Spans: share; the bytes of an operation. -/
import Derived.Test.YtibohlbkkaghkaaDoorPpoC
import Derived.Deep.DrawnRows
namespace Go.Proofs.YtibohlbkkaghkaaDoor
open Go.ChangeShapes Go.WideShapes Go.ChangeAt Go.RowKit
set_option linter.unusedVariables false
set_option linter.unusedSimpArgs false

set_option maxHeartbeats 1600000 in
theorem share_any (a b c : W.Sp) (ha : W.SpOk a) (hb : W.SpOk b) (hc : W.SpOk c) (w : World) :
    Calls Tryd.prog 78 #[spV a, spV b, spV c] w fun e w' => e = .returned (.bool (W.share a b c)) ∧ Below w.heap.size w w' := by
  have hmf : ∀ (fn : Fn) (first cap : Array Value) (w : World), (Instr.makeFunc fn first cap).run Tryd.prog w = .ok (.func fn first cap) w := fun _ _ _ _ => rfl
  have W0 : ∀ T : TypeId, SpAt w.heap.size a (((w.alloc (.cells #[.int .u32 a.f, .int .u64 a.s] T)).alloc (.cells #[.int .u32 b.f, .int .u64 b.s] T)).alloc (.cells #[.int .u32 c.f, .int .u64 c.s] T)) ∧ SpAt (w.heap.size + 1) b (((w.alloc (.cells #[.int .u32 a.f, .int .u64 a.s] T)).alloc (.cells #[.int .u32 b.f, .int .u64 b.s] T)).alloc (.cells #[.int .u32 c.f, .int .u64 c.s] T)) ∧ SpAt (w.heap.size + 1 + 1) c (((w.alloc (.cells #[.int .u32 a.f, .int .u64 a.s] T)).alloc (.cells #[.int .u32 b.f, .int .u64 b.s] T)).alloc (.cells #[.int .u32 c.f, .int .u64 c.s] T)) ∧ Below w.heap.size w (((w.alloc (.cells #[.int .u32 a.f, .int .u64 a.s] T)).alloc (.cells #[.int .u32 b.f, .int .u64 b.s] T)).alloc (.cells #[.int .u32 c.f, .int .u64 c.s] T)) := fun T =>
    ⟨⟨by (first | (simp; done) | (simp; omega)), by simp [go_sem], by simp [go_sem]⟩, ⟨by (first | (simp; done) | (simp; omega)), by simp [go_sem], by simp [go_sem]⟩, ⟨by simp, by simp [go_sem], by simp [go_sem]⟩, (((Below.refl _ _).alloc (Nat.le_refl _) _).alloc (by simp) _).alloc (by simp; omega) _⟩
  have W1 := W0 114
  clear W0
  have k1 := fun (pa pb pc : Nat) (w : World) A B C => share1_any a.f ha.f0 ha.f1 pa pb pc a b c ha hb hc w A B C
  have k2 := fun (pa pb pc : Nat) (w : World) A B C => share1_any b.f hb.f0 hb.f1 pa pb pc a b c ha hb hc w A B C
  have k3 := fun (pa pb pc : Nat) (w : World) A B C => share1_any c.f hc.f0 hc.f1 pa pb pc a b c ha hb hc w A B C
  unfold W.share spV at *
  generalize W.inn a b c a.f = p at *
  generalize W.inn a b c b.f = q at *
  generalize W.inn a b c c.f = r at *
  have HH : Hid (_ ∧ _ ∧ _) := ⟨k1, k2, k3⟩
  clear k1 k2 k3 ha hb hc
  cases p
  case' false => cases q
  all_goals
    go_enter Tryd.func78, Tryd.ntmps78
    have HW : Hid _ := W1
    obtain ⟨⟨l1, A0, A1⟩, ⟨l2, B0, B1⟩, ⟨l3, C0, C1⟩, bw⟩ := W1
    go_wp2_with (fail)
    generalize World.alloc (World.alloc (World.alloc w _) _) _ = W3 at *
    refine (HH.out.1 _ _ _ _ HW.out.1 HW.out.2.1 HW.out.2.2.1).mono ?_
    rintro e w1 ⟨rfl, b1⟩
    have X1 := HW.out.1.below b1
    have X2 := HW.out.2.1.below b1
    have X3 := HW.out.2.2.1.below b1
    have B1' := bw.trans (b1.mono bw.size)
    clear A0 A1 B0 B1 C0 C1 bw b1 HW l1 l2 l3
  · have HX : Hid _ := And.intro X1 (And.intro X2 X3)
    obtain ⟨l2, B0, B1⟩ := X2
    clear X1 X3
    go_wp2_with (fail)
    refine (HH.out.2.1 _ _ _ _ HX.out.1 HX.out.2.1 HX.out.2.2).mono ?_
    rintro e w2 ⟨rfl, b2⟩
    have X1 := HX.out.1.below b2
    have X2 := HX.out.2.1.below b2
    have X3 := HX.out.2.2.below b2
    have B2' := B1'.trans (b2.mono B1'.size)
    clear HX B0 B1 b2 B1' l2
    have HX : Hid _ := And.intro X1 (And.intro X2 X3)
    obtain ⟨l3, C0, C1⟩ := X3
    clear X1 X2
    go_wp2_with (fail)
    refine (HH.out.2.2 _ _ _ _ HX.out.1 HX.out.2.1 HX.out.2.2).mono ?_
    rintro e w3 ⟨rfl, b3⟩
    go_wp2
    go_ret
    exact ⟨rfl, B2'.trans (b3.mono B2'.size)⟩
  · have HX : Hid _ := And.intro X1 (And.intro X2 X3)
    obtain ⟨l2, B0, B1⟩ := X2
    clear X1 X3
    go_wp2_with (fail)
    refine (HH.out.2.1 _ _ _ _ HX.out.1 HX.out.2.1 HX.out.2.2).mono ?_
    rintro e w2 ⟨rfl, b2⟩
    go_wp2
    go_ret
    exact ⟨rfl, B1'.trans (b2.mono B1'.size)⟩
  · go_wp2
    go_ret
    exact ⟨rfl, B1'⟩
end Go.Proofs.YtibohlbkkaghkaaDoor
