/- Texts in one: HartE7, HartR1, HartH1. -/
import Derived.Deep.RegionHeld3
import Derived.Deep.RegionWith
import Derived.Test.YteilpehekabccabGreatDoorJ06
import Derived.Test.YteilpehekabccabGreatDoorJ21
import Derived.Test.YteilpehekabccabGreatDoorJ22
import Derived.Test.YteilpehekabccabGreatDoorJ23
import Derived.Test.YteilpehekabccabGreatDoorJ24
/- Registers of control are read and written, way G. -/
namespace Go.Proofs.YteilpehekabccabGreatDoor
open Go.ChangeShapes Go.WideShapes Go.ChangeAt Go.RowKit
set_option linter.unusedVariables false
set_option linter.unusedSimpArgs false

set_option maxHeartbeats 1600000 in
theorem ctl_G (b : Nat) (S : W.St) (i : W.I) (a : Int) (k : W.IOk i) (w : World) (h : SAt b S w) (hg : W.getB S.h.G i.csr = true) (h1 : (i.csr == 3860) = false) (h2 : (i.csr == 836) = true) (hw : W.writes i = true) : Calls Tryz.prog 79 #[.pointer (some ⟨b, 0, none⟩), .agg (inCells i), .int .u32 a] w fun x w' => x = .returned (.tuple #[]) ∧ SAt b (W.sret (W.sput { ({ S with w := { S.w with ld := bits .and .u32 S.r.ld 8 }, h := { S.h with G := W.bell S.h.G (bits .and .u32 S.r.ld 8 != 0) } } : W.St) with h := { ({ S with w := { S.w with ld := bits .and .u32 S.r.ld 8 }, h := { S.h with G := W.bell S.h.G (bits .and .u32 S.r.ld 8 != 0) } } : W.St).h with G := W.fset ({ S with w := { S.w with ld := bits .and .u32 S.r.ld 8 }, h := { S.h with G := W.bell S.h.G (bits .and .u32 S.r.ld 8 != 0) } } : W.St).h.G i.csr (W.becomes i.op i.imm (bits .and .u32 S.r.ld 8) a) } } i.rd (bits .and .u32 S.r.ld 8)) W.Ef.no) w' ∧ w.grownBy w' (some b) := by
  have c := Cx.start i h
  have rd0 := k.rd0
  have rd1 := k.rd1
  obtain ⟨op, rd, rs1, rs2, csr, imm, aq, rl⟩ := i
  dsimp only at *
  unfold inCells at c ⊢
  go_enter Tryz.func79, Tryz.ntmps79
  go_wp2_with (fail)
  generalize hW : World.alloc w _ = W0 at *
  generalize w.heap.size = g at *
  clear hW k
  obtain ⟨i0, i1, i2, i3, i4, i5, i6, i7⟩ := c.cells
  have hz := c.s.z
  have hlt := c.s.lt
  have hl2 := c.lt
  go_region_with (go_at_call 98; refine (get_s b S csr W0.drew c.drew.s).mono ?_; rw [hg]; rintro e w1 ⟨rfl, rfl⟩)
  replace c := c.drew
  generalize World.drew W0 = W1 at *
  clear i0 i1 i2 i3 i4 i5 i6 i7 hz hlt hl2
  obtain ⟨i0, i1, i2, i3, i4, i5, i6, i7⟩ := c.cells
  have hz := c.s.z
  have hlt := c.s.lt
  have hl2 := c.lt
  have e50 : W1.cell? ⟨b, 50, none⟩ = some (.int .u32 S.r.ld) := c.s.cr 5 rfl
  have e63 : W1.cell? ⟨b, 63, none⟩ = some (.int .u32 S.w.ld) := c.s.cw 5 rfl
  go_wp2_with (fail)
  replace c := c.step (c.s.pld (bits .and .u32 S.r.ld 8)) (gset _ _ _ _)
  clear e50 e63
  refine (bell_s b _ _ _ c.s).mono ?_
  rintro e w1 ⟨rfl, h1, g1⟩
  replace c := c.step h1 g1
  clear i0 i1 i2 i3 i4 i5 i6 i7 hz hlt hl2
  obtain ⟨i0, i1, i2, i3, i4, i5, i6, i7⟩ := c.cells
  have hz := c.s.z
  have hlt := c.s.lt
  have hl2 := c.lt
  go_wp2_with (fail)
  refine (writes_any ⟨op, rd, rs1, rs2, csr, imm, aq, rl⟩ _).mono ?_
  rintro e w1 ⟨rfl, hb⟩
  rw [hw]
  replace c := c.below hb
  clear i0 i1 i2 i3 i4 i5 i6 i7 hz hlt hl2
  obtain ⟨i0, i1, i2, i3, i4, i5, i6, i7⟩ := c.cells
  have hz := c.s.z
  have hlt := c.s.lt
  have hl2 := c.lt
  go_wp2_with (fail)
  have hbec := fun v w => becomes_any ⟨op, rd, rs1, rs2, csr, imm, aq, rl⟩ v a w
  have cD := c.drew
  go_region_with (first
    | (go_at_call 101; refine (hbec _ _).mono ?_; rintro e w2 ⟨rfl, hb⟩; have c2 := cD.below hb; clear i0 i1 i2 i3 i4 i5 i6 i7 hz hlt hl2; obtain ⟨i0, i1, i2, i3, i4, i5, i6, i7⟩ := c2.cells; have hz := c2.s.z; have hlt := c2.s.lt; have hl2 := c2.lt; have hs := fun v => set_s b _ csr v _ c2.s)
    | (go_at_call 100; refine (hs _).mono ?_; rintro e w3 ⟨rfl, h3, g3⟩))
  all_goals
    replace c := c2.step h3 g3
    clear cD c2 hs hbec
    clear i0 i1 i2 i3 i4 i5 i6 i7 hz hlt hl2
    obtain ⟨i0, i1, i2, i3, i4, i5, i6, i7⟩ := c.cells
    have hz := c.s.z
    have hlt := c.s.lt
    have hl2 := c.lt
    go_wp2_with (fail)
    have hp := fun v => put_any b _ rd v rd0 rd1 _ c.drew.s
    go_region_with (go_at_call 71; refine (hp _).mono ?_; rintro e w1 ⟨rfl, h1, g1⟩)
    clear hp
    replace c := c.drew.step h1 g1
    clear i0 i1 i2 i3 i4 i5 i6 i7 hz hlt hl2
    obtain ⟨i0, i1, i2, i3, i4, i5, i6, i7⟩ := c.cells
    have hz := c.s.z
    have hlt := c.s.lt
    have hl2 := c.lt
    go_wp2_with (fail)
    refine (retire_any b _ W.Ef.no _ c.s).mono ?_
    rintro e w1 ⟨rfl, h1, g1⟩
    replace c := c.step h1 g1
    clear i0 i1 i2 i3 i4 i5 i6 i7 hz hlt hl2
    obtain ⟨i0, i1, i2, i3, i4, i5, i6, i7⟩ := c.cells
    have hz := c.s.z
    have hlt := c.s.lt
    have hl2 := c.lt
    go_wp2
    go_end0
    exact ⟨rfl, c.s, c.gr⟩
end Go.Proofs.YteilpehekabccabGreatDoor

/- What User may not do. -/
namespace Go.Proofs.YteilpehekabccabGreatDoor
open Go.ChangeShapes Go.WideShapes Go.ChangeAt Go.RowKit
set_option linter.unusedVariables false
set_option linter.unusedSimpArgs false

theorem mode_r (b : Nat) (S : W.St) (m : Int) (hm : S.h.G.m = m) (w : World) (h : SAt b S w) : Calls Tryz.prog 62 #[.pointer (some ⟨b, 0, none⟩)] w fun x w' => x = .returned (.int .i64 m) ∧ w = w' := by
  subst hm
  exact mode_s b S w h

set_option maxHeartbeats 1600000 in
theorem rule_any (b : Nat) (S : W.St) (op : Int) (w : World) (h : SAt b S w) : Calls Tryz.prog 78 #[.pointer (some ⟨b, 0, none⟩), .int .i64 op] w fun x w' => x = .returned (.tuple #[]) ∧ SAt b (W.srule S op) w' ∧ w.grownBy w' (some b) := by
  have hlt := h.lt
  have hz := h.z
  unfold W.srule
  cases h0 : (S.h.G.m == 0)
  case true =>
    go_enter Tryz.func78, Tryz.ntmps78
    go_wp2_with (first
      | (go_at_call 62; refine (mode_s b S _ h).mono ?_; rintro e w1 ⟨rfl, rfl⟩)
      | (go_at_call 35; refine (illegal_any b S _ h).mono ?_; rintro e w1 ⟨rfl, h1, g1⟩))
    go_end0
    exact ⟨rfl, h1, g1⟩
  cases h1 : (op == 42)
  case true =>
    go_enter Tryz.func78, Tryz.ntmps78
    go_wp2_with (first
      | (go_at_call 62; refine (mode_s b S _ h).mono ?_; rintro e w1 ⟨rfl, rfl⟩)
      | fail)
    refine (retire_any b S W.Ef.no _ h).mono ?_
    rintro e w1 ⟨rfl, h2, g2⟩
    clear hlt hz
    have hlt := h2.lt
    have hz := h2.z
    go_wp2_with (fail)
    refine (return_s b _ _ h2).mono ?_
    rintro e w2 ⟨rfl, h3, g3⟩
    clear hlt hz
    have hlt := h3.lt
    have hz := h3.z
    have c12 : w2.cell? ⟨b, 12, none⟩ = some (.int .u32 ((S.h.pc + 4) % 4294967296)) := h3.ch 1 rfl
    go_wp2
    go_end0
    exact ⟨rfl, h3.ppc _, gtrans g2 (gtrans g3 (gset _ _ _ _))⟩
  cases h2 : (op == 43)
  case true =>
    go_enter Tryz.func78, Tryz.ntmps78
    go_wp2_with (first
      | (go_at_call 62; refine (mode_s b S _ h).mono ?_; rintro e w1 ⟨rfl, rfl⟩)
      | (go_at_call 72; refine (retire_any b S { W.Ef.no with wt := true } _ h).mono ?_; rintro e w1 ⟨rfl, h1, g1⟩))
    go_end0
    exact ⟨rfl, h1, g1⟩
  go_enter Tryz.func78, Tryz.ntmps78
  go_wp2_with (first
    | (go_at_call 62; refine (mode_s b S _ h).mono ?_; rintro e w1 ⟨rfl, rfl⟩)
    | (go_at_call 72; refine (retire_any b S { W.Ef.no with sf := true } _ h).mono ?_; rintro e w1 ⟨rfl, h1, g1⟩))
  go_end0
  exact ⟨rfl, h1, g1⟩
end Go.Proofs.YteilpehekabccabGreatDoor

/- Ways through the instruction: order, modes and registers of control; what is reckoned. -/
namespace Go.Proofs.YteilpehekabccabGreatDoor
open Go.ChangeShapes Go.WideShapes Go.ChangeAt Go.RowKit
set_option linter.unusedVariables false
set_option linter.unusedSimpArgs false

theorem ctl_any (b : Nat) (S : W.St) (i : W.I) (a : Int) (k : W.IOk i) (w : World) (h : SAt b S w) : Calls Tryz.prog 79 #[.pointer (some ⟨b, 0, none⟩), .agg (inCells i), .int .u32 a] w fun x w' => x = .returned (.tuple #[]) ∧ SAt b (W.sctl S i a) w' ∧ w.grownBy w' (some b) := by
  unfold W.sctl W.sctl2
  cases hg : W.getB S.h.G i.csr
  · exact ctl_A b S i a k w h hg
  cases h1 : (i.csr == 3860)
  · cases h2 : (i.csr == 836)
    · cases hw : W.writes i
      · exact ctl_D b S i a k w h hg h1 h2 hw
      · exact ctl_E b S i a k w h hg h1 h2 hw
    · cases hw : W.writes i
      · exact ctl_F b S i a k w h hg h1 h2 hw
      · exact ctl_G b S i a k w h hg h1 h2 hw
  · have h2 : (i.csr == 836) = false := by have := beq_iff_eq.1 h1; rw [this]; rfl
    cases hw : W.writes i
    · rw [h2]; exact ctl_C b S i a k w h hg h1 h2 hw
    · exact ctl_B b S i a k w h hg h1 hw
end Go.Proofs.YteilpehekabccabGreatDoor
