/- Texts in one: HartE5. -/
import Derived.Deep.RegionHeld3
import Derived.Deep.RegionWith
import Derived.Test.YteilpehekabccabGreatDoorJ06
/- Registers of control are read and written, way E. -/
namespace Go.Proofs.YteilpehekabccabGreatDoor
open Go.ChangeShapes Go.WideShapes Go.ChangeAt Go.RowKit
set_option linter.unusedVariables false
set_option linter.unusedSimpArgs false

set_option maxHeartbeats 1600000 in
theorem ctl_E (b : Nat) (S : W.St) (i : W.I) (a : Int) (k : W.IOk i) (w : World) (h : SAt b S w) (hg : W.getB S.h.G i.csr = true) (h1 : (i.csr == 3860) = false) (h2 : (i.csr == 836) = false) (hw : W.writes i = true) : Calls Tryz.prog 79 #[.pointer (some ⟨b, 0, none⟩), .agg (inCells i), .int .u32 a] w fun x w' => x = .returned (.tuple #[]) ∧ SAt b (W.sret (W.sput { (S : W.St) with h := { (S : W.St).h with G := W.fset (S : W.St).h.G i.csr (W.becomes i.op i.imm (W.getV S.h.G i.csr) a) } } i.rd (W.getV S.h.G i.csr)) W.Ef.no) w' ∧ w.grownBy w' (some b) := by
  have c := Cx.start i h
  have rd0 := k.rd0
  have rd1 := k.rd1
  obtain ⟨op, rd, rs1, rs2, csr, imm, aq, rl⟩ := i
  dsimp only at *
  unfold inCells at c ⊢
  go_enter Tryz.func79, Tryz.ntmps79
  go_wp2_with (fail)
  generalize hW : World.alloc w _ = W0 at *
  generalize w.heap.size = g at *
  clear hW k
  obtain ⟨i0, i1, i2, i3, i4, i5, i6, i7⟩ := c.cells
  have hz := c.s.z
  have hlt := c.s.lt
  have hl2 := c.lt
  go_region_with (go_at_call 98; refine (get_s b S csr W0.drew c.drew.s).mono ?_; rw [hg]; rintro e w1 ⟨rfl, rfl⟩)
  replace c := c.drew
  generalize World.drew W0 = W1 at *
  clear i0 i1 i2 i3 i4 i5 i6 i7 hz hlt hl2
  obtain ⟨i0, i1, i2, i3, i4, i5, i6, i7⟩ := c.cells
  have hz := c.s.z
  have hlt := c.s.lt
  have hl2 := c.lt
  go_wp2_with (fail)
  refine (writes_any ⟨op, rd, rs1, rs2, csr, imm, aq, rl⟩ _).mono ?_
  rintro e w1 ⟨rfl, hb⟩
  rw [hw]
  replace c := c.below hb
  clear i0 i1 i2 i3 i4 i5 i6 i7 hz hlt hl2
  obtain ⟨i0, i1, i2, i3, i4, i5, i6, i7⟩ := c.cells
  have hz := c.s.z
  have hlt := c.s.lt
  have hl2 := c.lt
  go_wp2_with (fail)
  have hbec := fun v w => becomes_any ⟨op, rd, rs1, rs2, csr, imm, aq, rl⟩ v a w
  have cD := c.drew
  go_region_with (first
    | (go_at_call 101; refine (hbec _ _).mono ?_; rintro e w2 ⟨rfl, hb⟩; have c2 := cD.below hb; clear i0 i1 i2 i3 i4 i5 i6 i7 hz hlt hl2; obtain ⟨i0, i1, i2, i3, i4, i5, i6, i7⟩ := c2.cells; have hz := c2.s.z; have hlt := c2.s.lt; have hl2 := c2.lt; have hs := fun v => set_s b _ csr v _ c2.s)
    | (go_at_call 100; refine (hs _).mono ?_; rintro e w3 ⟨rfl, h3, g3⟩))
  all_goals
    replace c := c2.step h3 g3
    clear cD c2 hs hbec
    clear i0 i1 i2 i3 i4 i5 i6 i7 hz hlt hl2
    obtain ⟨i0, i1, i2, i3, i4, i5, i6, i7⟩ := c.cells
    have hz := c.s.z
    have hlt := c.s.lt
    have hl2 := c.lt
    go_wp2_with (fail)
    have hp := fun v => put_any b _ rd v rd0 rd1 _ c.drew.s
    go_region_with (go_at_call 71; refine (hp _).mono ?_; rintro e w1 ⟨rfl, h1, g1⟩)
    clear hp
    replace c := c.drew.step h1 g1
    clear i0 i1 i2 i3 i4 i5 i6 i7 hz hlt hl2
    obtain ⟨i0, i1, i2, i3, i4, i5, i6, i7⟩ := c.cells
    have hz := c.s.z
    have hlt := c.s.lt
    have hl2 := c.lt
    go_wp2_with (fail)
    refine (retire_any b _ W.Ef.no _ c.s).mono ?_
    rintro e w1 ⟨rfl, h1, g1⟩
    replace c := c.step h1 g1
    clear i0 i1 i2 i3 i4 i5 i6 i7 hz hlt hl2
    obtain ⟨i0, i1, i2, i3, i4, i5, i6, i7⟩ := c.cells
    have hz := c.s.z
    have hlt := c.s.lt
    have hl2 := c.lt
    go_wp2
    go_end0
    exact ⟨rfl, c.s, c.gr⟩
end Go.Proofs.YteilpehekabccabGreatDoor
