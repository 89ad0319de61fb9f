/- Texts in one: HartH2, HartH3, HartI1, HartI2, HartI3. -/
import Derived.Deep.RegionHeld3
import Derived.Deep.RegionWith
import Derived.Test.YteilpehekabccabGreatDoorJ06
import Derived.Test.YteilpehekabccabGreatDoorJ09
import Derived.Test.YteilpehekabccabGreatDoorJ13
import Derived.Test.YteilpehekabccabGreatDoorJ21
import Derived.Test.YteilpehekabccabGreatDoorJ25
/- What has to do with order, modes and registers of control. -/
namespace Go.Proofs.YteilpehekabccabGreatDoor
open Go.ChangeShapes Go.WideShapes Go.ChangeAt Go.RowKit
set_option linter.unusedVariables false
set_option linter.unusedSimpArgs false

set_option maxHeartbeats 1600000 in
theorem gov_38 (b : Nat) (S : W.St) (i : W.I) (a : Int) (k : W.IOk i) (w : World) (h : SAt b S w) (h38 : (i.op == 38) = true) : Calls Tryz.prog 53 #[.pointer (some ⟨b, 0, none⟩), .agg (inCells i), .int .u32 a] w fun x w' => x = .returned (.tuple #[]) ∧ SAt b (W.sret S { W.Ef.no with k := 4, vl := i.imm }) w' ∧ w.grownBy w' (some b) := by
  have c := Cx.start i h
  obtain ⟨op, rd, rs1, rs2, csr, imm, aq, rl⟩ := i
  dsimp only at *
  unfold inCells at c ⊢
  have hlt := h.lt
  go_enter Tryz.func53, Tryz.ntmps53
  go_wp2_with (fail)
  generalize World.alloc w _ = W0 at *
  generalize w.heap.size = g at *
  refine (retire_any b _ ⟨4, 0, 0, imm, false, false, false⟩ _ c.s).mono ?_
  rintro e w1 ⟨rfl, h1, g1⟩
  replace c := c.step h1 g1
  go_wp2
  go_end0
  exact ⟨rfl, c.s, c.gr⟩

set_option maxHeartbeats 1600000 in
theorem gov_39 (b : Nat) (S : W.St) (i : W.I) (a : Int) (k : W.IOk i) (w : World) (h : SAt b S w) (h38 : (i.op == 38) = false) (h39 : (i.op == 39) = true) : Calls Tryz.prog 53 #[.pointer (some ⟨b, 0, none⟩), .agg (inCells i), .int .u32 a] w fun x w' => x = .returned (.tuple #[]) ∧ SAt b (W.sret S { W.Ef.no with fi := true }) w' ∧ w.grownBy w' (some b) := by
  have c := Cx.start i h
  obtain ⟨op, rd, rs1, rs2, csr, imm, aq, rl⟩ := i
  dsimp only at *
  unfold inCells at c ⊢
  have hlt := h.lt
  go_enter Tryz.func53, Tryz.ntmps53
  go_wp2_with (fail)
  generalize World.alloc w _ = W0 at *
  generalize w.heap.size = g at *
  refine (retire_any b _ ⟨0, 0, 0, 0, true, false, false⟩ _ c.s).mono ?_
  rintro e w1 ⟨rfl, h1, g1⟩
  replace c := c.step h1 g1
  go_wp2
  go_end0
  exact ⟨rfl, c.s, c.gr⟩

set_option maxHeartbeats 1600000 in
theorem gov_40 (b : Nat) (S : W.St) (i : W.I) (a : Int) (k : W.IOk i) (w : World) (h : SAt b S w) (h38 : (i.op == 38) = false) (h39 : (i.op == 39) = false) (h40 : (i.op == 40) = true) : Calls Tryz.prog 53 #[.pointer (some ⟨b, 0, none⟩), .agg (inCells i), .int .u32 a] w fun x w' => x = .returned (.tuple #[]) ∧ SAt b (W.strap S (W.callC S.h.G.m) 0) w' ∧ w.grownBy w' (some b) := by
  have c := Cx.start i h
  obtain ⟨op, rd, rs1, rs2, csr, imm, aq, rl⟩ := i
  dsimp only at *
  unfold inCells at c ⊢
  have hlt := h.lt
  go_enter Tryz.func53, Tryz.ntmps53
  go_wp2_with (fail)
  generalize World.alloc w _ = W0 at *
  generalize w.heap.size = g at *
  refine (mode_s b _ _ c.s).mono ?_
  rintro e w1 ⟨rfl, rfl⟩
  go_wp2_with (fail)
  refine (callC_any _ _).mono ?_
  rintro e w1 ⟨rfl, rfl⟩
  go_wp2_with (fail)
  refine (htrap_any b _ _ _ _ c.s).mono ?_
  rintro e w1 ⟨rfl, h1, g1⟩
  replace c := c.step h1 g1
  go_wp2
  go_end0
  exact ⟨rfl, c.s, c.gr⟩

set_option maxHeartbeats 1600000 in
theorem gov_41 (b : Nat) (S : W.St) (i : W.I) (a : Int) (k : W.IOk i) (w : World) (h : SAt b S w) (h38 : (i.op == 38) = false) (h39 : (i.op == 39) = false) (h40 : (i.op == 40) = false) (h41 : (i.op == 41) = true) : Calls Tryz.prog 53 #[.pointer (some ⟨b, 0, none⟩), .agg (inCells i), .int .u32 a] w fun x w' => x = .returned (.tuple #[]) ∧ SAt b (W.strap S 3 0) w' ∧ w.grownBy w' (some b) := by
  have c := Cx.start i h
  obtain ⟨op, rd, rs1, rs2, csr, imm, aq, rl⟩ := i
  dsimp only at *
  unfold inCells at c ⊢
  have hlt := h.lt
  go_enter Tryz.func53, Tryz.ntmps53
  go_wp2_with (fail)
  generalize World.alloc w _ = W0 at *
  generalize w.heap.size = g at *
  refine (htrap_any b _ _ _ _ c.s).mono ?_
  rintro e w1 ⟨rfl, h1, g1⟩
  replace c := c.step h1 g1
  go_wp2
  go_end0
  exact ⟨rfl, c.s, c.gr⟩

set_option maxHeartbeats 1600000 in
theorem gov_42 (b : Nat) (S : W.St) (i : W.I) (a : Int) (k : W.IOk i) (w : World) (h : SAt b S w) (h38 : (i.op == 38) = false) (h39 : (i.op == 39) = false) (h40 : (i.op == 40) = false) (h41 : (i.op == 41) = false) (h42 : (i.op == 42) = true) : Calls Tryz.prog 53 #[.pointer (some ⟨b, 0, none⟩), .agg (inCells i), .int .u32 a] w fun x w' => x = .returned (.tuple #[]) ∧ SAt b (W.srule S 42) w' ∧ w.grownBy w' (some b) := by
  have c := Cx.start i h
  obtain ⟨op, rd, rs1, rs2, csr, imm, aq, rl⟩ := i
  dsimp only at *
  unfold inCells at c ⊢
  have hlt := h.lt
  go_enter Tryz.func53, Tryz.ntmps53
  go_wp2_with (fail)
  generalize World.alloc w _ = W0 at *
  generalize w.heap.size = g at *
  obtain rfl := beq_iff_eq.1 h42
  refine (rule_any b _ _ _ c.s).mono ?_
  rintro e w1 ⟨rfl, h1, g1⟩
  replace c := c.step h1 g1
  go_wp2
  go_end0
  exact ⟨rfl, c.s, c.gr⟩

set_option maxHeartbeats 1600000 in
theorem gov_43 (b : Nat) (S : W.St) (i : W.I) (a : Int) (k : W.IOk i) (w : World) (h : SAt b S w) (h38 : (i.op == 38) = false) (h39 : (i.op == 39) = false) (h40 : (i.op == 40) = false) (h41 : (i.op == 41) = false) (h42 : (i.op == 42) = false) (h43 : (i.op == 43) = true) : Calls Tryz.prog 53 #[.pointer (some ⟨b, 0, none⟩), .agg (inCells i), .int .u32 a] w fun x w' => x = .returned (.tuple #[]) ∧ SAt b (W.srule S 43) w' ∧ w.grownBy w' (some b) := by
  have c := Cx.start i h
  obtain ⟨op, rd, rs1, rs2, csr, imm, aq, rl⟩ := i
  dsimp only at *
  unfold inCells at c ⊢
  have hlt := h.lt
  go_enter Tryz.func53, Tryz.ntmps53
  go_wp2_with (fail)
  generalize World.alloc w _ = W0 at *
  generalize w.heap.size = g at *
  obtain rfl := beq_iff_eq.1 h43
  refine (rule_any b _ _ _ c.s).mono ?_
  rintro e w1 ⟨rfl, h1, g1⟩
  replace c := c.step h1 g1
  go_wp2
  go_end0
  exact ⟨rfl, c.s, c.gr⟩

set_option maxHeartbeats 1600000 in
theorem gov_44 (b : Nat) (S : W.St) (i : W.I) (a : Int) (k : W.IOk i) (w : World) (h : SAt b S w) (h38 : (i.op == 38) = false) (h39 : (i.op == 39) = false) (h40 : (i.op == 40) = false) (h41 : (i.op == 41) = false) (h42 : (i.op == 42) = false) (h43 : (i.op == 43) = false) (h44 : (i.op == 44) = true) : Calls Tryz.prog 53 #[.pointer (some ⟨b, 0, none⟩), .agg (inCells i), .int .u32 a] w fun x w' => x = .returned (.tuple #[]) ∧ SAt b (W.srule S 44) w' ∧ w.grownBy w' (some b) := by
  have c := Cx.start i h
  obtain ⟨op, rd, rs1, rs2, csr, imm, aq, rl⟩ := i
  dsimp only at *
  unfold inCells at c ⊢
  have hlt := h.lt
  go_enter Tryz.func53, Tryz.ntmps53
  go_wp2_with (fail)
  generalize World.alloc w _ = W0 at *
  generalize w.heap.size = g at *
  obtain rfl := beq_iff_eq.1 h44
  refine (rule_any b _ _ _ c.s).mono ?_
  rintro e w1 ⟨rfl, h1, g1⟩
  replace c := c.step h1 g1
  go_wp2
  go_end0
  exact ⟨rfl, c.s, c.gr⟩

set_option maxHeartbeats 1600000 in
theorem gov_no (b : Nat) (S : W.St) (i : W.I) (a : Int) (k : W.IOk i) (w : World) (h : SAt b S w) (h38 : (i.op == 38) = false) (h39 : (i.op == 39) = false) (h40 : (i.op == 40) = false) (h41 : (i.op == 41) = false) (h42 : (i.op == 42) = false) (h43 : (i.op == 43) = false) (h44 : (i.op == 44) = false) : Calls Tryz.prog 53 #[.pointer (some ⟨b, 0, none⟩), .agg (inCells i), .int .u32 a] w fun x w' => x = .returned (.tuple #[]) ∧ SAt b (W.sctl S i a) w' ∧ w.grownBy w' (some b) := by
  have c := Cx.start i h
  obtain ⟨op, rd, rs1, rs2, csr, imm, aq, rl⟩ := i
  dsimp only at *
  unfold inCells at c ⊢
  have hlt := h.lt
  go_enter Tryz.func53, Tryz.ntmps53
  go_wp2_with (fail)
  generalize World.alloc w _ = W0 at *
  generalize w.heap.size = g at *
  refine (ctl_any b _ ⟨op, rd, rs1, rs2, csr, imm, aq, rl⟩ _ k _ c.s).mono ?_
  rintro e w1 ⟨rfl, h1, g1⟩
  replace c := c.step h1 g1
  go_wp2
  go_end0
  exact ⟨rfl, c.s, c.gr⟩

theorem gov_any (b : Nat) (S : W.St) (i : W.I) (a : Int) (k : W.IOk i) (w : World) (h : SAt b S w) : Calls Tryz.prog 53 #[.pointer (some ⟨b, 0, none⟩), .agg (inCells i), .int .u32 a] w fun x w' => x = .returned (.tuple #[]) ∧ SAt b (W.sgov S i a) w' ∧ w.grownBy w' (some b) := by
  unfold W.sgov
  cases h38 : (i.op == 38)
  case true => exact gov_38 b S i a k w h h38
  cases h39 : (i.op == 39)
  case true => exact gov_39 b S i a k w h h38 h39
  cases h40 : (i.op == 40)
  case true => exact gov_40 b S i a k w h h38 h39 h40
  cases h41 : (i.op == 41)
  case true => exact gov_41 b S i a k w h h38 h39 h40 h41
  cases h42 : (i.op == 42)
  case true => exact gov_42 b S i a k w h h38 h39 h40 h41 h42
  cases h43 : (i.op == 43)
  case true => exact gov_43 b S i a k w h h38 h39 h40 h41 h42 h43
  cases h44 : (i.op == 44)
  case true => exact gov_44 b S i a k w h h38 h39 h40 h41 h42 h43 h44
  exact gov_no b S i a k w h h38 h39 h40 h41 h42 h43 h44
end Go.Proofs.YteilpehekabccabGreatDoor

/- What goes without memory and registers of control. -/
namespace Go.Proofs.YteilpehekabccabGreatDoor
open Go.ChangeShapes Go.WideShapes Go.ChangeAt Go.RowKit
set_option linter.unusedVariables false
set_option linter.unusedSimpArgs false

theorem nextV_rg (op imm pc a b : Int) : W.Rg (W.nextV op imm pc a b) := by
  unfold W.nextV
  cases (op == 3)
  · cases (op == 4)
    · cases W.takV op a b <;> (show 0 ≤ _ % (4294967296 : Int) ∧ _ % (4294967296 : Int) < 4294967296; omega)
    · exact W.andNot_lt _ _
  · show 0 ≤ _ % (4294967296 : Int) ∧ _ % (4294967296 : Int) < 4294967296; omega
theorem nextI (i : W.I) (pc a b : Int) (a0 : W.Rg a) (b0 : W.Rg b) (m0 : W.Rg i.imm) (w : World) : Calls Tryz.prog 69 #[.agg (inCells i), .int .u32 pc, .int .u32 a, .int .u32 b] w fun e w' => e = .returned (.int .u32 (W.nextV i.op i.imm pc a b)) ∧ Below w.heap.size w w' :=
  next_any i.op i.rd i.rs1 i.rs2 i.csr i.imm i.aq i.rl pc a b a0.1 a0.2 b0.1 b0.2 m0.1 m0.2 w
theorem resI (i : W.I) (pc a b : Int) (a0 : W.Rg a) (b0 : W.Rg b) (m0 : W.Rg i.imm) (w : World) : Calls Tryz.prog 70 #[.agg (inCells i), .int .u32 pc, .int .u32 a, .int .u32 b] w fun e w' => e = .returned (.tuple #[.int .u32 (W.resV i.op i.imm pc a b), .bool (W.resB i.op)]) ∧ Below w.heap.size w w' :=
  res_any i.op i.rd i.rs1 i.rs2 i.csr i.imm i.aq i.rl pc a b a0.1 a0.2 b0.1 b0.2 m0.1 m0.2 w

set_option maxHeartbeats 1600000 in
theorem reck_any (b : Nat) (S : W.St) (i : W.I) (x y : Int) (k : W.IOk i) (hx : W.Rg x) (hy : W.Rg y) (w : World) (h : SAt b S w) : Calls Tryz.prog 51 #[.pointer (some ⟨b, 0, none⟩), .agg (inCells i), .int .u32 x, .int .u32 y] w fun z w' => z = .returned (.tuple #[]) ∧ SAt b (W.sreck S i x y) w' ∧ w.grownBy w' (some b) := by
  have c := Cx.start i h
  have hN := fun w => nextI i S.h.pc x y hx hy k.imm w
  have hR := fun w => resI i S.h.pc x y hx hy k.imm w
  unfold W.sreck
  generalize hn : W.nextV i.op i.imm S.h.pc x y = N at *
  generalize hv : W.resV i.op i.imm S.h.pc x y = V at *
  have rd0 := k.rd0
  have rd1 := k.rd1
  have c12 : ∀ o, (w.alloc o).cell? ⟨b, 12, none⟩ = some (.int .u32 S.h.pc) := fun o => (h.alloc o).ch 1 rfl
  obtain ⟨op, rd, rs1, rs2, csr, imm, aq, rl⟩ := i
  dsimp only at *
  have hN0 : W.Rg N := hn ▸ nextV_rg _ _ _ _ _
  have hN1 := hN0.1
  have hN2 := hN0.2
  clear hn hv k hN0
  unfold inCells at c hN hR ⊢
  have hlt := h.lt
  have htm : N.tmod 4 = N % 4 := Int.tmod_eq_emod_of_nonneg hN1
  cases hb4 : (N % 4 != 0)
  · dsimp only [cond_false]
    go_enter Tryz.func51, Tryz.ntmps51
    go_wp2_with (fail)
    generalize World.alloc w _ = W0 at *
    generalize w.heap.size = g at *
    refine (hN _).mono ?_
    rintro e w1 ⟨rfl, hb⟩
    replace c := c.below hb
    obtain ⟨i0, i1, i2, i3, i4, i5, i6, i7⟩ := c.cells
    have hlt := c.s.lt
    have hl2 := c.lt
    go_wp2_with (fail)
    refine (hR _).mono ?_
    rintro e w2 ⟨rfl, hb⟩
    replace c := c.below hb
    clear i0 i1 i2 i3 i4 i5 i6 i7 hlt hl2
    obtain ⟨i0, i1, i2, i3, i4, i5, i6, i7⟩ := c.cells
    have hlt := c.s.lt
    have hl2 := c.lt
    go_wp2_with (fail)
    have hp := fun v => put_any b _ rd v rd0 rd1 _ c.drew.s
    go_region_with (go_at_call 71; refine (hp _).mono ?_; rintro e w3 ⟨rfl, h1, g1⟩)
    clear hp
    replace c := c.drew.step h1 g1
    go_wp2_with (fail)
    refine (retire_any b _ W.Ef.no _ c.s).mono ?_
    rintro e w4 ⟨rfl, h2, g2⟩
    replace c := c.step h2 g2
    clear i0 i1 i2 i3 i4 i5 i6 i7 hlt hl2
    have hlt := c.s.lt
    have hz := c.s.z
    have c12 : w4.cell? ⟨b, 12, none⟩ = some (.int .u32 (((W.sput S rd V).h.pc + 4) % 4294967296)) := c.s.ch 1 rfl
    go_wp2
    go_end0
    exact ⟨rfl, c.s.ppc N, gtrans c.gr (gset _ _ _ _)⟩
  · dsimp only [cond_true]
    go_enter Tryz.func51, Tryz.ntmps51
    go_wp2_with (fail)
    generalize World.alloc w _ = W0 at *
    generalize w.heap.size = g at *
    refine (hN _).mono ?_
    rintro e w1 ⟨rfl, hb⟩
    replace c := c.below hb
    go_wp2_with (fail)
    refine (htrap_any b _ _ _ _ c.s).mono ?_
    rintro e w4 ⟨rfl, h2, g2⟩
    replace c := c.step h2 g2
    go_wp2
    exact bodyPost_ret (v := .tuple #[]) (by simp [results, Tryz.results51, go_sem]) rfl ⟨rfl, c.s, c.gr⟩
end Go.Proofs.YteilpehekabccabGreatDoor

/- The instruction itself. -/
namespace Go.Proofs.YteilpehekabccabGreatDoor
open Go.ChangeShapes Go.WideShapes Go.ChangeAt Go.RowKit
set_option linter.unusedVariables false
set_option linter.unusedSimpArgs false

theorem kind_cases (op : Int) : W.kind op = 0 ∨ W.kind op = 1 ∨ W.kind op = 2 ∨ W.kind op = 3 ∨ W.kind op = 4 ∨ W.kind op = 5 ∨ W.kind op = 6 ∨ W.kind op = 7 := by
  unfold W.kind
  cases W.known op <;> cases W.fr 1 op 2 <;> cases W.fr 19 op 37 <;> cases W.fr 51 op 58 <;> cases W.fr 3 op 4 <;> cases W.fr 5 op 10 <;> cases W.fr 11 op 15 <;> cases (op == 59) <;> cases W.fr 16 op 18 <;> cases W.fr 60 op 69 <;> decide
theorem sz_mem (op : Int) (h : W.memB op = true) : W.sz op = 1 ∨ W.sz op = 2 ∨ W.sz op = 4 := by
  rcases W.memB_cases h with rfl | rfl | rfl | rfl | rfl | rfl | rfl | rfl | rfl | rfl | rfl | rfl | rfl | rfl | rfl | rfl | rfl | rfl | rfl <;> decide
theorem memB_kind (op : Int) (h : W.kind op = 4 ∨ W.kind op = 5 ∨ W.kind op = 6) : W.memB op = true := by
  cases hm : W.memB op
  · have q := W.memB_none hm
    rcases h with h | h | h
    · have := q.2.2.2.2.2.2.2.2.2.2.1; rw [h] at this; exact absurd this (by decide)
    · have := q.2.2.2.2.2.2.2.2.2.2.2.1; rw [h] at this; exact absurd this (by decide)
    · have := q.2.2.2.2.2.2.2.2.2.2.2.2.1; rw [h] at this; exact absurd this (by decide)
  · rfl

set_option maxHeartbeats 3200000 in
theorem do_at (b : Nat) (S : W.St) (i : W.I) (k : W.IOk i) (hH : W.HOk S.h) (p : Nat → W.Pt) (hcap : S.r.wk.n ≤ S.r.wk.c) (w : World) (h : SAt b S w) (hr : Reads S.r.wk.a S.r.wk.n p w) (hne : ∀ q off, S.r.wk.a = some ⟨q, off, none⟩ → 0 < S.r.wk.n → q ≠ b) : Calls Tryz.prog 36 #[.pointer (some ⟨b, 0, none⟩), .agg (inCells i)] w fun z w' => z = .returned (.tuple #[]) ∧ SAt b (W.sdo S i S.r.wk.n (fun j => (p j).a) (fun j => (p j).v)) w' ∧ w.grownBy w' (some b) := by
  have c := Cx.start i h
  have hK := kind_any i.op
  have h1 := hH.get i.rs1
  have h2 := hH.get i.rs2
  have hR := fun w (h : SAt b S w) => reck_any b S i (W.xget S.h i.rs1) (W.xget S.h i.rs2) k h1 h2 w h
  have hV := fun w (h : SAt b S w) => gov_any b S i (W.xget S.h i.rs1) k w h
  have hA := fun (hm : W.memB i.op = true) w (h : SAt b S w) (hr : Reads S.r.wk.a S.r.wk.n p w) => acc_any b S i (W.xget S.h i.rs1) (W.xget S.h i.rs2) k h1 h2 hH.G (sz_mem i.op hm) p hcap w h hr hne
  have hM := memB_kind i.op
  unfold W.sdo
  have hc := kind_cases i.op
  generalize W.kind i.op = K at *
  have g1 := fun w h => x_g b S.h i.rs1 _ rfl w h
  have g2 := fun w h => x_g b S.h i.rs2 _ rfl w h
  obtain ⟨op, rd, rs1, rs2, csr, imm, aq, rl⟩ := i
  dsimp only at *
  generalize W.xget S.h rs1 = A at *
  generalize W.xget S.h rs2 = B at *
  unfold inCells at c hR hV hA ⊢
  have hlt := h.lt
  go_enter Tryz.func36, Tryz.ntmps36
  go_wp2_with (fail)
  generalize hW0 : World.alloc w _ = W0 at *
  have hr0 : Reads S.r.wk.a S.r.wk.n p W0 := by rw [← hW0]; exact hr.below ((Below.refl _ _).alloc (Nat.le_refl _) _)
  clear hW0 hr
  generalize w.heap.size = g at *
  replace c := c.drew
  replace hr0 := hr0.below (Below.refl W0.heap.size W0).drew
  obtain ⟨i0, i1, i2, i3, i4, i5, i6, i7⟩ := c.cells
  have hl2 := c.lt
  have hlt := c.s.lt
  have hxs := c.s.xs
  go_region_held3 (fun w' => w'.cell? ⟨g, 2, none⟩ = some (.int .i64 rs1) ∧ w'.cell? ⟨g, 3, none⟩ = some (.int .i64 rs2))
    (first | (refine ⟨?_, ?_⟩ <;> assumption) | go_keep)
    (first
      | (go_at_call_of 11 (Value.int IntKind.i64 rs1); refine (g1 _ hxs).mono ?_; rintro e w1 ⟨rfl, rfl⟩)
      | (go_at_call_of 11 (Value.int IntKind.i64 rs2); refine (g2 _ hxs).mono ?_; rintro e w1 ⟨rfl, rfl⟩))
  all_goals
    generalize World.drew W0 = W1 at *
    go_wp2_with (fail)
    refine (hK _).mono ?_
    rintro e w1 ⟨rfl, rfl⟩
    rcases hc with rfl | rfl | rfl | rfl | rfl | rfl | rfl | rfl
    all_goals
      go_wp2_with (first
        | (go_at_call 51; refine (hR _ c.s).mono ?_; rintro e w3 ⟨rfl, h5, g5⟩)
        | (go_at_call 52; refine (hA (hM (by decide)) _ c.s hr0).mono ?_; rintro e w3 ⟨rfl, h5, g5⟩)
        | (go_at_call 53; refine (hV _ c.s).mono ?_; rintro e w3 ⟨rfl, h5, g5⟩))
      go_end0
      exact ⟨rfl, h5, gtrans c.gr g5⟩
end Go.Proofs.YteilpehekabccabGreatDoor

/- The word is read, and its instruction done, way M. -/
namespace Go.Proofs.YteilpehekabccabGreatDoor
open Go.ChangeShapes Go.WideShapes Go.ChangeAt Go.RowKit
set_option linter.unusedVariables false
set_option linter.unusedSimpArgs false

set_option maxHeartbeats 3200000 in
theorem fet_M (b : Nat) (S : W.St) (hH : W.HOk S.h) (hwd : W.Rg S.r.wd) (q p : Nat → W.Pt) (hcq : S.r.fw.n ≤ S.r.fw.c) (hcap : S.r.wk.n ≤ S.r.wk.c) (w : World) (h : SAt b S w) (hq : Reads S.r.fw.a S.r.fw.n q w) (hr : Reads S.r.wk.a S.r.wk.n p w) (hnq : ∀ q off, S.r.fw.a = some ⟨q, off, none⟩ → 0 < S.r.fw.n → q ≠ b) (hne : ∀ q off, S.r.wk.a = some ⟨q, off, none⟩ → 0 < S.r.wk.n → q ≠ b) (h0 : (S.h.pc % 4 != 0) = true) : Calls Tryz.prog 23 #[.pointer (some ⟨b, 0, none⟩)] w fun z w' => z = .returned (.tuple #[]) ∧ SAt b (W.strap S 0 S.h.pc) w' ∧ w.grownBy w' (some b) := by
  have hp0 := hH.pc.1
  have hp1 := hH.pc.2
  have htm : S.h.pc.tmod 4 = S.h.pc % 4 := Int.tmod_eq_emod_of_nonneg hp0
  have gr : w.grownBy w (some b) := World.grownBy.refl _ _
  have e12 : w.cell? ⟨b, 12, none⟩ = some (.int .u32 S.h.pc) := h.ch 1 rfl
  have hz := h.z
  have hlt := h.lt
  go_enter Tryz.func23, Tryz.ntmps23
  go_wp2_with (fail)
  refine (htrap_any b _ _ _ _ h).mono ?_
  rintro e w2 ⟨rfl, h5, g5⟩
  go_wp2
  exact bodyPost_ret (v := .tuple #[]) (by simp [results, Tryz.results23, go_sem]) rfl ⟨rfl, h5, g5⟩
end Go.Proofs.YteilpehekabccabGreatDoor

/- The word is read, and its instruction done, way P. -/
namespace Go.Proofs.YteilpehekabccabGreatDoor
open Go.ChangeShapes Go.WideShapes Go.ChangeAt Go.RowKit
set_option linter.unusedVariables false
set_option linter.unusedSimpArgs false

set_option maxHeartbeats 3200000 in
theorem fet_P (b : Nat) (S : W.St) (hH : W.HOk S.h) (hwd : W.Rg S.r.wd) (q p : Nat → W.Pt) (hcq : S.r.fw.n ≤ S.r.fw.c) (hcap : S.r.wk.n ≤ S.r.wk.c) (w : World) (h : SAt b S w) (hq : Reads S.r.fw.a S.r.fw.n q w) (hr : Reads S.r.wk.a S.r.wk.n p w) (hnq : ∀ q off, S.r.fw.a = some ⟨q, off, none⟩ → 0 < S.r.fw.n → q ≠ b) (hne : ∀ q off, S.r.wk.a = some ⟨q, off, none⟩ → 0 < S.r.wk.n → q ≠ b) (h0 : (S.h.pc % 4 != 0) = false) (h1 : ((W.hwalk S.h S.h.pc 1 S.r.fw.n (fun j => (q j).a) (fun j => (q j).v)).k == 1) = false) : Calls Tryz.prog 23 #[.pointer (some ⟨b, 0, none⟩)] w fun z w' => z = .returned (.tuple #[]) ∧ SAt b (W.splace { S with w := { S.w with fw := S.r.fw } } S.h.pc 1 S.r.fw.n (fun j => (q j).a) (fun j => (q j).v)) w' ∧ w.grownBy w' (some b) := by
  have hp0 := hH.pc.1
  have hp1 := hH.pc.2
  have htm : S.h.pc.tmod 4 = S.h.pc % 4 := Int.tmod_eq_emod_of_nonneg hp0
  have gr : w.grownBy w (some b) := World.grownBy.refl _ _
  have e12 : w.cell? ⟨b, 12, none⟩ = some (.int .u32 S.h.pc) := h.ch 1 rfl
  have hz := h.z
  have hlt := h.lt
  have hX := W.hwalk_pa S.h S.h.pc 1 S.r.fw.n (fun j => (q j).a) (fun j => (q j).v) hH.pc (hq.2.2 0).1 (hq.2.2 1).1
  have hPl := fun w (h : SAt b { S with w := { S.w with fw := S.r.fw } } w) (hr : Reads S.r.fw.a S.r.fw.n q w) => place_a b { S with w := { S.w with fw := S.r.fw } } S.h.pc 1 hH.pc hH.G S.r.fw.a S.r.fw.n S.r.fw.c hcq q w h hr
  unfold W.splace at hPl ⊢
  generalize W.hwalk S.h S.h.pc 1 S.r.fw.n (fun j => (q j).a) (fun j => (q j).v) = X at *
  obtain ⟨Xk, Xpa, Xad, Xvl, Xca⟩ := X
  dsimp only at *
  have e51 : w.cell? ⟨b, 51, none⟩ = some (.slice S.r.fw.a S.r.fw.n S.r.fw.c) := h.cr 6 rfl
  have e64 : w.cell? ⟨b, 64, none⟩ = some (.slice S.w.fw.a S.w.fw.n S.w.fw.c) := h.cw 6 rfl
  go_enter Tryz.func23, Tryz.ntmps23
  go_wp2_with (fail)
  replace h := h.pfw S.r.fw
  replace gr := gset w b 64 (.slice S.r.fw.a S.r.fw.n S.r.fw.c)
  have hq1 := hq.grown gr hnq
  clear e51 e64 e12
  generalize hW2 : World.setCell w _ _ = W2 at *
  have hr1 : Reads S.r.wk.a S.r.wk.n p W2 := hr.grown gr hne
  clear hW2
  clear hz hlt
  have hz := h.z
  have hlt := h.lt
  refine (hPl _ h hq1).mono ?_
  rintro e w3 ⟨rfl, h5, g5⟩
  replace gr := gtrans gr g5
  clear hPl hq1
  clear h
  have h := h5
  clear h5
  clear hz hlt
  have hz := h.z
  have hlt := h.lt
  rw [h1]
  go_wp2
  exact bodyPost_ret (v := .tuple #[]) (by simp [results, Tryz.results23, go_sem]) rfl ⟨rfl, h, gr⟩
end Go.Proofs.YteilpehekabccabGreatDoor
