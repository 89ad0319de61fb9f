/- Texts in one: HartH9, HartH10, HartH11, HartH12, HartH13. -/
import Derived.Deep.RegionHeld3
import Derived.Deep.RegionWith
import Derived.Test.YteilpehekabccabGreatDoorJ19
/- What has to do with memory, as far as its place, way LF. -/
namespace Go.Proofs.YteilpehekabccabGreatDoor
open Go.ChangeShapes Go.WideShapes Go.ChangeAt Go.RowKit
set_option linter.unusedVariables false
set_option linter.unusedSimpArgs false

set_option maxHeartbeats 3200000 in
theorem acc_LF (b : Nat) (S : W.St) (i : W.I) (x y : Int) (k : W.IOk i) (hx : W.Rg x) (hy : W.Rg y) (hG : W.FOk S.h.G) (hk : W.kind i.op = 4) (hs : W.sz i.op = 1 ∨ W.sz i.op = 2 ∨ W.sz i.op = 4) (p : Nat → W.Pt) (hcap : S.r.wk.n ≤ S.r.wk.c) (w : World) (h : SAt b S w) (hr : Reads S.r.wk.a S.r.wk.n p w) (hne : ∀ q off, S.r.wk.a = some ⟨q, off, none⟩ → 0 < S.r.wk.n → q ≠ b) (h0 : ((x + i.imm) % 4294967296 % W.sz i.op != 0) = false) (h1 : ((W.hwalk S.h ((x + i.imm) % 4294967296) 2 S.r.wk.n (fun j => (p j).a) (fun j => (p j).v)).k == 1) = true) (h2 : W.hhas S.h (W.hwalk S.h ((x + i.imm) % 4294967296) 2 S.r.wk.n (fun j => (p j).a) (fun j => (p j).v)).pa (W.sz i.op) = false) (h3 : W.rings i.op (W.hwalk S.h ((x + i.imm) % 4294967296) 2 S.r.wk.n (fun j => (p j).a) (fun j => (p j).v)).pa = false) : Calls Tryz.prog 52 #[.pointer (some ⟨b, 0, none⟩), .agg (inCells i), .int .u32 x, .int .u32 y] w fun z w' => z = .returned (.tuple #[]) ∧ SAt b (W.strap { S with w := { S.w with wk := S.r.wk, pa := (W.hwalk S.h ((x + i.imm) % 4294967296) 2 S.r.wk.n (fun j => (p j).a) (fun j => (p j).v)).pa } } (W.cause 2 false) ((x + i.imm) % 4294967296)) w' ∧ w.grownBy w' (some b) := by
  have c := Cx.start i h
  have hK := kind_any i.op
  rw [hk] at hK
  have hZ := size_any i.op
  have hi := k
  generalize hsz : W.sz i.op = Z at *
  obtain ⟨op, rd, rs1, rs2, csr, imm, aq, rl⟩ := i
  dsimp only at *
  have hA : W.Rg ((x + imm) % 4294967296) := by unfold W.Rg; omega
  have hAw : IntKind.u32.wrap (x + imm) = (x + imm) % 4294967296 := IntKind.wrap_u32' _
  generalize (x + imm) % 4294967296 = A at *
  have hA0 := hA.1
  have hA1 := hA.2
  have hZw : IntKind.u32.wrap Z = Z := by rcases hs with rfl | rfl | rfl <;> decide
  have hZm : Z % 4294967296 = Z := by rcases hs with rfl | rfl | rfl <;> decide
  have htm : A.tmod Z = A % Z := Int.tmod_eq_emod_of_nonneg hA0
  have hZ0 : (Z == 0) = false := by rcases hs with rfl | rfl | rfl <;> decide
  have hX := W.hwalk_pa S.h A 2 S.r.wk.n (fun j => (p j).a) (fun j => (p j).v) hA (hr.2.2 0).1 (hr.2.2 1).1
  have hPl := fun w (h : SAt b { S with w := { S.w with wk := S.r.wk } } w) (hr : Reads S.r.wk.a S.r.wk.n p w) => place_a b { S with w := { S.w with wk := S.r.wk } } A 2 hA hG S.r.wk.a S.r.wk.n S.r.wk.c hcap p w h hr
  unfold W.splace at hPl
  generalize W.hwalk S.h A 2 S.r.wk.n (fun j => (p j).a) (fun j => (p j).v) = X at *
  obtain ⟨Xk, Xpa, Xad, Xvl, Xca⟩ := X
  dsimp only at *
  obtain rfl := beq_iff_eq.1 h1
  simp only [show ((1 : Int) == 2) = false from rfl, show ((1 : Int) == 1) = true from rfl, cond_false] at hPl
  unfold inCells at c ⊢
  have hlt := h.lt
  go_enter Tryz.func52, Tryz.ntmps52
  go_wp2_with (fail)
  generalize hW0 : World.alloc w _ = W0 at *
  have hr0 : Reads S.r.wk.a S.r.wk.n p W0 := by rw [← hW0]; exact hr.below ((Below.refl _ _).alloc (Nat.le_refl _) _)
  clear hW0 hr
  generalize w.heap.size = g at *
  obtain ⟨i0, i1, i2, i3, i4, i5, i6, i7⟩ := c.cells
  have hz := c.s.z
  have hl2 := c.lt
  refine (hK _).mono ?_
  rintro e w1 ⟨rfl, rfl⟩
  go_wp2_with (fail)
  replace c := c.drew
  replace hr0 := hr0.below (Below.refl W0.heap.size W0).drew
  clear i0 i1 i2 i3 i4 i5 i6 i7 hz hlt hl2
  obtain ⟨i0, i1, i2, i3, i4, i5, i6, i7⟩ := c.cells
  have hz := c.s.z
  have hlt := c.s.lt
  have hl2 := c.lt
  go_region_held3 (fun w' => w'.cell? ⟨g, 0, none⟩ = some (.int .i64 op) ∧ w'.cell? ⟨g, 5, none⟩ = some (.int .u32 imm))
    (first | (refine ⟨?_, ?_⟩ <;> assumption) | go_keep)
    (first | (go_at_call 73; refine (hZ _).mono ?_; rintro e w1 ⟨rfl, rfl⟩))
  all_goals
    generalize World.drew W0 = W1 at *
    have e52 : W1.cell? ⟨b, 52, none⟩ = some (.slice S.r.wk.a S.r.wk.n S.r.wk.c) := c.s.cr 7 rfl
    have e65 : W1.cell? ⟨b, 65, none⟩ = some (.slice S.w.wk.a S.w.wk.n S.w.wk.c) := c.s.cw 7 rfl
    go_wp2_with (fail)
    replace c := c.step (c.s.pwk S.r.wk) (gset _ _ _ _)
    have hr1 := hr0.grown (gset W1 b 65 (.slice S.r.wk.a S.r.wk.n S.r.wk.c)) hne
    clear e52 e65
    generalize World.setCell W1 _ _ = W2 at *
    clear i0 i1 i2 i3 i4 i5 i6 i7 hz hlt hl2
    obtain ⟨i0, i1, i2, i3, i4, i5, i6, i7⟩ := c.cells
    have hz := c.s.z
    have hlt := c.s.lt
    have hl2 := c.lt
    have e52 : W2.cell? ⟨b, 52, none⟩ = some (.slice S.r.wk.a S.r.wk.n S.r.wk.c) := c.s.cr 7 rfl
    have hp1 := hPl _ c.s hr1
    clear hPl hr0
    refine hp1.mono ?_
    rintro e w3 ⟨rfl, h5, g5⟩
    replace c := c.step h5 g5
    clear hp1 e52 hr1
    clear i0 i1 i2 i3 i4 i5 i6 i7 hz hlt hl2
    obtain ⟨i0, i1, i2, i3, i4, i5, i6, i7⟩ := c.cells
    have hz := c.s.z
    have hlt := c.s.lt
    have hl2 := c.lt
    have e62 : w3.cell? ⟨b, 62, none⟩ = some (.int .u32 S.w.pa) := c.s.cw 4 rfl
    go_wp2_with (fail)
    replace c := c.step (c.s.ppa Xpa) (gset _ _ _ _)
    clear e62
    generalize World.setCell w3 _ _ = W4 at *
    clear i0 i1 i2 i3 i4 i5 i6 i7 hz hlt hl2
    obtain ⟨i0, i1, i2, i3, i4, i5, i6, i7⟩ := c.cells
    have hz := c.s.z
    have hlt := c.s.lt
    have hl2 := c.lt
    have hh := has_any b _ Xpa Z hX hs _ c.s
    unfold W.hhas at hh h2
    dsimp only at hh h2
    rw [h2] at hh
    refine hh.mono ?_
    rintro e w4 ⟨rfl, rfl⟩
    clear hh
    go_wp2_with (fail)
    have hg := rings_any op Xpa W4
    rw [h3] at hg
    refine hg.mono ?_
    rintro e w4 ⟨rfl, rfl⟩
    clear hg
    go_wp2_with (fail)
    refine (cause_any _ _ _).mono ?_
    rintro e w4 ⟨rfl, rfl⟩
    go_wp2_with (fail)
    refine (htrap_any b _ _ _ _ c.s).mono ?_
    rintro e w5 ⟨rfl, h5, g5⟩
    replace c := c.step h5 g5
    go_wp2
    exact bodyPost_ret (v := .tuple #[]) (by simp [results, Tryz.results52, go_sem]) rfl ⟨rfl, c.s, c.gr⟩
end Go.Proofs.YteilpehekabccabGreatDoor

/- What has to do with memory, as far as its place, way SM. -/
namespace Go.Proofs.YteilpehekabccabGreatDoor
open Go.ChangeShapes Go.WideShapes Go.ChangeAt Go.RowKit
set_option linter.unusedVariables false
set_option linter.unusedSimpArgs false

set_option maxHeartbeats 3200000 in
theorem acc_SM (b : Nat) (S : W.St) (i : W.I) (x y : Int) (k : W.IOk i) (hx : W.Rg x) (hy : W.Rg y) (hG : W.FOk S.h.G) (hk : (W.kind i.op == 4) = false) (hs : W.sz i.op = 1 ∨ W.sz i.op = 2 ∨ W.sz i.op = 4) (p : Nat → W.Pt) (hcap : S.r.wk.n ≤ S.r.wk.c) (w : World) (h : SAt b S w) (hr : Reads S.r.wk.a S.r.wk.n p w) (hne : ∀ q off, S.r.wk.a = some ⟨q, off, none⟩ → 0 < S.r.wk.n → q ≠ b) (h0 : ((x + i.imm) % 4294967296 % W.sz i.op != 0) = true) : Calls Tryz.prog 52 #[.pointer (some ⟨b, 0, none⟩), .agg (inCells i), .int .u32 x, .int .u32 y] w fun z w' => z = .returned (.tuple #[]) ∧ SAt b (W.strap S 6 ((x + i.imm) % 4294967296)) w' ∧ w.grownBy w' (some b) := by
  have c := Cx.start i h
  have hK := kind_any i.op
  generalize W.kind i.op = KK at *
  have hZ := size_any i.op
  have hi := k
  generalize hsz : W.sz i.op = Z at *
  obtain ⟨op, rd, rs1, rs2, csr, imm, aq, rl⟩ := i
  dsimp only at *
  have hA : W.Rg ((x + imm) % 4294967296) := by unfold W.Rg; omega
  have hAw : IntKind.u32.wrap (x + imm) = (x + imm) % 4294967296 := IntKind.wrap_u32' _
  generalize (x + imm) % 4294967296 = A at *
  have hA0 := hA.1
  have hA1 := hA.2
  have hZw : IntKind.u32.wrap Z = Z := by rcases hs with rfl | rfl | rfl <;> decide
  have hZm : Z % 4294967296 = Z := by rcases hs with rfl | rfl | rfl <;> decide
  have htm : A.tmod Z = A % Z := Int.tmod_eq_emod_of_nonneg hA0
  have hZ0 : (Z == 0) = false := by rcases hs with rfl | rfl | rfl <;> decide
  have hX := W.hwalk_pa S.h A 3 S.r.wk.n (fun j => (p j).a) (fun j => (p j).v) hA (hr.2.2 0).1 (hr.2.2 1).1
  have hPl := fun w (h : SAt b { S with w := { S.w with wk := S.r.wk } } w) (hr : Reads S.r.wk.a S.r.wk.n p w) => place_a b { S with w := { S.w with wk := S.r.wk } } A 3 hA hG S.r.wk.a S.r.wk.n S.r.wk.c hcap p w h hr
  unfold inCells at c ⊢
  have hlt := h.lt
  go_enter Tryz.func52, Tryz.ntmps52
  go_wp2_with (fail)
  generalize hW0 : World.alloc w _ = W0 at *
  have hr0 : Reads S.r.wk.a S.r.wk.n p W0 := by rw [← hW0]; exact hr.below ((Below.refl _ _).alloc (Nat.le_refl _) _)
  clear hW0 hr
  generalize w.heap.size = g at *
  obtain ⟨i0, i1, i2, i3, i4, i5, i6, i7⟩ := c.cells
  have hz := c.s.z
  have hl2 := c.lt
  refine (hK _).mono ?_
  rintro e w1 ⟨rfl, rfl⟩
  go_wp2_with (fail)
  replace c := c.drew
  replace hr0 := hr0.below (Below.refl W0.heap.size W0).drew
  clear i0 i1 i2 i3 i4 i5 i6 i7 hz hlt hl2
  obtain ⟨i0, i1, i2, i3, i4, i5, i6, i7⟩ := c.cells
  have hz := c.s.z
  have hlt := c.s.lt
  have hl2 := c.lt
  go_region_held3 (fun w' => w'.cell? ⟨g, 0, none⟩ = some (.int .i64 op) ∧ w'.cell? ⟨g, 5, none⟩ = some (.int .u32 imm))
    (first | (refine ⟨?_, ?_⟩ <;> assumption) | go_keep)
    (first | (go_at_call 73; refine (hZ _).mono ?_; rintro e w1 ⟨rfl, rfl⟩))
  all_goals
    generalize World.drew W0 = W1 at *
    go_wp2_with (fail)
    refine (htrap_any b _ _ _ _ c.s).mono ?_
    rintro e w2 ⟨rfl, h5, g5⟩
    replace c := c.step h5 g5
    go_wp2
    exact bodyPost_ret (v := .tuple #[]) (by simp [results, Tryz.results52, go_sem]) rfl ⟨rfl, c.s, c.gr⟩
end Go.Proofs.YteilpehekabccabGreatDoor

/- What has to do with memory, as far as its place, way SP. -/
namespace Go.Proofs.YteilpehekabccabGreatDoor
open Go.ChangeShapes Go.WideShapes Go.ChangeAt Go.RowKit
set_option linter.unusedVariables false
set_option linter.unusedSimpArgs false

set_option maxHeartbeats 3200000 in
theorem acc_SP (b : Nat) (S : W.St) (i : W.I) (x y : Int) (k : W.IOk i) (hx : W.Rg x) (hy : W.Rg y) (hG : W.FOk S.h.G) (hk : (W.kind i.op == 4) = false) (hs : W.sz i.op = 1 ∨ W.sz i.op = 2 ∨ W.sz i.op = 4) (p : Nat → W.Pt) (hcap : S.r.wk.n ≤ S.r.wk.c) (w : World) (h : SAt b S w) (hr : Reads S.r.wk.a S.r.wk.n p w) (hne : ∀ q off, S.r.wk.a = some ⟨q, off, none⟩ → 0 < S.r.wk.n → q ≠ b) (h0 : ((x + i.imm) % 4294967296 % W.sz i.op != 0) = false) (h1 : ((W.hwalk S.h ((x + i.imm) % 4294967296) 3 S.r.wk.n (fun j => (p j).a) (fun j => (p j).v)).k == 1) = false) : Calls Tryz.prog 52 #[.pointer (some ⟨b, 0, none⟩), .agg (inCells i), .int .u32 x, .int .u32 y] w fun z w' => z = .returned (.tuple #[]) ∧ SAt b (W.splace { S with w := { S.w with wk := S.r.wk } } ((x + i.imm) % 4294967296) 3 S.r.wk.n (fun j => (p j).a) (fun j => (p j).v)) w' ∧ w.grownBy w' (some b) := by
  have c := Cx.start i h
  have hK := kind_any i.op
  generalize W.kind i.op = KK at *
  have hZ := size_any i.op
  have hi := k
  generalize hsz : W.sz i.op = Z at *
  obtain ⟨op, rd, rs1, rs2, csr, imm, aq, rl⟩ := i
  dsimp only at *
  have hA : W.Rg ((x + imm) % 4294967296) := by unfold W.Rg; omega
  have hAw : IntKind.u32.wrap (x + imm) = (x + imm) % 4294967296 := IntKind.wrap_u32' _
  generalize (x + imm) % 4294967296 = A at *
  have hA0 := hA.1
  have hA1 := hA.2
  have hZw : IntKind.u32.wrap Z = Z := by rcases hs with rfl | rfl | rfl <;> decide
  have hZm : Z % 4294967296 = Z := by rcases hs with rfl | rfl | rfl <;> decide
  have htm : A.tmod Z = A % Z := Int.tmod_eq_emod_of_nonneg hA0
  have hZ0 : (Z == 0) = false := by rcases hs with rfl | rfl | rfl <;> decide
  have hX := W.hwalk_pa S.h A 3 S.r.wk.n (fun j => (p j).a) (fun j => (p j).v) hA (hr.2.2 0).1 (hr.2.2 1).1
  have hPl := fun w (h : SAt b { S with w := { S.w with wk := S.r.wk } } w) (hr : Reads S.r.wk.a S.r.wk.n p w) => place_a b { S with w := { S.w with wk := S.r.wk } } A 3 hA hG S.r.wk.a S.r.wk.n S.r.wk.c hcap p w h hr
  unfold W.splace at hPl ⊢
  generalize W.hwalk S.h A 3 S.r.wk.n (fun j => (p j).a) (fun j => (p j).v) = X at *
  obtain ⟨Xk, Xpa, Xad, Xvl, Xca⟩ := X
  dsimp only at *
  unfold inCells at c ⊢
  have hlt := h.lt
  go_enter Tryz.func52, Tryz.ntmps52
  go_wp2_with (fail)
  generalize hW0 : World.alloc w _ = W0 at *
  have hr0 : Reads S.r.wk.a S.r.wk.n p W0 := by rw [← hW0]; exact hr.below ((Below.refl _ _).alloc (Nat.le_refl _) _)
  clear hW0 hr
  generalize w.heap.size = g at *
  obtain ⟨i0, i1, i2, i3, i4, i5, i6, i7⟩ := c.cells
  have hz := c.s.z
  have hl2 := c.lt
  refine (hK _).mono ?_
  rintro e w1 ⟨rfl, rfl⟩
  go_wp2_with (fail)
  replace c := c.drew
  replace hr0 := hr0.below (Below.refl W0.heap.size W0).drew
  clear i0 i1 i2 i3 i4 i5 i6 i7 hz hlt hl2
  obtain ⟨i0, i1, i2, i3, i4, i5, i6, i7⟩ := c.cells
  have hz := c.s.z
  have hlt := c.s.lt
  have hl2 := c.lt
  go_region_held3 (fun w' => w'.cell? ⟨g, 0, none⟩ = some (.int .i64 op) ∧ w'.cell? ⟨g, 5, none⟩ = some (.int .u32 imm))
    (first | (refine ⟨?_, ?_⟩ <;> assumption) | go_keep)
    (first | (go_at_call 73; refine (hZ _).mono ?_; rintro e w1 ⟨rfl, rfl⟩))
  all_goals
    generalize World.drew W0 = W1 at *
    have e52 : W1.cell? ⟨b, 52, none⟩ = some (.slice S.r.wk.a S.r.wk.n S.r.wk.c) := c.s.cr 7 rfl
    have e65 : W1.cell? ⟨b, 65, none⟩ = some (.slice S.w.wk.a S.w.wk.n S.w.wk.c) := c.s.cw 7 rfl
    go_wp2_with (fail)
    replace c := c.step (c.s.pwk S.r.wk) (gset _ _ _ _)
    have hr1 := hr0.grown (gset W1 b 65 (.slice S.r.wk.a S.r.wk.n S.r.wk.c)) hne
    clear e52 e65
    generalize World.setCell W1 _ _ = W2 at *
    clear i0 i1 i2 i3 i4 i5 i6 i7 hz hlt hl2
    obtain ⟨i0, i1, i2, i3, i4, i5, i6, i7⟩ := c.cells
    have hz := c.s.z
    have hlt := c.s.lt
    have hl2 := c.lt
    have e52 : W2.cell? ⟨b, 52, none⟩ = some (.slice S.r.wk.a S.r.wk.n S.r.wk.c) := c.s.cr 7 rfl
    have hp1 := hPl _ c.s hr1
    clear hPl hr0
    refine hp1.mono ?_
    rintro e w3 ⟨rfl, h5, g5⟩
    replace c := c.step h5 g5
    clear hp1 e52 hr1
    clear i0 i1 i2 i3 i4 i5 i6 i7 hz hlt hl2
    obtain ⟨i0, i1, i2, i3, i4, i5, i6, i7⟩ := c.cells
    have hz := c.s.z
    have hlt := c.s.lt
    have hl2 := c.lt
    rw [h1]
    go_wp2
    exact bodyPost_ret (v := .tuple #[]) (by simp [results, Tryz.results52, go_sem]) rfl ⟨rfl, c.s, c.gr⟩
end Go.Proofs.YteilpehekabccabGreatDoor

/- What has to do with memory, as far as its place, way SH. -/
namespace Go.Proofs.YteilpehekabccabGreatDoor
open Go.ChangeShapes Go.WideShapes Go.ChangeAt Go.RowKit
set_option linter.unusedVariables false
set_option linter.unusedSimpArgs false

set_option maxHeartbeats 3200000 in
theorem acc_SH (b : Nat) (S : W.St) (i : W.I) (x y : Int) (k : W.IOk i) (hx : W.Rg x) (hy : W.Rg y) (hG : W.FOk S.h.G) (hk : (W.kind i.op == 4) = false) (hs : W.sz i.op = 1 ∨ W.sz i.op = 2 ∨ W.sz i.op = 4) (p : Nat → W.Pt) (hcap : S.r.wk.n ≤ S.r.wk.c) (w : World) (h : SAt b S w) (hr : Reads S.r.wk.a S.r.wk.n p w) (hne : ∀ q off, S.r.wk.a = some ⟨q, off, none⟩ → 0 < S.r.wk.n → q ≠ b) (h0 : ((x + i.imm) % 4294967296 % W.sz i.op != 0) = false) (h1 : ((W.hwalk S.h ((x + i.imm) % 4294967296) 3 S.r.wk.n (fun j => (p j).a) (fun j => (p j).v)).k == 1) = true) (h2 : W.hhas S.h (W.hwalk S.h ((x + i.imm) % 4294967296) 3 S.r.wk.n (fun j => (p j).a) (fun j => (p j).v)).pa (W.sz i.op) = true) : Calls Tryz.prog 52 #[.pointer (some ⟨b, 0, none⟩), .agg (inCells i), .int .u32 x, .int .u32 y] w fun z w' => z = .returned (.tuple #[]) ∧ SAt b (W.smove { S with w := { S.w with wk := S.r.wk, pa := (W.hwalk S.h ((x + i.imm) % 4294967296) 3 S.r.wk.n (fun j => (p j).a) (fun j => (p j).v)).pa } } i y { W.Ef.no with ad := (W.hwalk S.h ((x + i.imm) % 4294967296) 3 S.r.wk.n (fun j => (p j).a) (fun j => (p j).v)).pa, sz := W.sz i.op }) w' ∧ w.grownBy w' (some b) := by
  have c := Cx.start i h
  have hK := kind_any i.op
  generalize W.kind i.op = KK at *
  have hZ := size_any i.op
  have hi := k
  generalize hsz : W.sz i.op = Z at *
  obtain ⟨op, rd, rs1, rs2, csr, imm, aq, rl⟩ := i
  dsimp only at *
  have hA : W.Rg ((x + imm) % 4294967296) := by unfold W.Rg; omega
  have hAw : IntKind.u32.wrap (x + imm) = (x + imm) % 4294967296 := IntKind.wrap_u32' _
  generalize (x + imm) % 4294967296 = A at *
  have hA0 := hA.1
  have hA1 := hA.2
  have hZw : IntKind.u32.wrap Z = Z := by rcases hs with rfl | rfl | rfl <;> decide
  have hZm : Z % 4294967296 = Z := by rcases hs with rfl | rfl | rfl <;> decide
  have htm : A.tmod Z = A % Z := Int.tmod_eq_emod_of_nonneg hA0
  have hZ0 : (Z == 0) = false := by rcases hs with rfl | rfl | rfl <;> decide
  have hX := W.hwalk_pa S.h A 3 S.r.wk.n (fun j => (p j).a) (fun j => (p j).v) hA (hr.2.2 0).1 (hr.2.2 1).1
  have hPl := fun w (h : SAt b { S with w := { S.w with wk := S.r.wk } } w) (hr : Reads S.r.wk.a S.r.wk.n p w) => place_a b { S with w := { S.w with wk := S.r.wk } } A 3 hA hG S.r.wk.a S.r.wk.n S.r.wk.c hcap p w h hr
  unfold W.splace at hPl
  generalize W.hwalk S.h A 3 S.r.wk.n (fun j => (p j).a) (fun j => (p j).v) = X at *
  obtain ⟨Xk, Xpa, Xad, Xvl, Xca⟩ := X
  dsimp only at *
  obtain rfl := beq_iff_eq.1 h1
  simp only [show ((1 : Int) == 2) = false from rfl, show ((1 : Int) == 1) = true from rfl, cond_false] at hPl
  unfold inCells at c ⊢
  have hlt := h.lt
  go_enter Tryz.func52, Tryz.ntmps52
  go_wp2_with (fail)
  generalize hW0 : World.alloc w _ = W0 at *
  have hr0 : Reads S.r.wk.a S.r.wk.n p W0 := by rw [← hW0]; exact hr.below ((Below.refl _ _).alloc (Nat.le_refl _) _)
  clear hW0 hr
  generalize w.heap.size = g at *
  obtain ⟨i0, i1, i2, i3, i4, i5, i6, i7⟩ := c.cells
  have hz := c.s.z
  have hl2 := c.lt
  refine (hK _).mono ?_
  rintro e w1 ⟨rfl, rfl⟩
  go_wp2_with (fail)
  replace c := c.drew
  replace hr0 := hr0.below (Below.refl W0.heap.size W0).drew
  clear i0 i1 i2 i3 i4 i5 i6 i7 hz hlt hl2
  obtain ⟨i0, i1, i2, i3, i4, i5, i6, i7⟩ := c.cells
  have hz := c.s.z
  have hlt := c.s.lt
  have hl2 := c.lt
  go_region_held3 (fun w' => w'.cell? ⟨g, 0, none⟩ = some (.int .i64 op) ∧ w'.cell? ⟨g, 5, none⟩ = some (.int .u32 imm))
    (first | (refine ⟨?_, ?_⟩ <;> assumption) | go_keep)
    (first | (go_at_call 73; refine (hZ _).mono ?_; rintro e w1 ⟨rfl, rfl⟩))
  all_goals
    generalize World.drew W0 = W1 at *
    have e52 : W1.cell? ⟨b, 52, none⟩ = some (.slice S.r.wk.a S.r.wk.n S.r.wk.c) := c.s.cr 7 rfl
    have e65 : W1.cell? ⟨b, 65, none⟩ = some (.slice S.w.wk.a S.w.wk.n S.w.wk.c) := c.s.cw 7 rfl
    go_wp2_with (fail)
    replace c := c.step (c.s.pwk S.r.wk) (gset _ _ _ _)
    have hr1 := hr0.grown (gset W1 b 65 (.slice S.r.wk.a S.r.wk.n S.r.wk.c)) hne
    clear e52 e65
    generalize World.setCell W1 _ _ = W2 at *
    clear i0 i1 i2 i3 i4 i5 i6 i7 hz hlt hl2
    obtain ⟨i0, i1, i2, i3, i4, i5, i6, i7⟩ := c.cells
    have hz := c.s.z
    have hlt := c.s.lt
    have hl2 := c.lt
    have e52 : W2.cell? ⟨b, 52, none⟩ = some (.slice S.r.wk.a S.r.wk.n S.r.wk.c) := c.s.cr 7 rfl
    have hp1 := hPl _ c.s hr1
    clear hPl hr0
    refine hp1.mono ?_
    rintro e w3 ⟨rfl, h5, g5⟩
    replace c := c.step h5 g5
    clear hp1 e52 hr1
    clear i0 i1 i2 i3 i4 i5 i6 i7 hz hlt hl2
    obtain ⟨i0, i1, i2, i3, i4, i5, i6, i7⟩ := c.cells
    have hz := c.s.z
    have hlt := c.s.lt
    have hl2 := c.lt
    have e62 : w3.cell? ⟨b, 62, none⟩ = some (.int .u32 S.w.pa) := c.s.cw 4 rfl
    go_wp2_with (fail)
    replace c := c.step (c.s.ppa Xpa) (gset _ _ _ _)
    clear e62
    generalize World.setCell w3 _ _ = W4 at *
    clear i0 i1 i2 i3 i4 i5 i6 i7 hz hlt hl2
    obtain ⟨i0, i1, i2, i3, i4, i5, i6, i7⟩ := c.cells
    have hz := c.s.z
    have hlt := c.s.lt
    have hl2 := c.lt
    have hh := has_any b _ Xpa Z hX hs _ c.s
    unfold W.hhas at hh h2
    dsimp only at hh h2
    rw [h2] at hh
    refine hh.mono ?_
    rintro e w4 ⟨rfl, rfl⟩
    clear hh
    go_wp2_with (fail)
    refine (hmove_any b _ ⟨op, rd, rs1, rs2, csr, imm, aq, rl⟩ y ⟨0, Xpa, Z, 0, false, false, false⟩ hi hy (by simpa using hs) _ c.s).mono ?_
    rintro e w5 ⟨rfl, h5, g5⟩
    replace c := c.step h5 g5
    go_wp2
    go_end0
    exact ⟨rfl, c.s, c.gr⟩
end Go.Proofs.YteilpehekabccabGreatDoor

/- What has to do with memory, as far as its place, way SR. -/
namespace Go.Proofs.YteilpehekabccabGreatDoor
open Go.ChangeShapes Go.WideShapes Go.ChangeAt Go.RowKit
set_option linter.unusedVariables false
set_option linter.unusedSimpArgs false

set_option maxHeartbeats 3200000 in
theorem acc_SR (b : Nat) (S : W.St) (i : W.I) (x y : Int) (k : W.IOk i) (hx : W.Rg x) (hy : W.Rg y) (hG : W.FOk S.h.G) (hk : (W.kind i.op == 4) = false) (hs : W.sz i.op = 1 ∨ W.sz i.op = 2 ∨ W.sz i.op = 4) (p : Nat → W.Pt) (hcap : S.r.wk.n ≤ S.r.wk.c) (w : World) (h : SAt b S w) (hr : Reads S.r.wk.a S.r.wk.n p w) (hne : ∀ q off, S.r.wk.a = some ⟨q, off, none⟩ → 0 < S.r.wk.n → q ≠ b) (h0 : ((x + i.imm) % 4294967296 % W.sz i.op != 0) = false) (h1 : ((W.hwalk S.h ((x + i.imm) % 4294967296) 3 S.r.wk.n (fun j => (p j).a) (fun j => (p j).v)).k == 1) = true) (h2 : W.hhas S.h (W.hwalk S.h ((x + i.imm) % 4294967296) 3 S.r.wk.n (fun j => (p j).a) (fun j => (p j).v)).pa (W.sz i.op) = false) (h3 : W.rings i.op (W.hwalk S.h ((x + i.imm) % 4294967296) 3 S.r.wk.n (fun j => (p j).a) (fun j => (p j).v)).pa = true) : Calls Tryz.prog 52 #[.pointer (some ⟨b, 0, none⟩), .agg (inCells i), .int .u32 x, .int .u32 y] w fun z w' => z = .returned (.tuple #[]) ∧ SAt b (W.smove { S with w := { S.w with wk := S.r.wk, pa := (W.hwalk S.h ((x + i.imm) % 4294967296) 3 S.r.wk.n (fun j => (p j).a) (fun j => (p j).v)).pa } } i y { W.Ef.no with ad := (W.hwalk S.h ((x + i.imm) % 4294967296) 3 S.r.wk.n (fun j => (p j).a) (fun j => (p j).v)).pa, sz := W.sz i.op }) w' ∧ w.grownBy w' (some b) := by
  have c := Cx.start i h
  have hK := kind_any i.op
  generalize W.kind i.op = KK at *
  have hZ := size_any i.op
  have hi := k
  generalize hsz : W.sz i.op = Z at *
  obtain ⟨op, rd, rs1, rs2, csr, imm, aq, rl⟩ := i
  dsimp only at *
  have hA : W.Rg ((x + imm) % 4294967296) := by unfold W.Rg; omega
  have hAw : IntKind.u32.wrap (x + imm) = (x + imm) % 4294967296 := IntKind.wrap_u32' _
  generalize (x + imm) % 4294967296 = A at *
  have hA0 := hA.1
  have hA1 := hA.2
  have hZw : IntKind.u32.wrap Z = Z := by rcases hs with rfl | rfl | rfl <;> decide
  have hZm : Z % 4294967296 = Z := by rcases hs with rfl | rfl | rfl <;> decide
  have htm : A.tmod Z = A % Z := Int.tmod_eq_emod_of_nonneg hA0
  have hZ0 : (Z == 0) = false := by rcases hs with rfl | rfl | rfl <;> decide
  have hX := W.hwalk_pa S.h A 3 S.r.wk.n (fun j => (p j).a) (fun j => (p j).v) hA (hr.2.2 0).1 (hr.2.2 1).1
  have hPl := fun w (h : SAt b { S with w := { S.w with wk := S.r.wk } } w) (hr : Reads S.r.wk.a S.r.wk.n p w) => place_a b { S with w := { S.w with wk := S.r.wk } } A 3 hA hG S.r.wk.a S.r.wk.n S.r.wk.c hcap p w h hr
  unfold W.splace at hPl
  generalize W.hwalk S.h A 3 S.r.wk.n (fun j => (p j).a) (fun j => (p j).v) = X at *
  obtain ⟨Xk, Xpa, Xad, Xvl, Xca⟩ := X
  dsimp only at *
  obtain rfl := beq_iff_eq.1 h1
  simp only [show ((1 : Int) == 2) = false from rfl, show ((1 : Int) == 1) = true from rfl, cond_false] at hPl
  unfold inCells at c ⊢
  have hlt := h.lt
  go_enter Tryz.func52, Tryz.ntmps52
  go_wp2_with (fail)
  generalize hW0 : World.alloc w _ = W0 at *
  have hr0 : Reads S.r.wk.a S.r.wk.n p W0 := by rw [← hW0]; exact hr.below ((Below.refl _ _).alloc (Nat.le_refl _) _)
  clear hW0 hr
  generalize w.heap.size = g at *
  obtain ⟨i0, i1, i2, i3, i4, i5, i6, i7⟩ := c.cells
  have hz := c.s.z
  have hl2 := c.lt
  refine (hK _).mono ?_
  rintro e w1 ⟨rfl, rfl⟩
  go_wp2_with (fail)
  replace c := c.drew
  replace hr0 := hr0.below (Below.refl W0.heap.size W0).drew
  clear i0 i1 i2 i3 i4 i5 i6 i7 hz hlt hl2
  obtain ⟨i0, i1, i2, i3, i4, i5, i6, i7⟩ := c.cells
  have hz := c.s.z
  have hlt := c.s.lt
  have hl2 := c.lt
  go_region_held3 (fun w' => w'.cell? ⟨g, 0, none⟩ = some (.int .i64 op) ∧ w'.cell? ⟨g, 5, none⟩ = some (.int .u32 imm))
    (first | (refine ⟨?_, ?_⟩ <;> assumption) | go_keep)
    (first | (go_at_call 73; refine (hZ _).mono ?_; rintro e w1 ⟨rfl, rfl⟩))
  all_goals
    generalize World.drew W0 = W1 at *
    have e52 : W1.cell? ⟨b, 52, none⟩ = some (.slice S.r.wk.a S.r.wk.n S.r.wk.c) := c.s.cr 7 rfl
    have e65 : W1.cell? ⟨b, 65, none⟩ = some (.slice S.w.wk.a S.w.wk.n S.w.wk.c) := c.s.cw 7 rfl
    go_wp2_with (fail)
    replace c := c.step (c.s.pwk S.r.wk) (gset _ _ _ _)
    have hr1 := hr0.grown (gset W1 b 65 (.slice S.r.wk.a S.r.wk.n S.r.wk.c)) hne
    clear e52 e65
    generalize World.setCell W1 _ _ = W2 at *
    clear i0 i1 i2 i3 i4 i5 i6 i7 hz hlt hl2
    obtain ⟨i0, i1, i2, i3, i4, i5, i6, i7⟩ := c.cells
    have hz := c.s.z
    have hlt := c.s.lt
    have hl2 := c.lt
    have e52 : W2.cell? ⟨b, 52, none⟩ = some (.slice S.r.wk.a S.r.wk.n S.r.wk.c) := c.s.cr 7 rfl
    have hp1 := hPl _ c.s hr1
    clear hPl hr0
    refine hp1.mono ?_
    rintro e w3 ⟨rfl, h5, g5⟩
    replace c := c.step h5 g5
    clear hp1 e52 hr1
    clear i0 i1 i2 i3 i4 i5 i6 i7 hz hlt hl2
    obtain ⟨i0, i1, i2, i3, i4, i5, i6, i7⟩ := c.cells
    have hz := c.s.z
    have hlt := c.s.lt
    have hl2 := c.lt
    have e62 : w3.cell? ⟨b, 62, none⟩ = some (.int .u32 S.w.pa) := c.s.cw 4 rfl
    go_wp2_with (fail)
    replace c := c.step (c.s.ppa Xpa) (gset _ _ _ _)
    clear e62
    generalize World.setCell w3 _ _ = W4 at *
    clear i0 i1 i2 i3 i4 i5 i6 i7 hz hlt hl2
    obtain ⟨i0, i1, i2, i3, i4, i5, i6, i7⟩ := c.cells
    have hz := c.s.z
    have hlt := c.s.lt
    have hl2 := c.lt
    have hh := has_any b _ Xpa Z hX hs _ c.s
    unfold W.hhas at hh h2
    dsimp only at hh h2
    rw [h2] at hh
    refine hh.mono ?_
    rintro e w4 ⟨rfl, rfl⟩
    clear hh
    go_wp2_with (fail)
    have hg := rings_any op Xpa W4
    rw [h3] at hg
    refine hg.mono ?_
    rintro e w4 ⟨rfl, rfl⟩
    clear hg
    go_wp2_with (fail)
    refine (hmove_any b _ ⟨op, rd, rs1, rs2, csr, imm, aq, rl⟩ y ⟨0, Xpa, Z, 0, false, false, false⟩ hi hy (by simpa using hs) _ c.s).mono ?_
    rintro e w5 ⟨rfl, h5, g5⟩
    replace c := c.step h5 g5
    go_wp2
    go_end0
    exact ⟨rfl, c.s, c.gr⟩
end Go.Proofs.YteilpehekabccabGreatDoor
