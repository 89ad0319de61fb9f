/- Texts in one: HartH14, HartH20, HartE1, HartE2, HartE3. -/
import Derived.Deep.RegionHeld3
import Derived.Deep.RegionWith
import Derived.Test.YteilpehekabccabGreatDoorJ06
import Derived.Test.YteilpehekabccabGreatDoorJ19
import Derived.Test.YteilpehekabccabGreatDoorJ20
/- What has to do with memory, as far as its place, way SF. -/
namespace Go.Proofs.YteilpehekabccabGreatDoor
open Go.ChangeShapes Go.WideShapes Go.ChangeAt Go.RowKit
set_option linter.unusedVariables false
set_option linter.unusedSimpArgs false

set_option maxHeartbeats 3200000 in
theorem acc_SF (b : Nat) (S : W.St) (i : W.I) (x y : Int) (k : W.IOk i) (hx : W.Rg x) (hy : W.Rg y) (hG : W.FOk S.h.G) (hk : (W.kind i.op == 4) = false) (hs : W.sz i.op = 1 ∨ W.sz i.op = 2 ∨ W.sz i.op = 4) (p : Nat → W.Pt) (hcap : S.r.wk.n ≤ S.r.wk.c) (w : World) (h : SAt b S w) (hr : Reads S.r.wk.a S.r.wk.n p w) (hne : ∀ q off, S.r.wk.a = some ⟨q, off, none⟩ → 0 < S.r.wk.n → q ≠ b) (h0 : ((x + i.imm) % 4294967296 % W.sz i.op != 0) = false) (h1 : ((W.hwalk S.h ((x + i.imm) % 4294967296) 3 S.r.wk.n (fun j => (p j).a) (fun j => (p j).v)).k == 1) = true) (h2 : W.hhas S.h (W.hwalk S.h ((x + i.imm) % 4294967296) 3 S.r.wk.n (fun j => (p j).a) (fun j => (p j).v)).pa (W.sz i.op) = false) (h3 : W.rings i.op (W.hwalk S.h ((x + i.imm) % 4294967296) 3 S.r.wk.n (fun j => (p j).a) (fun j => (p j).v)).pa = false) : Calls Tryz.prog 52 #[.pointer (some ⟨b, 0, none⟩), .agg (inCells i), .int .u32 x, .int .u32 y] w fun z w' => z = .returned (.tuple #[]) ∧ SAt b (W.strap { S with w := { S.w with wk := S.r.wk, pa := (W.hwalk S.h ((x + i.imm) % 4294967296) 3 S.r.wk.n (fun j => (p j).a) (fun j => (p j).v)).pa } } (W.cause 3 false) ((x + i.imm) % 4294967296)) w' ∧ w.grownBy w' (some b) := by
  have c := Cx.start i h
  have hK := kind_any i.op
  generalize W.kind i.op = KK at *
  have hZ := size_any i.op
  have hi := k
  generalize hsz : W.sz i.op = Z at *
  obtain ⟨op, rd, rs1, rs2, csr, imm, aq, rl⟩ := i
  dsimp only at *
  have hA : W.Rg ((x + imm) % 4294967296) := by unfold W.Rg; omega
  have hAw : IntKind.u32.wrap (x + imm) = (x + imm) % 4294967296 := IntKind.wrap_u32' _
  generalize (x + imm) % 4294967296 = A at *
  have hA0 := hA.1
  have hA1 := hA.2
  have hZw : IntKind.u32.wrap Z = Z := by rcases hs with rfl | rfl | rfl <;> decide
  have hZm : Z % 4294967296 = Z := by rcases hs with rfl | rfl | rfl <;> decide
  have htm : A.tmod Z = A % Z := Int.tmod_eq_emod_of_nonneg hA0
  have hZ0 : (Z == 0) = false := by rcases hs with rfl | rfl | rfl <;> decide
  have hX := W.hwalk_pa S.h A 3 S.r.wk.n (fun j => (p j).a) (fun j => (p j).v) hA (hr.2.2 0).1 (hr.2.2 1).1
  have hPl := fun w (h : SAt b { S with w := { S.w with wk := S.r.wk } } w) (hr : Reads S.r.wk.a S.r.wk.n p w) => place_a b { S with w := { S.w with wk := S.r.wk } } A 3 hA hG S.r.wk.a S.r.wk.n S.r.wk.c hcap p w h hr
  unfold W.splace at hPl
  generalize W.hwalk S.h A 3 S.r.wk.n (fun j => (p j).a) (fun j => (p j).v) = X at *
  obtain ⟨Xk, Xpa, Xad, Xvl, Xca⟩ := X
  dsimp only at *
  obtain rfl := beq_iff_eq.1 h1
  simp only [show ((1 : Int) == 2) = false from rfl, show ((1 : Int) == 1) = true from rfl, cond_false] at hPl
  unfold inCells at c ⊢
  have hlt := h.lt
  go_enter Tryz.func52, Tryz.ntmps52
  go_wp2_with (fail)
  generalize hW0 : World.alloc w _ = W0 at *
  have hr0 : Reads S.r.wk.a S.r.wk.n p W0 := by rw [← hW0]; exact hr.below ((Below.refl _ _).alloc (Nat.le_refl _) _)
  clear hW0 hr
  generalize w.heap.size = g at *
  obtain ⟨i0, i1, i2, i3, i4, i5, i6, i7⟩ := c.cells
  have hz := c.s.z
  have hl2 := c.lt
  refine (hK _).mono ?_
  rintro e w1 ⟨rfl, rfl⟩
  go_wp2_with (fail)
  replace c := c.drew
  replace hr0 := hr0.below (Below.refl W0.heap.size W0).drew
  clear i0 i1 i2 i3 i4 i5 i6 i7 hz hlt hl2
  obtain ⟨i0, i1, i2, i3, i4, i5, i6, i7⟩ := c.cells
  have hz := c.s.z
  have hlt := c.s.lt
  have hl2 := c.lt
  go_region_held3 (fun w' => w'.cell? ⟨g, 0, none⟩ = some (.int .i64 op) ∧ w'.cell? ⟨g, 5, none⟩ = some (.int .u32 imm))
    (first | (refine ⟨?_, ?_⟩ <;> assumption) | go_keep)
    (first | (go_at_call 73; refine (hZ _).mono ?_; rintro e w1 ⟨rfl, rfl⟩))
  all_goals
    generalize World.drew W0 = W1 at *
    have e52 : W1.cell? ⟨b, 52, none⟩ = some (.slice S.r.wk.a S.r.wk.n S.r.wk.c) := c.s.cr 7 rfl
    have e65 : W1.cell? ⟨b, 65, none⟩ = some (.slice S.w.wk.a S.w.wk.n S.w.wk.c) := c.s.cw 7 rfl
    go_wp2_with (fail)
    replace c := c.step (c.s.pwk S.r.wk) (gset _ _ _ _)
    have hr1 := hr0.grown (gset W1 b 65 (.slice S.r.wk.a S.r.wk.n S.r.wk.c)) hne
    clear e52 e65
    generalize World.setCell W1 _ _ = W2 at *
    clear i0 i1 i2 i3 i4 i5 i6 i7 hz hlt hl2
    obtain ⟨i0, i1, i2, i3, i4, i5, i6, i7⟩ := c.cells
    have hz := c.s.z
    have hlt := c.s.lt
    have hl2 := c.lt
    have e52 : W2.cell? ⟨b, 52, none⟩ = some (.slice S.r.wk.a S.r.wk.n S.r.wk.c) := c.s.cr 7 rfl
    have hp1 := hPl _ c.s hr1
    clear hPl hr0
    refine hp1.mono ?_
    rintro e w3 ⟨rfl, h5, g5⟩
    replace c := c.step h5 g5
    clear hp1 e52 hr1
    clear i0 i1 i2 i3 i4 i5 i6 i7 hz hlt hl2
    obtain ⟨i0, i1, i2, i3, i4, i5, i6, i7⟩ := c.cells
    have hz := c.s.z
    have hlt := c.s.lt
    have hl2 := c.lt
    have e62 : w3.cell? ⟨b, 62, none⟩ = some (.int .u32 S.w.pa) := c.s.cw 4 rfl
    go_wp2_with (fail)
    replace c := c.step (c.s.ppa Xpa) (gset _ _ _ _)
    clear e62
    generalize World.setCell w3 _ _ = W4 at *
    clear i0 i1 i2 i3 i4 i5 i6 i7 hz hlt hl2
    obtain ⟨i0, i1, i2, i3, i4, i5, i6, i7⟩ := c.cells
    have hz := c.s.z
    have hlt := c.s.lt
    have hl2 := c.lt
    have hh := has_any b _ Xpa Z hX hs _ c.s
    unfold W.hhas at hh h2
    dsimp only at hh h2
    rw [h2] at hh
    refine hh.mono ?_
    rintro e w4 ⟨rfl, rfl⟩
    clear hh
    go_wp2_with (fail)
    have hg := rings_any op Xpa W4
    rw [h3] at hg
    refine hg.mono ?_
    rintro e w4 ⟨rfl, rfl⟩
    clear hg
    go_wp2_with (fail)
    refine (cause_any _ _ _).mono ?_
    rintro e w4 ⟨rfl, rfl⟩
    go_wp2_with (fail)
    refine (htrap_any b _ _ _ _ c.s).mono ?_
    rintro e w5 ⟨rfl, h5, g5⟩
    replace c := c.step h5 g5
    go_wp2
    exact bodyPost_ret (v := .tuple #[]) (by simp [results, Tryz.results52, go_sem]) rfl ⟨rfl, c.s, c.gr⟩
end Go.Proofs.YteilpehekabccabGreatDoor

/- What has to do with memory: every way. -/
namespace Go.Proofs.YteilpehekabccabGreatDoor
open Go.ChangeShapes Go.WideShapes Go.ChangeAt Go.RowKit
set_option linter.unusedVariables false
set_option linter.unusedSimpArgs false

theorem acc_any (b : Nat) (S : W.St) (i : W.I) (x y : Int) (k : W.IOk i) (hx : W.Rg x) (hy : W.Rg y) (hG : W.FOk S.h.G) (hs : W.sz i.op = 1 ∨ W.sz i.op = 2 ∨ W.sz i.op = 4) (p : Nat → W.Pt) (hcap : S.r.wk.n ≤ S.r.wk.c) (w : World) (h : SAt b S w) (hr : Reads S.r.wk.a S.r.wk.n p w) (hne : ∀ q off, S.r.wk.a = some ⟨q, off, none⟩ → 0 < S.r.wk.n → q ≠ b) : Calls Tryz.prog 52 #[.pointer (some ⟨b, 0, none⟩), .agg (inCells i), .int .u32 x, .int .u32 y] w fun z w' => z = .returned (.tuple #[]) ∧ SAt b (W.sacc S i x y S.r.wk.n (fun j => (p j).a) (fun j => (p j).v)) w' ∧ w.grownBy w' (some b) := by
  cases hk : (W.kind i.op == 4)
  · cases h0 : (((x + i.imm) % 4294967296) % W.sz i.op != 0)
    · cases h1 : ((W.hwalk S.h ((x + i.imm) % 4294967296) 3 S.r.wk.n (fun j => (p j).a) (fun j => (p j).v)).k == 1)
      · skip
        have e : W.sacc S i x y S.r.wk.n (fun j => (p j).a) (fun j => (p j).v) = W.splace { S with w := { S.w with wk := S.r.wk } } ((x + i.imm) % 4294967296) 3 S.r.wk.n (fun j => (p j).a) (fun j => (p j).v) := by
          simp only [W.sacc, W.sacc1, W.sacc2, hk, h0, h1, cond_true, cond_false, Bool.not_true, Bool.not_false, Bool.and_true, Bool.and_false, Bool.false_and, Bool.true_and]
        rw [e]
        exact acc_SP b S i x y k hx hy hG hk hs p hcap w h hr hne h0 h1
      · cases h2 : W.hhas S.h (W.hwalk S.h ((x + i.imm) % 4294967296) 3 S.r.wk.n (fun j => (p j).a) (fun j => (p j).v)).pa (W.sz i.op)
        · cases h3 : W.rings i.op (W.hwalk S.h ((x + i.imm) % 4294967296) 3 S.r.wk.n (fun j => (p j).a) (fun j => (p j).v)).pa
          · skip
            have e : W.sacc S i x y S.r.wk.n (fun j => (p j).a) (fun j => (p j).v) = W.strap { S with w := { S.w with wk := S.r.wk, pa := (W.hwalk S.h ((x + i.imm) % 4294967296) 3 S.r.wk.n (fun j => (p j).a) (fun j => (p j).v)).pa } } (W.cause 3 false) ((x + i.imm) % 4294967296) := by
              simp only [W.sacc, W.sacc1, W.sacc2, hk, h0, h1, h2, h3, cond_true, cond_false, Bool.not_true, Bool.not_false, Bool.and_true, Bool.and_false, Bool.false_and, Bool.true_and]
            rw [e]
            exact acc_SF b S i x y k hx hy hG hk hs p hcap w h hr hne h0 h1 h2 h3
          · skip
            have e : W.sacc S i x y S.r.wk.n (fun j => (p j).a) (fun j => (p j).v) = W.smove { S with w := { S.w with wk := S.r.wk, pa := (W.hwalk S.h ((x + i.imm) % 4294967296) 3 S.r.wk.n (fun j => (p j).a) (fun j => (p j).v)).pa } } i y { W.Ef.no with ad := (W.hwalk S.h ((x + i.imm) % 4294967296) 3 S.r.wk.n (fun j => (p j).a) (fun j => (p j).v)).pa, sz := W.sz i.op } := by
              simp only [W.sacc, W.sacc1, W.sacc2, hk, h0, h1, h2, h3, cond_true, cond_false, Bool.not_true, Bool.not_false, Bool.and_true, Bool.and_false, Bool.false_and, Bool.true_and]
            rw [e]
            exact acc_SR b S i x y k hx hy hG hk hs p hcap w h hr hne h0 h1 h2 h3
        · skip
          have e : W.sacc S i x y S.r.wk.n (fun j => (p j).a) (fun j => (p j).v) = W.smove { S with w := { S.w with wk := S.r.wk, pa := (W.hwalk S.h ((x + i.imm) % 4294967296) 3 S.r.wk.n (fun j => (p j).a) (fun j => (p j).v)).pa } } i y { W.Ef.no with ad := (W.hwalk S.h ((x + i.imm) % 4294967296) 3 S.r.wk.n (fun j => (p j).a) (fun j => (p j).v)).pa, sz := W.sz i.op } := by
            simp only [W.sacc, W.sacc1, W.sacc2, hk, h0, h1, h2, cond_true, cond_false, Bool.not_true, Bool.not_false, Bool.and_true, Bool.and_false, Bool.false_and, Bool.true_and]
          rw [e]
          exact acc_SH b S i x y k hx hy hG hk hs p hcap w h hr hne h0 h1 h2
    · skip
      have e : W.sacc S i x y S.r.wk.n (fun j => (p j).a) (fun j => (p j).v) = W.strap S 6 ((x + i.imm) % 4294967296) := by
        simp only [W.sacc, W.sacc1, W.sacc2, hk, h0, cond_true, cond_false, Bool.not_true, Bool.not_false, Bool.and_true, Bool.and_false, Bool.false_and, Bool.true_and]
      rw [e]
      exact acc_SM b S i x y k hx hy hG hk hs p hcap w h hr hne h0
  · have hk' : W.kind i.op = 4 := beq_iff_eq.1 hk
    cases h0 : (((x + i.imm) % 4294967296) % W.sz i.op != 0)
    · cases h1 : ((W.hwalk S.h ((x + i.imm) % 4294967296) 2 S.r.wk.n (fun j => (p j).a) (fun j => (p j).v)).k == 1)
      · skip
        have e : W.sacc S i x y S.r.wk.n (fun j => (p j).a) (fun j => (p j).v) = W.splace { S with w := { S.w with wk := S.r.wk } } ((x + i.imm) % 4294967296) 2 S.r.wk.n (fun j => (p j).a) (fun j => (p j).v) := by
          simp only [W.sacc, W.sacc1, W.sacc2, hk, h0, h1, cond_true, cond_false, Bool.not_true, Bool.not_false, Bool.and_true, Bool.and_false, Bool.false_and, Bool.true_and]
        rw [e]
        exact acc_LP b S i x y k hx hy hG hk' hs p hcap w h hr hne h0 h1
      · cases h2 : W.hhas S.h (W.hwalk S.h ((x + i.imm) % 4294967296) 2 S.r.wk.n (fun j => (p j).a) (fun j => (p j).v)).pa (W.sz i.op)
        · cases h3 : W.rings i.op (W.hwalk S.h ((x + i.imm) % 4294967296) 2 S.r.wk.n (fun j => (p j).a) (fun j => (p j).v)).pa
          · skip
            have e : W.sacc S i x y S.r.wk.n (fun j => (p j).a) (fun j => (p j).v) = W.strap { S with w := { S.w with wk := S.r.wk, pa := (W.hwalk S.h ((x + i.imm) % 4294967296) 2 S.r.wk.n (fun j => (p j).a) (fun j => (p j).v)).pa } } (W.cause 2 false) ((x + i.imm) % 4294967296) := by
              simp only [W.sacc, W.sacc1, W.sacc2, hk, h0, h1, h2, h3, cond_true, cond_false, Bool.not_true, Bool.not_false, Bool.and_true, Bool.and_false, Bool.false_and, Bool.true_and]
            rw [e]
            exact acc_LF b S i x y k hx hy hG hk' hs p hcap w h hr hne h0 h1 h2 h3
          · skip
            have e : W.sacc S i x y S.r.wk.n (fun j => (p j).a) (fun j => (p j).v) = W.smove { S with w := { S.w with wk := S.r.wk, pa := (W.hwalk S.h ((x + i.imm) % 4294967296) 2 S.r.wk.n (fun j => (p j).a) (fun j => (p j).v)).pa } } i y { W.Ef.no with ad := (W.hwalk S.h ((x + i.imm) % 4294967296) 2 S.r.wk.n (fun j => (p j).a) (fun j => (p j).v)).pa, sz := W.sz i.op } := by
              simp only [W.sacc, W.sacc1, W.sacc2, hk, h0, h1, h2, h3, cond_true, cond_false, Bool.not_true, Bool.not_false, Bool.and_true, Bool.and_false, Bool.false_and, Bool.true_and]
            rw [e]
            exact acc_LR b S i x y k hx hy hG hk' hs p hcap w h hr hne h0 h1 h2 h3
        · skip
          have e : W.sacc S i x y S.r.wk.n (fun j => (p j).a) (fun j => (p j).v) = W.smove { S with w := { S.w with wk := S.r.wk, pa := (W.hwalk S.h ((x + i.imm) % 4294967296) 2 S.r.wk.n (fun j => (p j).a) (fun j => (p j).v)).pa } } i y { W.Ef.no with ad := (W.hwalk S.h ((x + i.imm) % 4294967296) 2 S.r.wk.n (fun j => (p j).a) (fun j => (p j).v)).pa, sz := W.sz i.op } := by
            simp only [W.sacc, W.sacc1, W.sacc2, hk, h0, h1, h2, cond_true, cond_false, Bool.not_true, Bool.not_false, Bool.and_true, Bool.and_false, Bool.false_and, Bool.true_and]
          rw [e]
          exact acc_LH b S i x y k hx hy hG hk' hs p hcap w h hr hne h0 h1 h2
    · skip
      have e : W.sacc S i x y S.r.wk.n (fun j => (p j).a) (fun j => (p j).v) = W.strap S 4 ((x + i.imm) % 4294967296) := by
        simp only [W.sacc, W.sacc1, W.sacc2, hk, h0, cond_true, cond_false, Bool.not_true, Bool.not_false, Bool.and_true, Bool.and_false, Bool.false_and, Bool.true_and]
      rw [e]
      exact acc_LM b S i x y k hx hy hG hk' hs p hcap w h hr hne h0
end Go.Proofs.YteilpehekabccabGreatDoor

/- Registers of control are read and written, way A. -/
namespace Go.Proofs.YteilpehekabccabGreatDoor
open Go.ChangeShapes Go.WideShapes Go.ChangeAt Go.RowKit
set_option linter.unusedVariables false
set_option linter.unusedSimpArgs false

set_option maxHeartbeats 1600000 in
theorem ctl_A (b : Nat) (S : W.St) (i : W.I) (a : Int) (k : W.IOk i) (w : World) (h : SAt b S w) (hg : W.getB S.h.G i.csr = false) : Calls Tryz.prog 79 #[.pointer (some ⟨b, 0, none⟩), .agg (inCells i), .int .u32 a] w fun x w' => x = .returned (.tuple #[]) ∧ SAt b (W.sill S) w' ∧ w.grownBy w' (some b) := by
  have c := Cx.start i h
  have rd0 := k.rd0
  have rd1 := k.rd1
  obtain ⟨op, rd, rs1, rs2, csr, imm, aq, rl⟩ := i
  dsimp only at *
  unfold inCells at c ⊢
  go_enter Tryz.func79, Tryz.ntmps79
  go_wp2_with (fail)
  generalize hW : World.alloc w _ = W0 at *
  generalize w.heap.size = g at *
  clear hW k
  obtain ⟨i0, i1, i2, i3, i4, i5, i6, i7⟩ := c.cells
  have hz := c.s.z
  have hlt := c.s.lt
  have hl2 := c.lt
  go_region_with (go_at_call 98; refine (get_s b S csr W0.drew c.drew.s).mono ?_; rw [hg]; rintro e w1 ⟨rfl, rfl⟩)
  replace c := c.drew
  generalize World.drew W0 = W1 at *
  clear i0 i1 i2 i3 i4 i5 i6 i7 hz hlt hl2
  obtain ⟨i0, i1, i2, i3, i4, i5, i6, i7⟩ := c.cells
  have hz := c.s.z
  have hlt := c.s.lt
  have hl2 := c.lt
  go_wp2_with (fail)
  refine (illegal_any b _ _ c.s).mono ?_
  rintro e w1 ⟨rfl, h1, g1⟩
  replace c := c.step h1 g1
  clear i0 i1 i2 i3 i4 i5 i6 i7 hz hlt hl2
  obtain ⟨i0, i1, i2, i3, i4, i5, i6, i7⟩ := c.cells
  have hz := c.s.z
  have hlt := c.s.lt
  have hl2 := c.lt
  go_wp2
  exact bodyPost_ret (v := .tuple #[]) (by simp [results, Tryz.results79, go_sem]) rfl ⟨rfl, c.s, c.gr⟩
end Go.Proofs.YteilpehekabccabGreatDoor

/- Registers of control are read and written, way B. -/
namespace Go.Proofs.YteilpehekabccabGreatDoor
open Go.ChangeShapes Go.WideShapes Go.ChangeAt Go.RowKit
set_option linter.unusedVariables false
set_option linter.unusedSimpArgs false

set_option maxHeartbeats 1600000 in
theorem ctl_B (b : Nat) (S : W.St) (i : W.I) (a : Int) (k : W.IOk i) (w : World) (h : SAt b S w) (hg : W.getB S.h.G i.csr = true) (h1 : (i.csr == 3860) = true) (hw : W.writes i = true) : Calls Tryz.prog 79 #[.pointer (some ⟨b, 0, none⟩), .agg (inCells i), .int .u32 a] w fun x w' => x = .returned (.tuple #[]) ∧ SAt b (W.sill S) w' ∧ w.grownBy w' (some b) := by
  have c := Cx.start i h
  have rd0 := k.rd0
  have rd1 := k.rd1
  obtain ⟨op, rd, rs1, rs2, csr, imm, aq, rl⟩ := i
  dsimp only at *
  unfold inCells at c ⊢
  go_enter Tryz.func79, Tryz.ntmps79
  go_wp2_with (fail)
  generalize hW : World.alloc w _ = W0 at *
  generalize w.heap.size = g at *
  clear hW k
  obtain ⟨i0, i1, i2, i3, i4, i5, i6, i7⟩ := c.cells
  have hz := c.s.z
  have hlt := c.s.lt
  have hl2 := c.lt
  go_region_with (go_at_call 98; refine (get_s b S csr W0.drew c.drew.s).mono ?_; rw [hg]; rintro e w1 ⟨rfl, rfl⟩)
  replace c := c.drew
  generalize World.drew W0 = W1 at *
  clear i0 i1 i2 i3 i4 i5 i6 i7 hz hlt hl2
  obtain ⟨i0, i1, i2, i3, i4, i5, i6, i7⟩ := c.cells
  have hz := c.s.z
  have hlt := c.s.lt
  have hl2 := c.lt
  go_wp2_with (fail)
  refine (writes_any ⟨op, rd, rs1, rs2, csr, imm, aq, rl⟩ _).mono ?_
  rintro e w1 ⟨rfl, hb⟩
  rw [hw]
  replace c := c.below hb
  clear i0 i1 i2 i3 i4 i5 i6 i7 hz hlt hl2
  obtain ⟨i0, i1, i2, i3, i4, i5, i6, i7⟩ := c.cells
  have hz := c.s.z
  have hlt := c.s.lt
  have hl2 := c.lt
  go_wp2_with (fail)
  refine (illegal_any b _ _ c.s).mono ?_
  rintro e w1 ⟨rfl, h1, g1⟩
  replace c := c.step h1 g1
  clear i0 i1 i2 i3 i4 i5 i6 i7 hz hlt hl2
  obtain ⟨i0, i1, i2, i3, i4, i5, i6, i7⟩ := c.cells
  have hz := c.s.z
  have hlt := c.s.lt
  have hl2 := c.lt
  go_wp2
  exact bodyPost_ret (v := .tuple #[]) (by simp [results, Tryz.results79, go_sem]) rfl ⟨rfl, c.s, c.gr⟩
end Go.Proofs.YteilpehekabccabGreatDoor

/- Registers of control are read and written, way C. -/
namespace Go.Proofs.YteilpehekabccabGreatDoor
open Go.ChangeShapes Go.WideShapes Go.ChangeAt Go.RowKit
set_option linter.unusedVariables false
set_option linter.unusedSimpArgs false

set_option maxHeartbeats 1600000 in
theorem ctl_C (b : Nat) (S : W.St) (i : W.I) (a : Int) (k : W.IOk i) (w : World) (h : SAt b S w) (hg : W.getB S.h.G i.csr = true) (h1 : (i.csr == 3860) = true) (h2 : (i.csr == 836) = false) (hw : W.writes i = false) : Calls Tryz.prog 79 #[.pointer (some ⟨b, 0, none⟩), .agg (inCells i), .int .u32 a] w fun x w' => x = .returned (.tuple #[]) ∧ SAt b (W.sret (W.sput S i.rd (W.getV S.h.G i.csr)) W.Ef.no) w' ∧ w.grownBy w' (some b) := by
  have c := Cx.start i h
  have rd0 := k.rd0
  have rd1 := k.rd1
  obtain ⟨op, rd, rs1, rs2, csr, imm, aq, rl⟩ := i
  dsimp only at *
  unfold inCells at c ⊢
  go_enter Tryz.func79, Tryz.ntmps79
  go_wp2_with (fail)
  generalize hW : World.alloc w _ = W0 at *
  generalize w.heap.size = g at *
  clear hW k
  obtain ⟨i0, i1, i2, i3, i4, i5, i6, i7⟩ := c.cells
  have hz := c.s.z
  have hlt := c.s.lt
  have hl2 := c.lt
  go_region_with (go_at_call 98; refine (get_s b S csr W0.drew c.drew.s).mono ?_; rw [hg]; rintro e w1 ⟨rfl, rfl⟩)
  replace c := c.drew
  generalize World.drew W0 = W1 at *
  clear i0 i1 i2 i3 i4 i5 i6 i7 hz hlt hl2
  obtain ⟨i0, i1, i2, i3, i4, i5, i6, i7⟩ := c.cells
  have hz := c.s.z
  have hlt := c.s.lt
  have hl2 := c.lt
  go_wp2_with (fail)
  refine (writes_any ⟨op, rd, rs1, rs2, csr, imm, aq, rl⟩ _).mono ?_
  rintro e w1 ⟨rfl, hb⟩
  rw [hw]
  replace c := c.below hb
  clear i0 i1 i2 i3 i4 i5 i6 i7 hz hlt hl2
  obtain ⟨i0, i1, i2, i3, i4, i5, i6, i7⟩ := c.cells
  have hz := c.s.z
  have hlt := c.s.lt
  have hl2 := c.lt
  go_wp2_with (fail)
  refine (writes_any ⟨op, rd, rs1, rs2, csr, imm, aq, rl⟩ _).mono ?_
  rintro e w1 ⟨rfl, hb⟩
  rw [hw]
  replace c := c.below hb
  clear i0 i1 i2 i3 i4 i5 i6 i7 hz hlt hl2
  obtain ⟨i0, i1, i2, i3, i4, i5, i6, i7⟩ := c.cells
  have hz := c.s.z
  have hlt := c.s.lt
  have hl2 := c.lt
  go_wp2_with (fail)
  have hp := fun v => put_any b _ rd v rd0 rd1 _ c.drew.s
  go_region_with (go_at_call 71; refine (hp _).mono ?_; rintro e w1 ⟨rfl, h1, g1⟩)
  clear hp
  replace c := c.drew.step h1 g1
  clear i0 i1 i2 i3 i4 i5 i6 i7 hz hlt hl2
  obtain ⟨i0, i1, i2, i3, i4, i5, i6, i7⟩ := c.cells
  have hz := c.s.z
  have hlt := c.s.lt
  have hl2 := c.lt
  go_wp2_with (fail)
  refine (retire_any b _ W.Ef.no _ c.s).mono ?_
  rintro e w1 ⟨rfl, h1, g1⟩
  replace c := c.step h1 g1
  clear i0 i1 i2 i3 i4 i5 i6 i7 hz hlt hl2
  obtain ⟨i0, i1, i2, i3, i4, i5, i6, i7⟩ := c.cells
  have hz := c.s.z
  have hlt := c.s.lt
  have hl2 := c.lt
  go_wp2
  go_end0
  exact ⟨rfl, c.s, c.gr⟩
end Go.Proofs.YteilpehekabccabGreatDoor
