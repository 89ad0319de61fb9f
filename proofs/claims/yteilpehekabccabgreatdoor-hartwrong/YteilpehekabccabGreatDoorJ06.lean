/- Texts in one: HartB, HartC, Enc3, IsaA, HartD, CsrM, HartN, HartE0, HartK0. -/
import Derived.Deep.RegionHeld3
import Derived.Deep.RegionWith
import Derived.Deep.WholeRow
import Derived.Test.YteilpehekabccabGreatDoorJ01
import Derived.Test.YteilpehekabccabGreatDoorJ03
import Derived.Test.YteilpehekabccabGreatDoorJ04
import Derived.Test.YteilpehekabccabGreatDoorJ05
/- What the small methods of package hart answer, and what they leave. -/
namespace Go.Proofs.YteilpehekabccabGreatDoor
open Go.ChangeShapes Go.WideShapes Go.ChangeAt Go.RowKit
set_option linter.unusedVariables false
set_option linter.unusedSimpArgs false

theorem trap_s (b : Nat) (S : W.St) (c t q : Int) (w : World) (h : SAt b S w) : Calls Tryz.prog 45 #[.pointer (some ⟨b, 0, none⟩), .int .u32 c, .int .u32 t, .int .u32 q] w fun x w' => x = .returned (.int .u32 S.h.G.tvec) ∧ SAt b { S with h := { S.h with G := W.trap S.h.G c t q } } w' ∧ w.grownBy w' (some b) :=
  trap_any (55, sRest S) b S.h.G c t q w h
theorem bell_s (b : Nat) (S : W.St) (on : Bool) (w : World) (h : SAt b S w) : Calls Tryz.prog 29 #[.pointer (some ⟨b, 0, none⟩), .bool on] w fun x w' => x = .returned (.tuple #[]) ∧ SAt b { S with h := { S.h with G := W.bell S.h.G on } } w' ∧ w.grownBy w' (some b) :=
  bell_any (55, sRest S) b S.h.G on w h
theorem set_s (b : Nat) (S : W.St) (n v : Int) (w : World) (h : SAt b S w) : Calls Tryz.prog 100 #[.pointer (some ⟨b, 0, none⟩), .int .i64 n, .int .u32 v] w fun x w' => x = .returned (.bool (W.setB S.h.G n)) ∧ SAt b { S with h := { S.h with G := W.fset S.h.G n v } } w' ∧ w.grownBy w' (some b) :=
  set_any (55, sRest S) b S.h.G n v w h
theorem return_s (b : Nat) (S : W.St) (w : World) (h : SAt b S w) : Calls Tryz.prog 97 #[.pointer (some ⟨b, 0, none⟩)] w fun x w' => x = .returned (.int .u32 S.h.G.epc) ∧ SAt b { S with h := { S.h with G := W.fret S.h.G } } w' ∧ w.grownBy w' (some b) :=
  return_any (55, sRest S) b S.h.G w h
theorem get_s (b : Nat) (S : W.St) (n : Int) (w : World) (h : SAt b S w) : Calls Tryz.prog 98 #[.pointer (some ⟨b, 0, none⟩), .int .i64 n] w fun x w' => x = .returned (.tuple #[.int .u32 (W.getV S.h.G n), .bool (W.getB S.h.G n)]) ∧ w = w' :=
  get_any (55, sRest S) b S.h.G n w h
theorem mode_s (b : Nat) (S : W.St) (w : World) (h : SAt b S w) : Calls Tryz.prog 62 #[.pointer (some ⟨b, 0, none⟩)] w fun x w' => x = .returned (.int .i64 S.h.G.m) ∧ w = w' :=
  mode_any (55, sRest S) b S.h.G w h
theorem satp_s (b : Nat) (S : W.St) (w : World) (h : SAt b S w) : Calls Tryz.prog 61 #[.pointer (some ⟨b, 0, none⟩)] w fun x w' => x = .returned (.int .u32 S.h.G.satp) ∧ w = w' :=
  satp_any (55, sRest S) b S.h.G w h
theorem pending_s (b : Nat) (S : W.St) (w : World) (h : SAt b S w) : Calls Tryz.prog 30 #[.pointer (some ⟨b, 0, none⟩)] w fun x w' => x = .returned (.tuple #[.int .u32 (W.pendV S.h.G), .bool (W.pend S.h.G)]) ∧ Below w.heap.size w w' :=
  pending_any (55, sRest S) b S.h.G w h

set_option maxHeartbeats 1600000 in
theorem htrap_any (b : Nat) (S : W.St) (c t : Int) (w : World) (h : SAt b S w) : Calls Tryz.prog 31 #[.pointer (some ⟨b, 0, none⟩), .int .u32 c, .int .u32 t] w fun x w' => x = .returned (.tuple #[]) ∧ SAt b (W.strap S c t) w' ∧ w.grownBy w' (some b) := by
  have c58 : w.cell? ⟨b, 58, none⟩ = some (.int .i64 S.w.k) := h.cw 0 rfl
  have c66 : w.cell? ⟨b, 66, none⟩ = some (.int .u32 S.w.ca) := h.cw 8 rfl
  have c67 : w.cell? ⟨b, 67, none⟩ = some (.int .u32 S.w.tv) := h.cw 9 rfl
  have hz := h.z
  have hlt := h.lt
  go_enter Tryz.func31, Tryz.ntmps31
  go_wp2_with fail
  generalize hW : ((World.setCell (World.setCell (World.setCell w _ _) _ _) _ _)) = W1
  have h1 : SAt b { S with w := { S.w with k := 2, ca := c, tv := t } } W1 := by
    rw [← hW]
    exact ((h.pk 2).pca c).ptv t
  have g1 : w.grownBy W1 (some b) := by
    rw [← hW]
    exact gtrans (gtrans (gset _ _ _ _) (gset _ _ _ _)) (gset _ _ _ _)
  clear hW c58 c66 c67 hz hlt
  have c12 : W1.cell? ⟨b, 12, none⟩ = some (.int .u32 S.h.pc) := h1.ch 1 rfl
  have hz := h1.z
  have hlt := h1.lt
  go_region_with (go_at_call 45; refine (trap_s b { S with w := { S.w with k := 2, ca := c, tv := t } } c t S.h.pc W1.drew h1.drew).mono ?_; rintro e w3 ⟨rfl, h3, g3⟩; clear c12 hz hlt; have hz := h3.z; have hlt := h3.lt; have c12 : w3.cell? ⟨b, 12, none⟩ = some (.int .u32 S.h.pc) := h3.ch 1 rfl)
  all_goals
    go_wp2
    go_end0
    exact ⟨rfl, h3.ppc _, gtrans g1 (gtrans (gbelow (Below.refl W1.heap.size W1).drew) (gtrans g3 (gset _ _ _ _)))⟩
end Go.Proofs.YteilpehekabccabGreatDoor

/- Registers of a hart in memory. -/
namespace Go.Proofs.YteilpehekabccabGreatDoor
open Go.ChangeShapes Go.WideShapes Go.ChangeAt Go.RowKit
set_option linter.unusedVariables false
set_option linter.unusedSimpArgs false

theorem lt32 (j : Nat) (hj : j < 32) : j = 0 ∨ j = 1 ∨ j = 2 ∨ j = 3 ∨ j = 4 ∨ j = 5 ∨ j = 6 ∨ j = 7 ∨ j = 8 ∨ j = 9 ∨ j = 10 ∨ j = 11 ∨ j = 12 ∨ j = 13 ∨ j = 14 ∨ j = 15 ∨ j = 16 ∨ j = 17 ∨ j = 18 ∨ j = 19 ∨ j = 20 ∨ j = 21 ∨ j = 22 ∨ j = 23 ∨ j = 24 ∨ j = 25 ∨ j = 26 ∨ j = 27 ∨ j = 28 ∨ j = 29 ∨ j = 30 ∨ j = 31 := by omega
theorem hRest_x (h : W.Ht) (j : Nat) (hj : j < 32) : (hRest h)[2 + j]? = some (.int .u32 (h.x j)) := by
  rcases lt32 j hj with rfl | rfl | rfl | rfl | rfl | rfl | rfl | rfl | rfl | rfl | rfl | rfl | rfl | rfl | rfl | rfl | rfl | rfl | rfl | rfl | rfl | rfl | rfl | rfl | rfl | rfl | rfl | rfl | rfl | rfl | rfl | rfl <;> rfl
theorem hRest_put (h : W.Ht) (j : Nat) (hj : j < 32) (v : Int) : (hRest h).setIfInBounds (2 + j) (.int .u32 v) = hRest { h with x := W.upd h.x (j : Int) v } := by
  rcases lt32 j hj with rfl | rfl | rfl | rfl | rfl | rfl | rfl | rfl | rfl | rfl | rfl | rfl | rfl | rfl | rfl | rfl | rfl | rfl | rfl | rfl | rfl | rfl | rfl | rfl | rfl | rfl | rfl | rfl | rfl | rfl | rfl | rfl <;> rfl
/-- The registers x lie in block b, behind a file and two numbers. -/
def Xs (b : Nat) (x : Nat → Int) (w : World) : Prop := ∀ j, j < 32 → w.cell? ⟨b, 13 + j, none⟩ = some (.int .u32 (x j))
theorem At.xs {b : Nat} {S : W.St} {w : World} (h : SAt b S w) : Xs b S.h.x w := fun j hj => by
  have := h.ch (2 + j) (hRest_x S.h j hj) (by omega)
  rwa [show 11 + (2 + j) = 13 + j by omega] at this
theorem At.xh {b : Nat} {H : W.Ht} {w : World} (h : HAt b H w) : Xs b H.x w := fun j hj => by
  have := h.c (2 + j) (hRest_x H j hj)
  rwa [show 11 + (2 + j) = 13 + j by omega] at this

theorem x_any (b : Nat) (H : W.Ht) (i : Int) (w : World) (h : Xs b H.x w) : Calls Tryz.prog 11 #[.pointer (some ⟨b, 0, none⟩), .int .i64 i] w fun x w' => x = .returned (.int .u32 (W.xget H i)) ∧ w = w' := by
  by_cases h0 : i < 0
  · have hv : Hid (W.xget H i = 0) := (by simp [W.xget, h0] : W.xget H i = 0)
    go_enter Tryz.func11, Tryz.ntmps11
    go_wp2
    go_ret
    exact ⟨ret_int hv.out.symm, rfl⟩
  · by_cases h1 : 32 ≤ i
    · have hv : Hid (W.xget H i = 0) := (by simp [W.xget, h0, h1] : W.xget H i = 0)
      go_enter Tryz.func11, Tryz.ntmps11
      go_wp2
      go_ret
      exact ⟨ret_int hv.out.symm, rfl⟩
    · obtain ⟨j, rfl⟩ : ∃ j : Nat, i = (j : Int) := ⟨i.toNat, by omega⟩
      have hj : j < 32 := by omega
      have hv : Hid (W.xget H (j : Int) = H.x j) := (by simp [W.xget, h0, h1] : W.xget H (j : Int) = H.x j)
      have hc := h j hj
      have hl : b < w.heap.size := World.block_lt_of_cell? _ _ hc
      clear h
      go_enter Tryz.func11, Tryz.ntmps11
      go_wp2
      go_ret
      exact ⟨ret_int hv.out.symm, rfl⟩
theorem x_g (b : Nat) (H : W.Ht) (i v : Int) (hv : W.xget H i = v) (w : World) (h : Xs b H.x w) : Calls Tryz.prog 11 #[.pointer (some ⟨b, 0, none⟩), .int .i64 i] w fun x w' => x = .returned (.int .u32 v) ∧ w = w' :=
  (x_any b H i w h).mono fun x w' ⟨a, c⟩ => ⟨by rw [a, hv], c⟩

theorem put_any (b : Nat) (S : W.St) (rd v : Int) (r0 : 0 ≤ rd) (r1 : rd < 32) (w : World) (h : SAt b S w) : Calls Tryz.prog 71 #[.pointer (some ⟨b, 0, none⟩), .int .i64 rd, .int .u32 v] w fun x w' => x = .returned (.tuple #[]) ∧ SAt b (W.sput S rd v) w' ∧ w.grownBy w' (some b) := by
  obtain ⟨j, rfl⟩ : ∃ j : Nat, rd = (j : Int) := ⟨rd.toNat, by omega⟩
  have hj : j < 32 := by omega
  have hc := h.xs j hj
  have hz := h.z
  have hlt := h.lt
  cases h0 : ((j : Int) != 0)
  · have hv : Hid (W.sput S (j : Int) v = S) := (by simp only [W.sput, W.hput, h0, cond_false] : W.sput S (j : Int) v = S)
    go_enter Tryz.func71, Tryz.ntmps71
    go_wp2
    go_end0
    rw [hv.out]
    exact ⟨rfl, h, World.grownBy.refl _ _⟩
  · have hv : Hid (W.sput S (j : Int) v = { S with h := { S.h with x := W.upd S.h.x (j : Int) v } }) := (by simp only [W.sput, W.hput, h0, cond_true] : W.sput S (j : Int) v = { S with h := { S.h with x := W.upd S.h.x (j : Int) v } })
    go_enter Tryz.func71, Tryz.ntmps71
    go_wp2
    go_end0
    rw [hv.out]
    have hp := h.ph _ (2 + j) (hRest_put S.h j hj v) rfl (by omega)
    rw [show 11 + (2 + j) = 13 + j by omega] at hp
    exact ⟨rfl, hp, gset _ _ _ _⟩
end Go.Proofs.YteilpehekabccabGreatDoor

/- What enc.Split and enc.Join return. -/
namespace Go.Proofs.YteilpehekabccabGreatDoor
open Go.ChangeShapes Go.WideShapes Go.ChangeAt Go.RowKit
set_option linter.unusedVariables false

/-- The six fields of a word. -/
def headV (x : Int) : Value := .agg #[.int .u32 (W.bitsOf x 0 7), .int .u32 (W.bitsOf x 7 5), .int .u32 (W.bitsOf x 12 3), .int .u32 (W.bitsOf x 15 5), .int .u32 (W.bitsOf x 20 5), .int .u32 (W.bitsOf x 25 7)]
theorem drewN_alloc' (w : World) (o : Obj) : Below w.heap.size w (w.alloc o) := (Below.refl _ _).alloc (Nat.le_refl _) _

set_option maxHeartbeats 1600000 in
theorem split_any (x : Int) (w : World) :
    Calls Tryz.prog 65 #[.int .u32 x] w fun e w' => e = .returned (headV x) ∧ Below w.heap.size w w' := by
  go_enter Tryz.func65, Tryz.ntmps65
  go_wp2_with (go_at_call 44; refine (bits_any _ _ _ _).mono ?_; rintro e w' ⟨rfl, kq, rfl⟩)
  exact bodyPost_ret (v := headV x) (by simp [results, Tryz.results65, go_sem]; rfl) rfl ⟨rfl, ((((((below_drewN ((Below.refl _ _).alloc (Nat.le_refl _) _) _).setCell (Nat.le_refl _) _).setCell (Nat.le_refl _) _).setCell (Nat.le_refl _) _).setCell (Nat.le_refl _) _).setCell (Nat.le_refl _) _).setCell (Nat.le_refl _) _⟩

/-- Six numbers, by their place. -/
def six (a b c d e f : Int) (j : Nat) : Int := [a, b, c, d, e, f].getD j 0
theorem six_cells (w : World) (t : TypeId) (a b c d e f : Int) :
    (∀ j, j < 6 → (w.alloc (.cells #[.int .i64 0, .int .i64 7, .int .u32 a, .int .i64 7, .int .i64 5, .int .u32 b, .int .i64 12, .int .i64 3, .int .u32 c, .int .i64 15, .int .i64 5, .int .u32 d, .int .i64 20, .int .i64 5, .int .u32 e, .int .i64 25, .int .i64 7, .int .u32 f] t)).cell? ⟨w.heap.size, 0 + j * 3, none⟩ = some (.int .i64 (W.hL j)))
    ∧ (∀ j, j < 6 → (w.alloc (.cells #[.int .i64 0, .int .i64 7, .int .u32 a, .int .i64 7, .int .i64 5, .int .u32 b, .int .i64 12, .int .i64 3, .int .u32 c, .int .i64 15, .int .i64 5, .int .u32 d, .int .i64 20, .int .i64 5, .int .u32 e, .int .i64 25, .int .i64 7, .int .u32 f] t)).cell? ⟨w.heap.size, 0 + j * 3 + 1, none⟩ = some (.int .i64 (W.hN j)))
    ∧ (∀ j, j < 6 → (w.alloc (.cells #[.int .i64 0, .int .i64 7, .int .u32 a, .int .i64 7, .int .i64 5, .int .u32 b, .int .i64 12, .int .i64 3, .int .u32 c, .int .i64 15, .int .i64 5, .int .u32 d, .int .i64 20, .int .i64 5, .int .u32 e, .int .i64 25, .int .i64 7, .int .u32 f] t)).cell? ⟨w.heap.size, 0 + j * 3 + 2, none⟩ = some (.int .u32 (six a b c d e f j))) := by
  refine ⟨?_, ?_, ?_⟩
  all_goals
    intro j hj
    match j, hj with
    | 0, _ | 1, _ | 2, _ | 3, _ | 4, _ | 5, _ => simp [go_sem, W.hL, W.hN, six]

end Go.Proofs.YteilpehekabccabGreatDoor

/- What the small functions of package isa return: a contract a function. -/
namespace Go.Proofs.YteilpehekabccabGreatDoor
open Go.ChangeShapes Go.WideShapes Go.ChangeAt Go.RowKit
set_option linter.unusedVariables false

def shV (s : W.Sh) : Value := .agg #[.int .u32 s.fixed, .bool s.rd, .bool s.rs1, .bool s.rs2, .bool s.csr, .bool s.ord, .int .u8 s.fmt, .int .i64 s.low, .int .i64 s.size]
def inV (i : W.I) : Value := .agg #[.int .i64 i.op, .int .i64 i.rd, .int .i64 i.rs1, .int .i64 i.rs2, .int .i64 i.csr, .int .u32 i.imm, .bool i.aq, .bool i.rl]
theorem ret_bool' {a b : Bool} (h : a = b) : Ending.returned (.bool a) = .returned (.bool b) := by rw [h]
def codesV : Value := .agg (W.codes.map fun z => Value.int .u32 z).toArray

theorem fr_any (a b c : Int) (w : World) :
    Calls Tryz.prog 64 #[.int .i64 a, .int .i64 b, .int .i64 c] w fun e w' => e = .returned (.bool (W.fr a b c)) ∧ w = w' := by
  by_cases h1 : a ≤ b
  · go_enter Tryz.func64, Tryz.ntmps64
    go_wp2
    go_ret
    exact ⟨by simp [W.fr, h1], rfl⟩
  · go_enter Tryz.func64, Tryz.ntmps64
    go_wp2
    go_ret
    exact ⟨by simp [W.fr]; omega, rfl⟩

theorem known_any (op : Int) (w : World) :
    Calls Tryz.prog 68 #[.int .i64 op] w fun e w' => e = .returned (.bool (W.known op)) ∧ w = w' := by
  go_enter Tryz.func68, Tryz.ntmps68
  go_wp2_with (go_at_call 64; refine (fr_any _ _ _ _).mono ?_; rintro e w' ⟨rfl, rfl⟩)
  go_ret
  exact ⟨rfl, rfl⟩

theorem hasImm_any (s : W.Sh) (w : World) :
    Calls Tryz.prog 86 #[shV s] w fun e w' => e = .returned (.bool (W.hasImm s)) ∧ Below w.heap.size w w' := by
  unfold shV
  cases h1 : (s.fmt != 0)
  · have hr : Hid (W.hasImm s = decide (0 < s.size)) := by
      have : W.hasImm s = decide (0 < s.size) := by simp [W.hasImm, W.hasI, h1]
      exact this
    go_enter Tryz.func86, Tryz.ntmps86
    go_wp2
    go_ret
    exact ⟨ret_bool' hr.out.symm, (Below.refl _ _).alloc (Nat.le_refl _) _⟩
  · have hr : Hid (W.hasImm s = true) := by
      have : W.hasImm s = true := by simp [W.hasImm, W.hasI, h1]
      exact this
    go_enter Tryz.func86, Tryz.ntmps86
    go_wp2
    go_ret
    exact ⟨ret_bool' hr.out.symm, (Below.refl _ _).alloc (Nat.le_refl _) _⟩

theorem immS_any (s : W.Sh) (x : Int) (w : World) :
    Calls Tryz.prog 67 #[shV s, .int .u32 x] w fun e w' => e = .returned (.int .u32 (W.immS s x)) ∧ Below w.heap.size w w' := by
  unfold shV
  have hb : Below w.heap.size w w := Below.refl _ _
  cases h1 : decide (0 < s.size)
  · have hr : Hid (W.immS s x = W.imm s.fmt x) := by
      have : W.immS s x = W.imm s.fmt x := by simp [W.immS, h1]
      exact this
    go_enter Tryz.func67, Tryz.ntmps67
    go_wp2_with (go_at_call 87; refine (from_ (imm_any _ _ _) (hb.alloc hb.size _)).mono ?_; clear hb; rintro e w' ⟨rfl, hb⟩)
    go_ret
    exact ⟨ret_int hr.out.symm, hb⟩
  · have hr : Hid (W.immS s x = W.bitsOf x s.low s.size) := by
      have : W.immS s x = W.bitsOf x s.low s.size := by simp [W.immS, h1]
      exact this
    go_enter Tryz.func67, Tryz.ntmps67
    go_wp2_with (go_at_call 44; refine (bits_any _ _ _ _).mono ?_; rintro e w' ⟨rfl, kq, rfl⟩)
    go_ret
    exact ⟨ret_int hr.out.symm, below_drewN (hb.alloc hb.size _) _⟩

end Go.Proofs.YteilpehekabccabGreatDoor

/- What the small methods of package hart answer, and what they leave (2). -/
namespace Go.Proofs.YteilpehekabccabGreatDoor
open Go.ChangeShapes Go.WideShapes Go.ChangeAt Go.RowKit
set_option linter.unusedVariables false
set_option linter.unusedSimpArgs false

set_option maxHeartbeats 1600000 in
theorem retire_any (b : Nat) (S : W.St) (e : W.Ef) (w : World) (h : SAt b S w) : Calls Tryz.prog 72 #[.pointer (some ⟨b, 0, none⟩), .agg (efCells e)] w fun x w' => x = .returned (.tuple #[]) ∧ SAt b (W.sret S e) w' ∧ w.grownBy w' (some b) := by
  have c12 : w.cell? ⟨b, 12, none⟩ = some (.int .u32 S.h.pc) := h.ch 1 rfl
  have c58 : w.cell? ⟨b, 58, none⟩ = some (.int .i64 S.w.k) := h.cw 0 rfl
  have d0 : w.cell? ⟨b, 71, none⟩ = some (.int .i64 S.e.k) := h.ce 0 rfl
  have d1 : w.cell? ⟨b, 72, none⟩ = some (.int .u32 S.e.ad) := h.ce 1 rfl
  have d2 : w.cell? ⟨b, 73, none⟩ = some (.int .i64 S.e.sz) := h.ce 2 rfl
  have d3 : w.cell? ⟨b, 74, none⟩ = some (.int .u32 S.e.vl) := h.ce 3 rfl
  have d4 : w.cell? ⟨b, 75, none⟩ = some (.bool S.e.fi) := h.ce 4 rfl
  have d5 : w.cell? ⟨b, 76, none⟩ = some (.bool S.e.sf) := h.ce 5 rfl
  have d6 : w.cell? ⟨b, 77, none⟩ = some (.bool S.e.wt) := h.ce 6 rfl
  have hz := h.z
  have hlt := h.lt
  obtain ⟨e0, e1, e2, e3, e4, e5, e6⟩ := e
  unfold efCells
  go_enter Tryz.func72, Tryz.ntmps72
  go_wp2
  go_region_with (fail)
  all_goals
    go_wp2
    go_end0
    refine ⟨rfl, ?_, ?_⟩
    · exact ((((h.pk 1).pes ⟨e0, e1, e2, e3, e4, e5, e6⟩).ppc _).alloc _).drew
    · exact gtrans (gtrans (gtrans (gtrans (gset w b 58 _) (gpes _ b _ _ _ _ _ _ _)) (gset _ b 12 _)) (galloc _ _ _)) (gdrew _ _)

theorem illegal_any (b : Nat) (S : W.St) (w : World) (h : SAt b S w) : Calls Tryz.prog 35 #[.pointer (some ⟨b, 0, none⟩)] w fun x w' => x = .returned (.tuple #[]) ∧ SAt b (W.sill S) w' ∧ w.grownBy w' (some b) := by
  have c47 : w.cell? ⟨b, 47, none⟩ = some (.int .u32 S.r.wd) := h.cr 2 rfl
  have hz := h.z
  have hlt := h.lt
  go_enter Tryz.func35, Tryz.ntmps35
  go_wp2_with (go_at_call 31; refine (htrap_any b S _ _ _ h).mono ?_; rintro e w1 ⟨rfl, h1, g1⟩)
  go_end0
  exact ⟨rfl, h1, g1⟩

theorem load_any (b : Nat) (S : W.St) (size : Int) (hs : size = 1 ∨ size = 2 ∨ size = 4) (w : World) (h : SAt b S w) : Calls Tryz.prog 93 #[.pointer (some ⟨b, 0, none⟩), .int .i64 size] w fun x w' => x = .returned (.int .u32 (W.bitsOf S.r.ld 0 (8 * size))) ∧ SAt b (W.sload S size) w' ∧ w.grownBy w' (some b) := by
  have c50 : w.cell? ⟨b, 50, none⟩ = some (.int .u32 S.r.ld) := h.cr 5 rfl
  have c63 : w.cell? ⟨b, 63, none⟩ = some (.int .u32 S.w.ld) := h.cw 5 rfl
  have hz := h.z
  have hlt := h.lt
  have hm : (8 * size) = 8 ∨ (8 * size) = 16 ∨ (8 * size) = 32 := by omega
  have hw : IntKind.i64.wrap (8 * size) = 8 * size := IntWalk.i64_in _ (by omega)
  unfold W.sload
  generalize hN : W.bitsOf S.r.ld 0 (8 * size) = N
  have hB : ∀ w, Calls Tryz.prog 44 #[.int .u32 S.r.ld, .int .i64 0, .int .i64 (8 * size)] w fun e w' => e = .returned (.int .u32 N) ∧ Below w.heap.size w w' := fun w => by rw [← hN]; exact bits_bl6 _ _ _ w
  clear hN
  go_enter Tryz.func93, Tryz.ntmps93
  go_wp2_with (go_at_call 44; refine (hB _).mono ?_; rintro e w1 ⟨rfl, hb⟩; have h1 := h.below hb; clear c50 c63 hz hlt; have c63 : w1.cell? ⟨b, 63, none⟩ = some (.int .u32 S.w.ld) := h1.cw 5 rfl; have hz := h1.z; have hlt := h1.lt)
  go_ret
  exact ⟨rfl, h1.pld N, gtrans (gbelow hb) (gset _ _ _ _)⟩

theorem callC_any (m : Int) (w : World) : Calls Tryz.prog 77 #[.int .i64 m] w fun x w' => x = .returned (.int .u32 (W.callC m)) ∧ w = w' := by
  cases h : (m == 0)
  all_goals
    have hv : Hid (W.callC m = _) := (by rfl : W.callC m = (bif m == 0 then 8 else 11))
    rw [h] at hv
    go_enter Tryz.func77, Tryz.ntmps77
    go_wp2
    go_ret
    exact ⟨ret_int hv.out.symm, rfl⟩

theorem writes_any (i : W.I) (w : World) : Calls Tryz.prog 99 #[inV i] w fun x w' => x = .returned (.bool (W.writes i)) ∧ Below w.heap.size w w' := by
  obtain ⟨op, rd, rs1, rs2, csr, imm, aq, rl⟩ := i
  unfold inV W.writes
  dsimp only
  cases h0 : (op == 45)
  case true =>
    go_enter Tryz.func99, Tryz.ntmps99
    go_wp2
    go_ret
    exact ⟨rfl, (Below.refl _ _).alloc (Nat.le_refl _) _⟩
  cases h1 : (op == 48)
  case true =>
    go_enter Tryz.func99, Tryz.ntmps99
    go_wp2
    go_ret
    exact ⟨rfl, (Below.refl _ _).alloc (Nat.le_refl _) _⟩
  cases h2 : (rs1 != 0)
  case true =>
    go_enter Tryz.func99, Tryz.ntmps99
    go_wp2
    go_ret
    exact ⟨rfl, (Below.refl _ _).alloc (Nat.le_refl _) _⟩
  go_enter Tryz.func99, Tryz.ntmps99
  go_wp2
  go_ret
  exact ⟨rfl, (Below.refl _ _).alloc (Nat.le_refl _) _⟩
end Go.Proofs.YteilpehekabccabGreatDoor

/- Masks as sums: what package csr keeps of a word. -/
namespace Go.Proofs.YteilpehekabccabGreatDoor.W
open Go.RowKit
set_option linter.unusedVariables false

theorem nat_field (a k n : Nat) : a &&& ((2 ^ n - 1) <<< k) = (a / 2 ^ k % 2 ^ n) * 2 ^ k := by
  rw [← Nat.shiftLeft_eq]
  apply Nat.eq_of_testBit_eq
  intro i
  rw [Nat.testBit_and, Nat.testBit_shiftLeft, Nat.testBit_shiftLeft, Nat.testBit_two_pow_sub_one, Nat.testBit_mod_two_pow, ← Nat.shiftRight_eq_div_pow, Nat.testBit_shiftRight]
  by_cases h : k ≤ i
  · rw [show k + (i - k) = i by omega]
    cases a.testBit i <;> simp [h]
  · simp [h]
theorem nat_two (a m1 m2 : Nat) (i : Nat) (h1 : (a &&& m1) % 2 ^ i = 0) (h2 : m2 < 2 ^ i) : a &&& (m1 ||| m2) = (a &&& m1) + (a &&& m2) := by
  rw [Nat.and_or_distrib_left]
  exact nat_join i _ _ h1 (Nat.lt_of_le_of_lt Nat.and_le_right h2)

theorem and_8 (v : Int) (v0 : 0 ≤ v) (v1 : v < 4294967296) : bits .and .u32 v 8 = v / 8 % 2 * 8 := by
  rw [u32_and v 8 v0 v1 (by decide) (by decide)]
  have := nat_field v.toNat 3 1
  simp only [show ((2 : Nat) ^ 1 - 1) <<< 3 = 8 from rfl, show (2 : Nat) ^ 3 = 8 from rfl, show (2 : Nat) ^ 1 = 2 from rfl] at this
  rw [show (8 : Int).toNat = 8 from rfl, this]
  omega
theorem and_1800 (v : Int) (v0 : 0 ≤ v) (v1 : v < 4294967296) : bits .and .u32 v 6144 = v / 2048 % 4 * 2048 := by
  rw [u32_and v 6144 v0 v1 (by decide) (by decide)]
  have := nat_field v.toNat 11 2
  simp only [show ((2 : Nat) ^ 2 - 1) <<< 11 = 6144 from rfl, show (2 : Nat) ^ 11 = 2048 from rfl, show (2 : Nat) ^ 2 = 4 from rfl] at this
  rw [show (6144 : Int).toNat = 6144 from rfl, this]
  omega
theorem and_80 (v : Int) (v0 : 0 ≤ v) (v1 : v < 4294967296) : bits .and .u32 v 128 = v / 128 % 2 * 128 := by
  rw [u32_and v 128 v0 v1 (by decide) (by decide)]
  have := nat_field v.toNat 7 1
  simp only [show ((2 : Nat) ^ 1 - 1) <<< 7 = 128 from rfl, show (2 : Nat) ^ 7 = 128 from rfl, show (2 : Nat) ^ 1 = 2 from rfl] at this
  rw [show (128 : Int).toNat = 128 from rfl, this]
  omega
theorem and_88 (v : Int) (v0 : 0 ≤ v) (v1 : v < 4294967296) : bits .and .u32 v 136 = v / 128 % 2 * 128 + v / 8 % 2 * 8 := by
  rw [u32_and v 136 v0 v1 (by decide) (by decide)]
  have e1 := nat_field v.toNat 7 1
  have e2 := nat_field v.toNat 3 1
  simp only [show ((2 : Nat) ^ 1 - 1) <<< 7 = 128 from rfl, show (2 : Nat) ^ 7 = 128 from rfl, show ((2 : Nat) ^ 1 - 1) <<< 3 = 8 from rfl, show (2 : Nat) ^ 3 = 8 from rfl, show (2 : Nat) ^ 1 = 2 from rfl] at e1 e2
  have e3 := nat_two v.toNat 128 8 7 (by rw [e1]; omega) (by decide)
  rw [show (136 : Int).toNat = 128 ||| 8 from rfl, e3, e1, e2]
  omega
theorem and_satp (v : Int) (v0 : 0 ≤ v) (v1 : v < 4294967296) : bits .and .u32 v 2151677951 = v / 2147483648 * 2147483648 + v % 4194304 := by
  rw [u32_and v 2151677951 v0 v1 (by decide) (by decide)]
  have e1 := nat_field v.toNat 31 1
  have e2 := Nat.and_two_pow_sub_one_eq_mod v.toNat 22
  simp only [show ((2 : Nat) ^ 1 - 1) <<< 31 = 2147483648 from rfl, show (2 : Nat) ^ 31 = 2147483648 from rfl, show (2 : Nat) ^ 22 - 1 = 4194303 from rfl, show (2 : Nat) ^ 22 = 4194304 from rfl, show (2 : Nat) ^ 1 = 2 from rfl] at e1 e2
  have e3 := nat_two v.toNat 2147483648 4194303 31 (by rw [e1]; omega) (by decide)
  rw [show (2151677951 : Int).toNat = 2147483648 ||| 4194303 from rfl, e3, e1, e2]
  omega
theorem nat_fc (a : Nat) (h : a < 4294967296) : a &&& 4294967292 = a / 4 * 4 := by
  have := nat_field a 2 30
  simp only [show ((2 : Nat) ^ 30 - 1) <<< 2 = 4294967292 from rfl, show (2 : Nat) ^ 2 = 4 from rfl, show (2 : Nat) ^ 30 = 1073741824 from rfl] at this
  rw [this]
  omega
theorem and_fc (v : Int) (v0 : 0 ≤ v) (v1 : v < 4294967296) : bits .and .u32 v 4294967292 = v / 4 * 4 := by
  rw [u32_and v 4294967292 v0 v1 (by decide) (by decide), show (4294967292 : Int).toNat = 4294967292 from rfl, nat_fc _ (by omega)]
  omega
theorem and_ff (v : Int) (v0 : 0 ≤ v) (v1 : v < 4294967296) : bits .and .u32 v 4294967295 = v := by
  have := low_and v 32 (by decide) v0 v1
  rw [show ((2 : Int) ^ 32 - 1) = 4294967295 from rfl, show ((2 : Int) ^ 32) = 4294967296 from rfl] at this
  omega
theorem and_0 (v : Int) (v0 : 0 ≤ v) (v1 : v < 4294967296) : bits .and .u32 v 0 = 0 := by
  rw [u32_and v 0 v0 v1 (by decide) (by decide)]; simp
theorem algn_eq (v : Int) (v0 : 0 ≤ v) (v1 : v < 4294967296) : algn v = v / 4 * 4 := by
  unfold algn
  rw [u32_andNot v 3 v0 v1 (by decide) (by decide), show 4294967295 - (3 : Int).toNat = 4294967292 from rfl, nat_fc _ (by omega)]
  omega
theorem off_1800 (v : Int) (v0 : 0 ≤ v) (v1 : v < 4294967296) : bits .andNot .u32 v 6144 = v / 8192 * 8192 + v % 2048 := by
  rw [u32_andNot v 6144 v0 v1 (by decide) (by decide), show 4294967295 - (6144 : Int).toNat = 4294959104 ||| 2047 from rfl]
  have e1 := nat_field v.toNat 13 19
  have e2 := Nat.and_two_pow_sub_one_eq_mod v.toNat 11
  simp only [show ((2 : Nat) ^ 19 - 1) <<< 13 = 4294959104 from rfl, show (2 : Nat) ^ 13 = 8192 from rfl, show (2 : Nat) ^ 19 = 524288 from rfl, show (2 : Nat) ^ 11 - 1 = 2047 from rfl, show (2 : Nat) ^ 11 = 2048 from rfl] at e1 e2
  have e3 := nat_two v.toNat 4294959104 2047 13 (by rw [e1]; omega) (by decide)
  rw [e3, e1, e2]
  omega
theorem b3_eq (v : Int) (v0 : 0 ≤ v) (v1 : v < 4294967296) : bitsOf v 3 1 = v / 8 % 2 := by
  rw [bitsOf_eq v 3 1 v0 v1 (by decide) (by decide) (by decide)]; rfl
theorem b7_eq (v : Int) (v0 : 0 ≤ v) (v1 : v < 4294967296) : bitsOf v 7 1 = v / 128 % 2 := by
  rw [bitsOf_eq v 7 1 v0 v1 (by decide) (by decide) (by decide)]; rfl
theorem bm_eq (v : Int) (v0 : 0 ≤ v) (v1 : v < 4294967296) : bitsOf v 11 2 = v / 2048 % 4 := by
  rw [bitsOf_eq v 11 2 v0 v1 (by decide) (by decide) (by decide)]; rfl
theorem kmode_eq (v : Int) (v0 : 0 ≤ v) (v1 : v < 4294967296) : kmode v = if v / 2048 % 4 = 3 then 3 else 0 := by
  unfold kmode
  rw [bm_eq v v0 v1]
  by_cases h : v / 2048 % 4 = 3
  · rw [h]; rfl
  · have : (v / 2048 % 4 == 3) = false := by simpa using h
    rw [this, if_neg h]; rfl
theorem status_eq (e p m : Int) (he : e = 0 ∨ e = 1) (hp : p = 0 ∨ p = 1) (hm : m = 0 ∨ m = 3) : status e p m = e * 8 + p * 128 + m * 2048 := by
  rcases he with rfl | rfl <;> rcases hp with rfl | rfl <;> rcases hm with rfl | rfl <;> kernel_rfl
/-- What Mstatus keeps of a word. -/
theorem set_st (v : Int) (v0 : 0 ≤ v) (v1 : v < 4294967296) : status (bitsOf v 3 1) (bitsOf v 7 1) (kmode v) = v / 8 % 2 * 8 + v / 128 % 2 * 128 + (if v / 2048 % 4 = 3 then 3 else 0) * 2048 := by
  rw [b3_eq v v0 v1, b7_eq v v0 v1, kmode_eq v v0 v1]
  exact status_eq _ _ _ (by omega) (by omega) (by split <;> omega)
end Go.Proofs.YteilpehekabccabGreatDoor.W

/- What stays within its bounds: files, harts, instructions; without any Go. -/
namespace Go.Proofs.YteilpehekabccabGreatDoor.W
open Go.RowKit
set_option linter.unusedVariables false

def Rg (v : Int) : Prop := 0 ≤ v ∧ v < 4294967296
theorem rg0 : Rg 0 := ⟨by decide, by decide⟩
theorem andNot_lt (x y : Int) : Rg (bits .andNot .u32 x y) := by
  unfold Rg bits
  rw [IntKind.wrap_u32']
  omega
/-- A file as it can be. -/
structure FOk (G : F) : Prop where
  m : G.m = 0 ∨ G.m = 3
  satp : Rg G.satp
  st : Rg G.st
  mie : Rg G.mie
  tvec : Rg G.tvec
  scr : Rg G.scr
  epc : Rg G.epc
  cause : Rg G.cause
  tval : Rg G.tval
  mip : Rg G.mip
  hart : Rg G.hart
theorem status_lt (e p m : Int) : Rg (status e p m) := pack_lt _ _ _ _
theorem kmode_or (v : Int) : kmode v = 0 ∨ kmode v = 3 := by unfold kmode; cases (bitsOf v 11 2 == 3) <;> simp
theorem algn_lt (v : Int) : Rg (algn v) := andNot_lt _ _
theorem FOk.trap {G : F} (h : FOk G) {c t p : Int} (hc : Rg c) (ht : Rg t) : FOk (trap G c t p) := ⟨Or.inr rfl, h.satp, status_lt _ _ _, h.mie, h.tvec, h.scr, algn_lt _, hc, ht, h.mip, h.hart⟩
theorem FOk.bell {G : F} (h : FOk G) (on : Bool) : FOk (bell G on) := ⟨h.m, h.satp, h.st, h.mie, h.tvec, h.scr, h.epc, h.cause, h.tval, by cases on; exact rg0; exact (⟨by decide, by decide⟩ : Rg 8), h.hart⟩
theorem FOk.fret {G : F} (h : FOk G) : FOk (fret G) := ⟨kmode_or _, h.satp, status_lt _ _ _, h.mie, h.tvec, h.scr, h.epc, h.cause, h.tval, h.mip, h.hart⟩
theorem FOk.fnew (hart : Int) : FOk (fnew hart) := by
  have z : Rg 0 := ⟨by decide, by decide⟩
  exact ⟨Or.inr rfl, z, z, z, z, z, z, z, z, z, by show Rg (hart % 4294967296); unfold Rg; omega⟩
theorem FOk.fset {G : F} (h : FOk G) (n v : Int) (hv : Rg v) : FOk (fset G n v) := by
  unfold W.fset
  cases (G.m == 0)
  case true => exact h
  cases (n == 384)
  case true => exact ⟨h.m, and_lt _ _, h.st, h.mie, h.tvec, h.scr, h.epc, h.cause, h.tval, h.mip, h.hart⟩
  cases (n == 768)
  case true => exact ⟨h.m, h.satp, status_lt _ _ _, h.mie, h.tvec, h.scr, h.epc, h.cause, h.tval, h.mip, h.hart⟩
  cases (n == 772)
  case true => exact ⟨h.m, h.satp, h.st, and_lt _ _, h.tvec, h.scr, h.epc, h.cause, h.tval, h.mip, h.hart⟩
  cases (n == 773)
  case true => exact ⟨h.m, h.satp, h.st, h.mie, algn_lt _, h.scr, h.epc, h.cause, h.tval, h.mip, h.hart⟩
  cases (n == 832)
  case true => exact ⟨h.m, h.satp, h.st, h.mie, h.tvec, hv, h.epc, h.cause, h.tval, h.mip, h.hart⟩
  cases (n == 833)
  case true => exact ⟨h.m, h.satp, h.st, h.mie, h.tvec, h.scr, algn_lt _, h.cause, h.tval, h.mip, h.hart⟩
  cases (n == 834)
  case true => exact ⟨h.m, h.satp, h.st, h.mie, h.tvec, h.scr, h.epc, hv, h.tval, h.mip, h.hart⟩
  cases (n == 835)
  case true => exact ⟨h.m, h.satp, h.st, h.mie, h.tvec, h.scr, h.epc, h.cause, hv, h.mip, h.hart⟩
  exact h
theorem FOk.reg {G : F} (h : FOk G) (n : Int) : Rg (reg G n) := by
  unfold W.reg
  cases (n == 384); case true => exact h.satp
  cases (n == 768); case true => exact h.st
  cases (n == 772); case true => exact h.mie
  cases (n == 773); case true => exact h.tvec
  cases (n == 832); case true => exact h.scr
  cases (n == 833); case true => exact h.epc
  cases (n == 834); case true => exact h.cause
  cases (n == 835); case true => exact h.tval
  cases (n == 836); case true => exact h.mip
  cases (n == 3860); case true => exact h.hart
  exact rg0
theorem FOk.getV {G : F} (h : FOk G) (n : Int) : Rg (getV G n) := by
  unfold W.getV
  cases (G.m == 0)
  · exact h.reg n
  · exact rg0
/-- A hart as it can be. -/
structure HOk (h : Ht) : Prop where
  G : FOk h.G
  pc : Rg h.pc
  x : ∀ j, Rg (h.x j)
theorem HOk.put {h : Ht} (k : HOk h) (rd v : Int) (hv : Rg v) : HOk (hput h rd v) := by
  unfold hput
  cases (rd != 0)
  · exact k
  · exact ⟨k.G, k.pc, fun j => by show Rg (if (j : Int) = rd then v else h.x j); split; exact hv; exact k.x j⟩
theorem HOk.get {h : Ht} (k : HOk h) (i : Int) : Rg (xget h i) := by
  unfold xget
  cases decide (i < 0)
  · cases decide (32 ≤ i)
    · exact k.x _
    · exact rg0
  · exact rg0
theorem immS_lt (s : Sh) (x : Int) : Rg (immS s x) := by
  unfold immS
  cases decide (0 < s.size)
  · exact imm_lt _ _
  · exact bitsOf_lt _ _ _
/-- An instruction that a word has. -/
structure IOk (i : I) : Prop where
  rd0 : 0 ≤ i.rd
  rd1 : i.rd < 32
  r10 : 0 ≤ i.rs1
  r11 : i.rs1 < 32
  r20 : 0 ≤ i.rs2
  r21 : i.rs2 < 32
  imm : Rg i.imm
theorem b5 (x low : Int) (l0 : 0 ≤ low) (l1 : low ≤ 31) (x0 : 0 ≤ x) (x1 : x < 4294967296) : 0 ≤ bitsOf x low 5 ∧ bitsOf x low 5 < 32 := by
  rw [bitsOf_eq x low 5 x0 x1 l0 l1 (by decide)]
  show 0 ≤ x / 2 ^ low.toNat % 32 ∧ x / 2 ^ low.toNat % 32 < 32
  omega
theorem IOk.read (s : Sh) (op x : Int) (h : Rg x) : IOk (read s op x) := by
  have h1 := b5 x 7 (by decide) (by decide) h.1 h.2
  have h2 := b5 x 15 (by decide) (by decide) h.1 h.2
  have h3 := b5 x 20 (by decide) (by decide) h.1 h.2
  have h4 := immS_lt s x
  refine ⟨?_, ?_, ?_, ?_, ?_, ?_, ?_⟩
  · show 0 ≤ bif s.rd then bitsOf x 7 5 else 0; cases s.rd; exact (by decide : (0 : Int) ≤ 0); exact h1.1
  · show (bif s.rd then bitsOf x 7 5 else 0) < 32; cases s.rd; exact (by decide : (0 : Int) < 32); exact h1.2
  · show 0 ≤ bif s.rs1 then bitsOf x 15 5 else 0; cases s.rs1; exact (by decide : (0 : Int) ≤ 0); exact h2.1
  · show (bif s.rs1 then bitsOf x 15 5 else 0) < 32; cases s.rs1; exact (by decide : (0 : Int) < 32); exact h2.2
  · show 0 ≤ bif s.rs2 then bitsOf x 20 5 else 0; cases s.rs2; exact (by decide : (0 : Int) ≤ 0); exact h3.1
  · show (bif s.rs2 then bitsOf x 20 5 else 0) < 32; cases s.rs2; exact (by decide : (0 : Int) < 32); exact h3.2
  · show Rg (bif hasImm s then immS s x else 0); cases hasImm s; exact rg0; exact h4
theorem IOk.dec (x : Int) (h : Rg x) : IOk (decI x) := IOk.read _ _ x h
end Go.Proofs.YteilpehekabccabGreatDoor.W

/- Within a method of a step: the step in block b, an instruction in block g. -/
namespace Go.Proofs.YteilpehekabccabGreatDoor
open Go.ChangeShapes Go.WideShapes Go.ChangeAt Go.RowKit
set_option linter.unusedVariables false
set_option linter.unusedSimpArgs false

def inCells (i : W.I) : Array Value := #[.int .i64 i.op, .int .i64 i.rd, .int .i64 i.rs1, .int .i64 i.rs2, .int .i64 i.csr, .int .u32 i.imm, .bool i.aq, .bool i.rl]
structure Cx (w0 : World) (b g : Nat) (i : W.I) (S : W.St) (w : World) : Prop where
  s : SAt b S w
  ins : w.heap[g]? = some (.cells (inCells i) 53)
  gr : w0.grownBy w (some b)
  ne : g ≠ b
theorem Cx.lt {w0 : World} {b g : Nat} {i : W.I} {S : W.St} {w : World} (c : Cx w0 b g i S w) : g < w.heap.size := (Array.getElem?_eq_some_iff.1 c.ins).1
theorem Cx.start {b : Nat} {S : W.St} {w : World} (i : W.I) (h : SAt b S w) : Cx w b w.heap.size i S (w.alloc (.cells (inCells i) 53)) :=
  ⟨h.alloc _, by show (w.heap.push _)[w.heap.size]? = _; simp, galloc _ _ _, Nat.ne_of_gt h.lt⟩
theorem Cx.step {w0 : World} {b g : Nat} {i : W.I} {S S' : W.St} {w w' : World} (c : Cx w0 b g i S w) (h : SAt b S' w') (gr : w.grownBy w' (some b)) : Cx w0 b g i S' w' :=
  ⟨h, (gr.block g c.lt (by simpa using c.ne)).trans c.ins, gtrans c.gr gr, c.ne⟩
theorem Cx.below {w0 : World} {b g : Nat} {i : W.I} {S : W.St} {w w' : World} (c : Cx w0 b g i S w) (hb : Below w.heap.size w w') : Cx w0 b g i S w' := c.step (c.s.below hb) (gbelow hb)
theorem Cx.drew {w0 : World} {b g : Nat} {i : W.I} {S : W.St} {w : World} (c : Cx w0 b g i S w) : Cx w0 b g i S w.drew := c.below (Below.refl w.heap.size w).drew
theorem Cx.alloc {w0 : World} {b g : Nat} {i : W.I} {S : W.St} {w : World} (c : Cx w0 b g i S w) (o : Obj) : Cx w0 b g i S (w.alloc o) := c.below ((Below.refl _ _).alloc (Nat.le_refl _) _)
theorem Cx.cells {w0 : World} {b g : Nat} {i : W.I} {S : W.St} {w : World} (c : Cx w0 b g i S w) : w.cell? ⟨g, 0, none⟩ = some (.int .i64 i.op) ∧ w.cell? ⟨g, 1, none⟩ = some (.int .i64 i.rd) ∧ w.cell? ⟨g, 2, none⟩ = some (.int .i64 i.rs1) ∧ w.cell? ⟨g, 3, none⟩ = some (.int .i64 i.rs2) ∧ w.cell? ⟨g, 4, none⟩ = some (.int .i64 i.csr) ∧ w.cell? ⟨g, 5, none⟩ = some (.int .u32 i.imm) ∧ w.cell? ⟨g, 6, none⟩ = some (.bool i.aq) ∧ w.cell? ⟨g, 7, none⟩ = some (.bool i.rl) := by
  have e := c.ins
  simp [World.cell?, e, inCells]

theorem becomes_any (i : W.I) (old a : Int) (w : World) : Calls Tryz.prog 101 #[.agg (inCells i), .int .u32 old, .int .u32 a] w fun x w' => x = .returned (.int .u32 (W.becomes i.op i.imm old a)) ∧ Below w.heap.size w w' := by
  obtain ⟨op, rd, rs1, rs2, csr, imm, aq, rl⟩ := i
  unfold inCells W.becomes
  dsimp only
  cases h0 : (op == 48)
  case true =>
    go_enter Tryz.func101, Tryz.ntmps101
    go_wp2
    go_ret
    exact ⟨rfl, (Below.refl _ _).alloc (Nat.le_refl _) _⟩
  cases h1 : (op == 46)
  case true =>
    go_enter Tryz.func101, Tryz.ntmps101
    go_wp2
    go_ret
    exact ⟨rfl, (Below.refl _ _).alloc (Nat.le_refl _) _⟩
  cases h2 : (op == 49)
  case true =>
    go_enter Tryz.func101, Tryz.ntmps101
    go_wp2
    go_ret
    exact ⟨rfl, (Below.refl _ _).alloc (Nat.le_refl _) _⟩
  cases h3 : (op == 47)
  case true =>
    go_enter Tryz.func101, Tryz.ntmps101
    go_wp2
    go_ret
    exact ⟨rfl, (Below.refl _ _).alloc (Nat.le_refl _) _⟩
  cases h4 : (op == 50)
  all_goals
    go_enter Tryz.func101, Tryz.ntmps101
    go_wp2
    go_ret
    exact ⟨rfl, (Below.refl _ _).alloc (Nat.le_refl _) _⟩

theorem rings_any (op pa : Int) (w : World) : Calls Tryz.prog 74 #[.int .i64 op, .int .u32 pa] w fun x w' => x = .returned (.bool (W.rings op pa)) ∧ w = w' := by
  unfold W.rings
  cases h0 : (op == 13) <;> cases h1 : (op == 18) <;> cases h2 : decide (1073741824 ≤ pa)
  all_goals
    first | (have h3 := of_decide_eq_true h2) | (have h3 := of_decide_eq_false h2)
    go_enter Tryz.func74, Tryz.ntmps74
    go_wp2
    go_ret
    exact ⟨rfl, rfl⟩

theorem has_any (b : Nat) (S : W.St) (pa size : Int) (p : W.Rg pa) (hs : size = 1 ∨ size = 2 ∨ size = 4) (w : World) (h : SAt b S w) : Calls Tryz.prog 33 #[.pointer (some ⟨b, 0, none⟩), .int .u32 pa, .int .i64 size] w fun x w' => x = .returned (.bool (W.hhas S.h pa size)) ∧ w = w' := by
  have c11 : w.cell? ⟨b, 11, none⟩ = some (.int .i64 S.h.by_) := h.ch 0 rfl
  have hlt := h.lt
  have p0 := p.1
  have p1 := p.2
  have q1 : IntKind.i64.wrap pa = pa := IntWalk.i64_in _ (by omega)
  have q2 : IntKind.i64.wrap (pa + size) = pa + size := IntWalk.i64_in _ (by omega)
  unfold W.hhas
  clear p
  go_enter Tryz.func33, Tryz.ntmps33
  go_wp2
  go_ret
  exact ⟨rfl, rfl⟩
end Go.Proofs.YteilpehekabccabGreatDoor

/- Whole harts and events, out of memory and into it. -/
namespace Go.Proofs.YteilpehekabccabGreatDoor
open Go.ChangeShapes Go.WideShapes Go.ChangeAt Go.RowKit
set_option linter.unusedVariables false
set_option linter.unusedSimpArgs false

/-- All cells of a hart, one by one. -/
def hartAll (H : W.Ht) : Array Value := #[.int .i64 H.G.m, .int .u32 H.G.satp, .int .u32 H.G.st, .int .u32 H.G.mie, .int .u32 H.G.tvec, .int .u32 H.G.scr, .int .u32 H.G.epc, .int .u32 H.G.cause, .int .u32 H.G.tval, .int .u32 H.G.mip, .int .u32 H.G.hart, .int .i64 H.by_, .int .u32 H.pc, .int .u32 (H.x 0), .int .u32 (H.x 1), .int .u32 (H.x 2), .int .u32 (H.x 3), .int .u32 (H.x 4), .int .u32 (H.x 5), .int .u32 (H.x 6), .int .u32 (H.x 7), .int .u32 (H.x 8), .int .u32 (H.x 9), .int .u32 (H.x 10), .int .u32 (H.x 11), .int .u32 (H.x 12), .int .u32 (H.x 13), .int .u32 (H.x 14), .int .u32 (H.x 15), .int .u32 (H.x 16), .int .u32 (H.x 17), .int .u32 (H.x 18), .int .u32 (H.x 19), .int .u32 (H.x 20), .int .u32 (H.x 21), .int .u32 (H.x 22), .int .u32 (H.x 23), .int .u32 (H.x 24), .int .u32 (H.x 25), .int .u32 (H.x 26), .int .u32 (H.x 27), .int .u32 (H.x 28), .int .u32 (H.x 29), .int .u32 (H.x 30), .int .u32 (H.x 31)]
theorem hartAll_eq (H : W.Ht) : hartCells H = hartAll H := by
  apply Array.toList_inj.1
  unfold hartCells
  rw [Array.toList_append]
  rfl
/-- All cells of a step, one by one. -/
def stepAll (H : W.Ht) (r d : W.Ev) (e : W.Ef) : Array Value := #[.int .i64 H.G.m, .int .u32 H.G.satp, .int .u32 H.G.st, .int .u32 H.G.mie, .int .u32 H.G.tvec, .int .u32 H.G.scr, .int .u32 H.G.epc, .int .u32 H.G.cause, .int .u32 H.G.tval, .int .u32 H.G.mip, .int .u32 H.G.hart, .int .i64 H.by_, .int .u32 H.pc, .int .u32 (H.x 0), .int .u32 (H.x 1), .int .u32 (H.x 2), .int .u32 (H.x 3), .int .u32 (H.x 4), .int .u32 (H.x 5), .int .u32 (H.x 6), .int .u32 (H.x 7), .int .u32 (H.x 8), .int .u32 (H.x 9), .int .u32 (H.x 10), .int .u32 (H.x 11), .int .u32 (H.x 12), .int .u32 (H.x 13), .int .u32 (H.x 14), .int .u32 (H.x 15), .int .u32 (H.x 16), .int .u32 (H.x 17), .int .u32 (H.x 18), .int .u32 (H.x 19), .int .u32 (H.x 20), .int .u32 (H.x 21), .int .u32 (H.x 22), .int .u32 (H.x 23), .int .u32 (H.x 24), .int .u32 (H.x 25), .int .u32 (H.x 26), .int .u32 (H.x 27), .int .u32 (H.x 28), .int .u32 (H.x 29), .int .u32 (H.x 30), .int .u32 (H.x 31), .int .i64 r.k, .int .u32 r.pc, .int .u32 r.wd, .int .u32 r.fpa, .int .u32 r.pa, .int .u32 r.ld, .slice r.fw.a r.fw.n r.fw.c, .slice r.wk.a r.wk.n r.wk.c, .int .u32 r.ca, .int .u32 r.tv, .bool r.dn, .int .i64 r.fat, .int .i64 r.at_, .int .i64 d.k, .int .u32 d.pc, .int .u32 d.wd, .int .u32 d.fpa, .int .u32 d.pa, .int .u32 d.ld, .slice d.fw.a d.fw.n d.fw.c, .slice d.wk.a d.wk.n d.wk.c, .int .u32 d.ca, .int .u32 d.tv, .bool d.dn, .int .i64 d.fat, .int .i64 d.at_, .int .i64 e.k, .int .u32 e.ad, .int .i64 e.sz, .int .u32 e.vl, .bool e.fi, .bool e.sf, .bool e.wt]
theorem stepAll_eq (H : W.Ht) (r d : W.Ev) (e : W.Ef) : fileCells H.G ++ sRest ⟨H, r, d, e⟩ = stepAll H r d e := by
  apply Array.toList_inj.1
  unfold sRest
  simp only [Array.toList_append]
  rfl
theorem all81 (H : W.Ht) (r d : W.Ev) (e : W.Ef) : (stepAll H r d e).all (fun x => x.oneCell') = true := by
  rw [← stepAll_eq]
  simp [sRest, fileCells, hRest, evCells, efCells, Value.oneCell']
def step0 : Array Value := #[.int .i64 0, .int .u32 0, .int .u32 0, .int .u32 0, .int .u32 0, .int .u32 0, .int .u32 0, .int .u32 0, .int .u32 0, .int .u32 0, .int .u32 0, .int .i64 0, .int .u32 0, .int .u32 0, .int .u32 0, .int .u32 0, .int .u32 0, .int .u32 0, .int .u32 0, .int .u32 0, .int .u32 0, .int .u32 0, .int .u32 0, .int .u32 0, .int .u32 0, .int .u32 0, .int .u32 0, .int .u32 0, .int .u32 0, .int .u32 0, .int .u32 0, .int .u32 0, .int .u32 0, .int .u32 0, .int .u32 0, .int .u32 0, .int .u32 0, .int .u32 0, .int .u32 0, .int .u32 0, .int .u32 0, .int .u32 0, .int .u32 0, .int .u32 0, .int .u32 0, .int .i64 0, .int .u32 0, .int .u32 0, .int .u32 0, .int .u32 0, .int .u32 0, .slice none 0 0, .slice none 0 0, .int .u32 0, .int .u32 0, .bool false, .int .i64 0, .int .i64 0, .int .i64 0, .int .u32 0, .int .u32 0, .int .u32 0, .int .u32 0, .int .u32 0, .slice none 0 0, .slice none 0 0, .int .u32 0, .int .u32 0, .bool false, .int .i64 0, .int .i64 0, .int .i64 0, .int .u32 0, .int .i64 0, .int .u32 0, .bool false, .bool false, .bool false]
theorem zero81 : (∀ w, (zeroValue 55).run Tryz.prog w = .ok (.agg step0) w) ∧ (Tryz.prog.info? 55).map (·.size) = some 78 := zero_of_info (by kernel_rfl)
/-- A step out of its parts. -/
def step81 (v0 v1 v2 v3 v4 v5 v6 v7 v8 v9 v10 v11 v12 v13 v14 v15 v16 v17 v18 v19 v20 v21 v22 v23 v24 v25 v26 v27 v28 v29 v30 v31 v32 v33 v34 v35 v36 v37 v38 v39 v40 v41 v42 v43 v44 e0 e1 e2 e3 e4 e5 e6 e7 e8 e9 e10 e11 e12 f0 f1 f2 f3 f4 f5 f6 f7 f8 f9 f10 f11 f12 : Value) : Array Value := #[v0, v1, v2, v3, v4, v5, v6, v7, v8, v9, v10, v11, v12, v13, v14, v15, v16, v17, v18, v19, v20, v21, v22, v23, v24, v25, v26, v27, v28, v29, v30, v31, v32, v33, v34, v35, v36, v37, v38, v39, v40, v41, v42, v43, v44, e0, e1, e2, e3, e4, e5, e6, e7, e8, e9, e10, e11, e12, f0, f1, f2, f3, f4, f5, f6, f7, f8, f9, f10, f11, f12, .int .i64 0, .int .u32 0, .int .i64 0, .int .u32 0, .bool false, .bool false, .bool false]
set_option maxRecDepth 100000 in
theorem build81 (v0 v1 v2 v3 v4 v5 v6 v7 v8 v9 v10 v11 v12 v13 v14 v15 v16 v17 v18 v19 v20 v21 v22 v23 v24 v25 v26 v27 v28 v29 v30 v31 v32 v33 v34 v35 v36 v37 v38 v39 v40 v41 v42 v43 v44 e0 e1 e2 e3 e4 e5 e6 e7 e8 e9 e10 e11 e12 f0 f1 f2 f3 f4 f5 f6 f7 f8 f9 f10 f11 f12 : Value) (w : World) : (Instr.build 55 #[(0, .agg #[v0, v1, v2, v3, v4, v5, v6, v7, v8, v9, v10, v11, v12, v13, v14, v15, v16, v17, v18, v19, v20, v21, v22, v23, v24, v25, v26, v27, v28, v29, v30, v31, v32, v33, v34, v35, v36, v37, v38, v39, v40, v41, v42, v43, v44]), (1, .agg #[e0, e1, e2, e3, e4, e5, e6, e7, e8, e9, e10, e11, e12]), (2, .agg #[f0, f1, f2, f3, f4, f5, f6, f7, f8, f9, f10, f11, f12])]).run Tryz.prog w = .ok (.agg (step81 v0 v1 v2 v3 v4 v5 v6 v7 v8 v9 v10 v11 v12 v13 v14 v15 v16 v17 v18 v19 v20 v21 v22 v23 v24 v25 v26 v27 v28 v29 v30 v31 v32 v33 v34 v35 v36 v37 v38 v39 v40 v41 v42 v43 v44 e0 e1 e2 e3 e4 e5 e6 e7 e8 e9 e10 e11 e12 f0 f1 f2 f3 f4 f5 f6 f7 f8 f9 f10 f11 f12)) w := run_build w 55 _ _ (by kernel_rfl)
set_option maxRecDepth 100000 in
theorem set81 (v0 v1 v2 v3 v4 v5 v6 v7 v8 v9 v10 v11 v12 v13 v14 v15 v16 v17 v18 v19 v20 v21 v22 v23 v24 v25 v26 v27 v28 v29 v30 v31 v32 v33 v34 v35 v36 v37 v38 v39 v40 v41 v42 v43 v44 e0 e1 e2 e3 e4 e5 e6 e7 e8 e9 e10 e11 e12 f0 f1 f2 f3 f4 f5 f6 f7 f8 f9 f10 f11 f12 : Value) : ((((((((((((((((((((((((((((((((((((((((((((((((((((((((((((((((((((((step0.setIfInBounds 0 (v0)).setIfInBounds 1 (v1)).setIfInBounds 2 (v2)).setIfInBounds 3 (v3)).setIfInBounds 4 (v4)).setIfInBounds 5 (v5)).setIfInBounds 6 (v6)).setIfInBounds 7 (v7)).setIfInBounds 8 (v8)).setIfInBounds 9 (v9)).setIfInBounds 10 (v10)).setIfInBounds 11 (v11)).setIfInBounds 12 (v12)).setIfInBounds 13 (v13)).setIfInBounds 14 (v14)).setIfInBounds 15 (v15)).setIfInBounds 16 (v16)).setIfInBounds 17 (v17)).setIfInBounds 18 (v18)).setIfInBounds 19 (v19)).setIfInBounds 20 (v20)).setIfInBounds 21 (v21)).setIfInBounds 22 (v22)).setIfInBounds 23 (v23)).setIfInBounds 24 (v24)).setIfInBounds 25 (v25)).setIfInBounds 26 (v26)).setIfInBounds 27 (v27)).setIfInBounds 28 (v28)).setIfInBounds 29 (v29)).setIfInBounds 30 (v30)).setIfInBounds 31 (v31)).setIfInBounds 32 (v32)).setIfInBounds 33 (v33)).setIfInBounds 34 (v34)).setIfInBounds 35 (v35)).setIfInBounds 36 (v36)).setIfInBounds 37 (v37)).setIfInBounds 38 (v38)).setIfInBounds 39 (v39)).setIfInBounds 40 (v40)).setIfInBounds 41 (v41)).setIfInBounds 42 (v42)).setIfInBounds 43 (v43)).setIfInBounds 44 (v44)).setIfInBounds 45 (e0)).setIfInBounds 46 (e1)).setIfInBounds 47 (e2)).setIfInBounds 48 (e3)).setIfInBounds 49 (e4)).setIfInBounds 50 (e5)).setIfInBounds 51 (e6)).setIfInBounds 52 (e7)).setIfInBounds 53 (e8)).setIfInBounds 54 (e9)).setIfInBounds 55 (e10)).setIfInBounds 56 (e11)).setIfInBounds 57 (e12)).setIfInBounds 58 (f0)).setIfInBounds 59 (f1)).setIfInBounds 60 (f2)).setIfInBounds 61 (f3)).setIfInBounds 62 (f4)).setIfInBounds 63 (f5)).setIfInBounds 64 (f6)).setIfInBounds 65 (f7)).setIfInBounds 66 (f8)).setIfInBounds 67 (f9)).setIfInBounds 68 (f10)).setIfInBounds 69 (f11)).setIfInBounds 70 (f12) = step81 v0 v1 v2 v3 v4 v5 v6 v7 v8 v9 v10 v11 v12 v13 v14 v15 v16 v17 v18 v19 v20 v21 v22 v23 v24 v25 v26 v27 v28 v29 v30 v31 v32 v33 v34 v35 v36 v37 v38 v39 v40 v41 v42 v43 v44 e0 e1 e2 e3 e4 e5 e6 e7 e8 e9 e10 e11 e12 f0 f1 f2 f3 f4 f5 f6 f7 f8 f9 f10 f11 f12 := by kernel_rfl
theorem step81_eq (H : W.Ht) (k pc wd fpa pa ld : Int) (fa wa : Option Addr) (fn fc wn wc : Nat) (ca tv : Int) (dn : Bool) (fat at_ : Int) : step81 (.int .i64 H.G.m) (.int .u32 H.G.satp) (.int .u32 H.G.st) (.int .u32 H.G.mie) (.int .u32 H.G.tvec) (.int .u32 H.G.scr) (.int .u32 H.G.epc) (.int .u32 H.G.cause) (.int .u32 H.G.tval) (.int .u32 H.G.mip) (.int .u32 H.G.hart) (.int .i64 H.by_) (.int .u32 H.pc) (.int .u32 (H.x 0)) (.int .u32 (H.x 1)) (.int .u32 (H.x 2)) (.int .u32 (H.x 3)) (.int .u32 (H.x 4)) (.int .u32 (H.x 5)) (.int .u32 (H.x 6)) (.int .u32 (H.x 7)) (.int .u32 (H.x 8)) (.int .u32 (H.x 9)) (.int .u32 (H.x 10)) (.int .u32 (H.x 11)) (.int .u32 (H.x 12)) (.int .u32 (H.x 13)) (.int .u32 (H.x 14)) (.int .u32 (H.x 15)) (.int .u32 (H.x 16)) (.int .u32 (H.x 17)) (.int .u32 (H.x 18)) (.int .u32 (H.x 19)) (.int .u32 (H.x 20)) (.int .u32 (H.x 21)) (.int .u32 (H.x 22)) (.int .u32 (H.x 23)) (.int .u32 (H.x 24)) (.int .u32 (H.x 25)) (.int .u32 (H.x 26)) (.int .u32 (H.x 27)) (.int .u32 (H.x 28)) (.int .u32 (H.x 29)) (.int .u32 (H.x 30)) (.int .u32 (H.x 31)) (.int .i64 k) (.int .u32 pc) (.int .u32 wd) (.int .u32 fpa) (.int .u32 pa) (.int .u32 ld) (.slice fa fn fc) (.slice wa wn wc) (.int .u32 ca) (.int .u32 tv) (.bool dn) (.int .i64 fat) (.int .i64 at_) (.int .i64 0) (.int .u32 H.pc) (.int .u32 0) (.int .u32 0) (.int .u32 0) (.int .u32 0) (.slice none 0 0) (.slice none 0 0) (.int .u32 0) (.int .u32 0) (.bool false) (.int .i64 0) (.int .i64 0) = stepAll H ⟨k, pc, wd, fpa, pa, ld, ⟨fa, fn, fc⟩, ⟨wa, wn, wc⟩, ca, tv, dn, fat, at_⟩ ⟨0, H.pc, 0, 0, 0, 0, W.Sl.nil, W.Sl.nil, 0, 0, false, 0, 0⟩ W.Ef.no := rfl
theorem limbs58 {b g : Nat} {H : W.Ht} {w : World} {k pc wd fpa pa ld : Int} {fa wa : Option Addr} {fn fc wn wc : Nat} {ca tv : Int} {dn : Bool} {fat at_ : Int} {T : TypeId} (h : HAt b H w) (be : w.heap[g]? = some (.cells #[.int .i64 k, .int .u32 pc, .int .u32 wd, .int .u32 fpa, .int .u32 pa, .int .u32 ld, .slice fa fn fc, .slice wa wn wc, .int .u32 ca, .int .u32 tv, .bool dn, .int .i64 fat, .int .i64 at_] T)) : w.cell? ⟨b, 0, none⟩ = some (.int .i64 H.G.m) ∧ w.cell? ⟨b, 1, none⟩ = some (.int .u32 H.G.satp) ∧ w.cell? ⟨b, 2, none⟩ = some (.int .u32 H.G.st) ∧ w.cell? ⟨b, 3, none⟩ = some (.int .u32 H.G.mie) ∧ w.cell? ⟨b, 4, none⟩ = some (.int .u32 H.G.tvec) ∧ w.cell? ⟨b, 5, none⟩ = some (.int .u32 H.G.scr) ∧ w.cell? ⟨b, 6, none⟩ = some (.int .u32 H.G.epc) ∧ w.cell? ⟨b, 7, none⟩ = some (.int .u32 H.G.cause) ∧ w.cell? ⟨b, 8, none⟩ = some (.int .u32 H.G.tval) ∧ w.cell? ⟨b, 9, none⟩ = some (.int .u32 H.G.mip) ∧ w.cell? ⟨b, 10, none⟩ = some (.int .u32 H.G.hart) ∧ w.cell? ⟨b, 11, none⟩ = some (.int .i64 H.by_) ∧ w.cell? ⟨b, 12, none⟩ = some (.int .u32 H.pc) ∧ w.cell? ⟨b, 13, none⟩ = some (.int .u32 (H.x 0)) ∧ w.cell? ⟨b, 14, none⟩ = some (.int .u32 (H.x 1)) ∧ w.cell? ⟨b, 15, none⟩ = some (.int .u32 (H.x 2)) ∧ w.cell? ⟨b, 16, none⟩ = some (.int .u32 (H.x 3)) ∧ w.cell? ⟨b, 17, none⟩ = some (.int .u32 (H.x 4)) ∧ w.cell? ⟨b, 18, none⟩ = some (.int .u32 (H.x 5)) ∧ w.cell? ⟨b, 19, none⟩ = some (.int .u32 (H.x 6)) ∧ w.cell? ⟨b, 20, none⟩ = some (.int .u32 (H.x 7)) ∧ w.cell? ⟨b, 21, none⟩ = some (.int .u32 (H.x 8)) ∧ w.cell? ⟨b, 22, none⟩ = some (.int .u32 (H.x 9)) ∧ w.cell? ⟨b, 23, none⟩ = some (.int .u32 (H.x 10)) ∧ w.cell? ⟨b, 24, none⟩ = some (.int .u32 (H.x 11)) ∧ w.cell? ⟨b, 25, none⟩ = some (.int .u32 (H.x 12)) ∧ w.cell? ⟨b, 26, none⟩ = some (.int .u32 (H.x 13)) ∧ w.cell? ⟨b, 27, none⟩ = some (.int .u32 (H.x 14)) ∧ w.cell? ⟨b, 28, none⟩ = some (.int .u32 (H.x 15)) ∧ w.cell? ⟨b, 29, none⟩ = some (.int .u32 (H.x 16)) ∧ w.cell? ⟨b, 30, none⟩ = some (.int .u32 (H.x 17)) ∧ w.cell? ⟨b, 31, none⟩ = some (.int .u32 (H.x 18)) ∧ w.cell? ⟨b, 32, none⟩ = some (.int .u32 (H.x 19)) ∧ w.cell? ⟨b, 33, none⟩ = some (.int .u32 (H.x 20)) ∧ w.cell? ⟨b, 34, none⟩ = some (.int .u32 (H.x 21)) ∧ w.cell? ⟨b, 35, none⟩ = some (.int .u32 (H.x 22)) ∧ w.cell? ⟨b, 36, none⟩ = some (.int .u32 (H.x 23)) ∧ w.cell? ⟨b, 37, none⟩ = some (.int .u32 (H.x 24)) ∧ w.cell? ⟨b, 38, none⟩ = some (.int .u32 (H.x 25)) ∧ w.cell? ⟨b, 39, none⟩ = some (.int .u32 (H.x 26)) ∧ w.cell? ⟨b, 40, none⟩ = some (.int .u32 (H.x 27)) ∧ w.cell? ⟨b, 41, none⟩ = some (.int .u32 (H.x 28)) ∧ w.cell? ⟨b, 42, none⟩ = some (.int .u32 (H.x 29)) ∧ w.cell? ⟨b, 43, none⟩ = some (.int .u32 (H.x 30)) ∧ w.cell? ⟨b, 44, none⟩ = some (.int .u32 (H.x 31)) ∧ w.cell? ⟨g, 0, none⟩ = some (.int .i64 k) ∧ w.cell? ⟨g, 1, none⟩ = some (.int .u32 pc) ∧ w.cell? ⟨g, 2, none⟩ = some (.int .u32 wd) ∧ w.cell? ⟨g, 3, none⟩ = some (.int .u32 fpa) ∧ w.cell? ⟨g, 4, none⟩ = some (.int .u32 pa) ∧ w.cell? ⟨g, 5, none⟩ = some (.int .u32 ld) ∧ w.cell? ⟨g, 6, none⟩ = some (.slice fa fn fc) ∧ w.cell? ⟨g, 7, none⟩ = some (.slice wa wn wc) ∧ w.cell? ⟨g, 8, none⟩ = some (.int .u32 ca) ∧ w.cell? ⟨g, 9, none⟩ = some (.int .u32 tv) ∧ w.cell? ⟨g, 10, none⟩ = some (.bool dn) ∧ w.cell? ⟨g, 11, none⟩ = some (.int .i64 fat) ∧ w.cell? ⟨g, 12, none⟩ = some (.int .i64 at_) := by
  obtain ⟨a0, a1, a2, a3, a4, a5, a6, a7, a8, a9, a10, _⟩ := h.cells
  refine ⟨a0, a1, a2, a3, a4, a5, a6, a7, a8, a9, a10, h.c 0 rfl, h.c 1 rfl, h.c 2 rfl, h.c 3 rfl, h.c 4 rfl, h.c 5 rfl, h.c 6 rfl, h.c 7 rfl, h.c 8 rfl, h.c 9 rfl, h.c 10 rfl, h.c 11 rfl, h.c 12 rfl, h.c 13 rfl, h.c 14 rfl, h.c 15 rfl, h.c 16 rfl, h.c 17 rfl, h.c 18 rfl, h.c 19 rfl, h.c 20 rfl, h.c 21 rfl, h.c 22 rfl, h.c 23 rfl, h.c 24 rfl, h.c 25 rfl, h.c 26 rfl, h.c 27 rfl, h.c 28 rfl, h.c 29 rfl, h.c 30 rfl, h.c 31 rfl, h.c 32 rfl, h.c 33 rfl, ?_⟩
  simp [World.cell?, be]
/-- A whole row into the block that was made last, within a region that draws its order. -/
theorem step_row {P : Program} (w : World) {ops : Array Oper} {a : Act} {K : Act → World → Prop} {Q : Exit → Act → World → Prop} {E : Prop} (x y : Nat) {t ty : TypeId} {ps : String} {af : Array Edge}
    (old cells : Array Value) (hx : a.eval (.tmp x) = .pointer (some ⟨w.heap.size, 0, none⟩)) (hy : a.eval (.tmp y) = .agg cells) (hi : (P.info? t).map (·.size) = some cells.size) (hold : old.size = cells.size) (h1 : cells.all (·.oneCell') = true)
    (h : K (a.put none undef) (w.alloc (.cells cells t)).drew) :
    if Region.wanted { dst := none, op := .store t (.tmp x) (.tmp y), type := ty, pos := ps, after := af, guard := none } (yielded ops a.tmps) = true then Oper.wp P { dst := none, op := .store t (.tmp x) (.tmp y), type := ty, pos := ps, after := af, guard := none } a (w.alloc (.cells old t)).drew K Q else E := by
  rw [if_pos (by simp [Region.wanted])]
  refine wp_store_row t (.tmp x) (.tmp y) rfl w.heap.size cells hx hy t old (by show (w.heap.push _)[w.heap.size]? = _; simp) hi hold h1 ?_
  have e : (w.alloc (.cells old t)).drew.setRow w.heap.size cells = (w.alloc (.cells cells t)).drew := World.setRow_alloc_new w.drew old cells t
  rw [e]
  exact h
/-- A struct of three parts built, within a region that draws its order. -/
theorem step_build3 {P : Program} (w : World) {ops : Array Oper} {a : Act} {K : Act → World → Prop} {Q : Exit → Act → World → Prop} {E : Prop} (d x y z : Nat) {t ty : TypeId} {ps : String} {af : Array Edge}
    (vx vy vz : Value) (cells : Array Value) (hx : a.eval (.tmp x) = vx) (hy : a.eval (.tmp y) = vy) (hz : a.eval (.tmp z) = vz) (hb : (Instr.build t #[(0, vx), (1, vy), (2, vz)]).run P w = .ok (.agg cells) w)
    (h : K (a.put (some d) (.agg cells)) w) :
    if Region.wanted { dst := some d, op := .build t #[(0, .tmp x), (1, .tmp y), (2, .tmp z)], type := ty, pos := ps, after := af, guard := none } (yielded ops a.tmps) = true then Oper.wp P { dst := some d, op := .build t #[(0, .tmp x), (1, .tmp y), (2, .tmp z)], type := ty, pos := ps, after := af, guard := none } a w K Q else E := by
  rw [if_pos (by simp [Region.wanted])]
  unfold Oper.wp execOp
  have e : (#[(0, Operand.tmp x), (1, Operand.tmp y), (2, Operand.tmp z)] : Array (Nat × Operand)).map (fun (i, q) => (i, a.eval q)) = #[(0, vx), (1, vy), (2, vz)] := by simp [hx, hy, hz]
  simp only [e, Sem.run_bind, hb, Result.andThen_ok]
  exact h
theorem load_block {b n : Nat} {c : Array Value} {T : TypeId} {w : World} (h : w.heap[b]? = some (.cells c T)) (hn : c.size = n) : (loadCellsFrom ⟨b, 0, none⟩ 0 n #[]).run Tryz.prog w = .ok c w := by
  subst hn
  have := run_loadCells_list (P := Tryz.prog) w ⟨b, 0, none⟩ c.toList (fun j v hv => by
    have hadd : (⟨b, 0, none⟩ : Addr).add j = ⟨b, j, none⟩ := by unfold Addr.add; split <;> simp_all
    rw [hadd, cell_of_row _ _ j c T (0, 0) h]
    simpa using hv)
  simpa [loadCells] using this
theorem HAt.load {b : Nat} {H : W.Ht} {w : World} (h : HAt b H w) : (loadCellsFrom ⟨b, 0, none⟩ 0 45 #[]).run Tryz.prog w = .ok (hartAll H) w := by
  have e : w.heap[b]? = some (.cells (hartCells H) 49) := h.out
  rw [hartAll_eq] at e
  exact load_block e rfl
end Go.Proofs.YteilpehekabccabGreatDoor
