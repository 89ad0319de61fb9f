/- Texts in one: Enc2, Enc3, IsaA, AluA. -/
import Derived.Test.YtopehmpjfndgjaaJ04
import Derived.Test.YtopehmpjfndgjaaJ05
import Derived.Test.YtopehmpjfndgjaaJ06
/- What enc.Lay, enc.Split and enc.Join return, and the chapter's examples. -/
namespace Go.Proofs.Ytopehmpjfndgjaa
open Go.ChangeShapes Go.WideShapes Go.ChangeAt Go.RowKit
set_option linter.unusedVariables false

theorem from_ {P : Program} {f : FuncId} {args : Array Value} {w0 w : World} {v : Value} (h : Calls P f args w fun e w' => e = .returned v ∧ Below w.heap.size w w') (hb : Below w0.heap.size w0 w) :
    Calls P f args w fun e w' => e = .returned v ∧ Below w0.heap.size w0 w' :=
  h.mono fun _ _ ⟨a, b⟩ => ⟨a, hb.trans (b.mono hb.size)⟩

end Go.Proofs.Ytopehmpjfndgjaa

/- What enc.Split and enc.Join return. -/
namespace Go.Proofs.Ytopehmpjfndgjaa
open Go.ChangeShapes Go.WideShapes Go.ChangeAt Go.RowKit
set_option linter.unusedVariables false

/-- The six fields of a word. -/
def headV (x : Int) : Value := .agg #[.int .u32 (W.bitsOf x 0 7), .int .u32 (W.bitsOf x 7 5), .int .u32 (W.bitsOf x 12 3), .int .u32 (W.bitsOf x 15 5), .int .u32 (W.bitsOf x 20 5), .int .u32 (W.bitsOf x 25 7)]
theorem drewN_alloc' (w : World) (o : Obj) : Below w.heap.size w (w.alloc o) := (Below.refl _ _).alloc (Nat.le_refl _) _

set_option maxHeartbeats 1600000 in
theorem split_any (x : Int) (w : World) :
    Calls Try.prog 44 #[.int .u32 x] w fun e w' => e = .returned (headV x) ∧ Below w.heap.size w w' := by
  go_enter Try.func44, Try.ntmps44
  go_wp2_with (go_at_call 46; refine (bits_any _ _ _ _).mono ?_; rintro e w' ⟨rfl, kq, rfl⟩)
  exact bodyPost_ret (v := headV x) (by simp [results, Try.results44, go_sem]; rfl) rfl ⟨rfl, ((((((below_drewN ((Below.refl _ _).alloc (Nat.le_refl _) _) _).setCell (Nat.le_refl _) _).setCell (Nat.le_refl _) _).setCell (Nat.le_refl _) _).setCell (Nat.le_refl _) _).setCell (Nat.le_refl _) _).setCell (Nat.le_refl _) _⟩

/-- Six numbers, by their place. -/
def six (a b c d e f : Int) (j : Nat) : Int := [a, b, c, d, e, f].getD j 0
theorem six_cells (w : World) (t : TypeId) (a b c d e f : Int) :
    (∀ j, j < 6 → (w.alloc (.cells #[.int .i64 0, .int .i64 7, .int .u32 a, .int .i64 7, .int .i64 5, .int .u32 b, .int .i64 12, .int .i64 3, .int .u32 c, .int .i64 15, .int .i64 5, .int .u32 d, .int .i64 20, .int .i64 5, .int .u32 e, .int .i64 25, .int .i64 7, .int .u32 f] t)).cell? ⟨w.heap.size, 0 + j * 3, none⟩ = some (.int .i64 (W.hL j)))
    ∧ (∀ j, j < 6 → (w.alloc (.cells #[.int .i64 0, .int .i64 7, .int .u32 a, .int .i64 7, .int .i64 5, .int .u32 b, .int .i64 12, .int .i64 3, .int .u32 c, .int .i64 15, .int .i64 5, .int .u32 d, .int .i64 20, .int .i64 5, .int .u32 e, .int .i64 25, .int .i64 7, .int .u32 f] t)).cell? ⟨w.heap.size, 0 + j * 3 + 1, none⟩ = some (.int .i64 (W.hN j)))
    ∧ (∀ j, j < 6 → (w.alloc (.cells #[.int .i64 0, .int .i64 7, .int .u32 a, .int .i64 7, .int .i64 5, .int .u32 b, .int .i64 12, .int .i64 3, .int .u32 c, .int .i64 15, .int .i64 5, .int .u32 d, .int .i64 20, .int .i64 5, .int .u32 e, .int .i64 25, .int .i64 7, .int .u32 f] t)).cell? ⟨w.heap.size, 0 + j * 3 + 2, none⟩ = some (.int .u32 (six a b c d e f j))) := by
  refine ⟨?_, ?_, ?_⟩
  all_goals
    intro j hj
    match j, hj with
    | 0, _ | 1, _ | 2, _ | 3, _ | 4, _ | 5, _ => simp [go_sem, W.hL, W.hN, six]

end Go.Proofs.Ytopehmpjfndgjaa

/- What the small functions of package isa return: a contract a function. -/
namespace Go.Proofs.Ytopehmpjfndgjaa
open Go.ChangeShapes Go.WideShapes Go.ChangeAt Go.RowKit
set_option linter.unusedVariables false

def shV (s : W.Sh) : Value := .agg #[.int .u32 s.fixed, .bool s.rd, .bool s.rs1, .bool s.rs2, .bool s.csr, .bool s.ord, .int .u8 s.fmt, .int .i64 s.low, .int .i64 s.size]
def inV (i : W.I) : Value := .agg #[.int .i64 i.op, .int .i64 i.rd, .int .i64 i.rs1, .int .i64 i.rs2, .int .i64 i.csr, .int .u32 i.imm, .bool i.aq, .bool i.rl]
theorem ret_bool' {a b : Bool} (h : a = b) : Ending.returned (.bool a) = .returned (.bool b) := by rw [h]
def codesV : Value := .agg (W.codes.map fun z => Value.int .u32 z).toArray

theorem fr_any (a b c : Int) (w : World) :
    Calls Try.prog 39 #[.int .i64 a, .int .i64 b, .int .i64 c] w fun e w' => e = .returned (.bool (W.fr a b c)) ∧ w = w' := by
  by_cases h1 : a ≤ b
  · go_enter Try.func39, Try.ntmps39
    go_wp2
    go_ret
    exact ⟨by simp [W.fr, h1], rfl⟩
  · go_enter Try.func39, Try.ntmps39
    go_wp2
    go_ret
    exact ⟨by simp [W.fr]; omega, rfl⟩

theorem known_any (op : Int) (w : World) :
    Calls Try.prog 38 #[.int .i64 op] w fun e w' => e = .returned (.bool (W.known op)) ∧ w = w' := by
  go_enter Try.func38, Try.ntmps38
  go_wp2_with (go_at_call 39; refine (fr_any _ _ _ _).mono ?_; rintro e w' ⟨rfl, rfl⟩)
  go_ret
  exact ⟨rfl, rfl⟩

theorem hasImm_any (s : W.Sh) (w : World) :
    Calls Try.prog 52 #[shV s] w fun e w' => e = .returned (.bool (W.hasImm s)) ∧ Below w.heap.size w w' := by
  unfold shV
  cases h1 : (s.fmt != 0)
  · have hr : Hid (W.hasImm s = decide (0 < s.size)) := by
      have : W.hasImm s = decide (0 < s.size) := by simp [W.hasImm, W.hasI, h1]
      exact this
    go_enter Try.func52, Try.ntmps52
    go_wp2
    go_ret
    exact ⟨ret_bool' hr.out.symm, (Below.refl _ _).alloc (Nat.le_refl _) _⟩
  · have hr : Hid (W.hasImm s = true) := by
      have : W.hasImm s = true := by simp [W.hasImm, W.hasI, h1]
      exact this
    go_enter Try.func52, Try.ntmps52
    go_wp2
    go_ret
    exact ⟨ret_bool' hr.out.symm, (Below.refl _ _).alloc (Nat.le_refl _) _⟩

theorem immS_any (s : W.Sh) (x : Int) (w : World) :
    Calls Try.prog 47 #[shV s, .int .u32 x] w fun e w' => e = .returned (.int .u32 (W.immS s x)) ∧ Below w.heap.size w w' := by
  unfold shV
  have hb : Below w.heap.size w w := Below.refl _ _
  cases h1 : decide (0 < s.size)
  · have hr : Hid (W.immS s x = W.imm s.fmt x) := by
      have : W.immS s x = W.imm s.fmt x := by simp [W.immS, h1]
      exact this
    go_enter Try.func47, Try.ntmps47
    go_wp2_with (go_at_call 55; refine (from_ (imm_any _ _ _) (hb.alloc hb.size _)).mono ?_; clear hb; rintro e w' ⟨rfl, hb⟩)
    go_ret
    exact ⟨ret_int hr.out.symm, hb⟩
  · have hr : Hid (W.immS s x = W.bitsOf x s.low s.size) := by
      have : W.immS s x = W.bitsOf x s.low s.size := by simp [W.immS, h1]
      exact this
    go_enter Try.func47, Try.ntmps47
    go_wp2_with (go_at_call 46; refine (bits_any _ _ _ _).mono ?_; rintro e w' ⟨rfl, kq, rfl⟩)
    go_ret
    exact ⟨ret_int hr.out.symm, below_drewN (hb.alloc hb.size _) _⟩

end Go.Proofs.Ytopehmpjfndgjaa

/- What the calls of package alu return: a contract a call, by instruction. -/
namespace Go.Proofs.Ytopehmpjfndgjaa
open Go.ChangeShapes Go.WideShapes Go.ChangeAt Go.RowKit
set_option linter.unusedVariables false
set_option linter.unusedSimpArgs false

theorem wrap_word {b : Int} (b0 : 0 ≤ b) (b1 : b < 4294967296) : wrap64 b = b := by unfold wrap64; omega

end Go.Proofs.Ytopehmpjfndgjaa
