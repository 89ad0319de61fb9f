/- What the small functions of package isa return: a contract a function. -/
import Derived.Test.YthbcdlaejefkaaaDoorPlainI
import Derived.Test.YthbcdlaejefkaaaDoorEnc2
import Derived.Test.YthbcdlaejefkaaaDoorEnc3
namespace Go.Proofs.YthbcdlaejefkaaaDoor
open Go.ChangeShapes Go.WideShapes Go.ChangeAt Go.RowKit
set_option linter.unusedVariables false

def shV (s : W.Sh) : Value := .agg #[.int .u32 s.fixed, .bool s.rd, .bool s.rs1, .bool s.rs2, .bool s.csr, .bool s.ord, .int .u8 s.fmt, .int .i64 s.low, .int .i64 s.size]
def inV (i : W.I) : Value := .agg #[.int .i64 i.op, .int .i64 i.rd, .int .i64 i.rs1, .int .i64 i.rs2, .int .i64 i.csr, .int .u32 i.imm, .bool i.aq, .bool i.rl]
theorem ret_bool' {a b : Bool} (h : a = b) : Ending.returned (.bool a) = .returned (.bool b) := by rw [h]
def codesV : Value := .agg (W.codes.map fun z => Value.int .u32 z).toArray

theorem fr_any (a b c : Int) (w : World) :
    Calls Tryd.prog 41 #[.int .i64 a, .int .i64 b, .int .i64 c] w fun e w' => e = .returned (.bool (W.fr a b c)) ∧ w = w' := by
  by_cases h1 : a ≤ b
  · go_enter Tryd.func41, Tryd.ntmps41
    go_wp2
    go_ret
    exact ⟨by simp [W.fr, h1], rfl⟩
  · go_enter Tryd.func41, Tryd.ntmps41
    go_wp2
    go_ret
    exact ⟨by simp [W.fr]; omega, rfl⟩

theorem known_any (op : Int) (w : World) :
    Calls Tryd.prog 30 #[.int .i64 op] w fun e w' => e = .returned (.bool (W.known op)) ∧ w = w' := by
  go_enter Tryd.func30, Tryd.ntmps30
  go_wp2_with (go_at_call 41; refine (fr_any _ _ _ _).mono ?_; rintro e w' ⟨rfl, rfl⟩)
  go_ret
  exact ⟨rfl, rfl⟩

theorem bit_any (b : Bool) (w : World) :
    Calls Tryd.prog 52 #[.bool b] w fun e w' => e = .returned (.int .u32 (W.one b)) ∧ w = w' := by
  cases b
  all_goals
    go_enter Tryd.func52, Tryd.ntmps52
    go_wp2
    go_ret
    exact ⟨rfl, rfl⟩

theorem hasImm_any (s : W.Sh) (w : World) :
    Calls Tryd.prog 39 #[shV s] w fun e w' => e = .returned (.bool (W.hasImm s)) ∧ Below w.heap.size w w' := by
  unfold shV
  cases h1 : (s.fmt != 0)
  · have hr : Hid (W.hasImm s = decide (0 < s.size)) := by
      have : W.hasImm s = decide (0 < s.size) := by simp [W.hasImm, W.hasI, h1]
      exact this
    go_enter Tryd.func39, Tryd.ntmps39
    go_wp2
    go_ret
    exact ⟨ret_bool' hr.out.symm, (Below.refl _ _).alloc (Nat.le_refl _) _⟩
  · have hr : Hid (W.hasImm s = true) := by
      have : W.hasImm s = true := by simp [W.hasImm, W.hasI, h1]
      exact this
    go_enter Tryd.func39, Tryd.ntmps39
    go_wp2
    go_ret
    exact ⟨ret_bool' hr.out.symm, (Below.refl _ _).alloc (Nat.le_refl _) _⟩

theorem immS_any (s : W.Sh) (x : Int) (w : World) :
    Calls Tryd.prog 47 #[shV s, .int .u32 x] w fun e w' => e = .returned (.int .u32 (W.immS s x)) ∧ Below w.heap.size w w' := by
  unfold shV
  have hb : Below w.heap.size w w := Below.refl _ _
  cases h1 : decide (0 < s.size)
  · have hr : Hid (W.immS s x = W.imm s.fmt x) := by
      have : W.immS s x = W.imm s.fmt x := by simp [W.immS, h1]
      exact this
    go_enter Tryd.func47, Tryd.ntmps47
    go_wp2_with (go_at_call 58; refine (from_ (imm_any _ _ _) (hb.alloc hb.size _)).mono ?_; clear hb; rintro e w' ⟨rfl, hb⟩)
    go_ret
    exact ⟨ret_int hr.out.symm, hb⟩
  · have hr : Hid (W.immS s x = W.bitsOf x s.low s.size) := by
      have : W.immS s x = W.bitsOf x s.low s.size := by simp [W.immS, h1]
      exact this
    go_enter Tryd.func47, Tryd.ntmps47
    go_wp2_with (go_at_call 46; refine (bits_any _ _ _ _).mono ?_; rintro e w' ⟨rfl, kq, rfl⟩)
    go_ret
    exact ⟨ret_int hr.out.symm, below_drewN (hb.alloc hb.size _) _⟩

end Go.Proofs.YthbcdlaejefkaaaDoor
