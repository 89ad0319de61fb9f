/- Texts in one: Enc3, IsaA, AluA, AluB. -/
import Derived.Test.YtmihcicepgjogaaGreatDoorJ01
import Derived.Test.YtmihcicepgjogaaGreatDoorJ02
/- What enc.Split and enc.Join return. -/
namespace Go.Proofs.YtmihcicepgjogaaGreatDoor
open Go.ChangeShapes Go.WideShapes Go.ChangeAt Go.RowKit
set_option linter.unusedVariables false

/-- The six fields of a word. -/
def headV (x : Int) : Value := .agg #[.int .u32 (W.bitsOf x 0 7), .int .u32 (W.bitsOf x 7 5), .int .u32 (W.bitsOf x 12 3), .int .u32 (W.bitsOf x 15 5), .int .u32 (W.bitsOf x 20 5), .int .u32 (W.bitsOf x 25 7)]
theorem drewN_alloc' (w : World) (o : Obj) : Below w.heap.size w (w.alloc o) := (Below.refl _ _).alloc (Nat.le_refl _) _

set_option maxHeartbeats 1600000 in
theorem split_any (x : Int) (w : World) :
    Calls Tryz.prog 126 #[.int .u32 x] w fun e w' => e = .returned (headV x) ∧ Below w.heap.size w w' := by
  go_enter Tryz.func126, Tryz.ntmps126
  go_wp2_with (go_at_call 92; refine (bits_any _ _ _ _).mono ?_; rintro e w' ⟨rfl, kq, rfl⟩)
  exact bodyPost_ret (v := headV x) (by simp [results, Tryz.results126, go_sem]; rfl) rfl ⟨rfl, ((((((below_drewN ((Below.refl _ _).alloc (Nat.le_refl _) _) _).setCell (Nat.le_refl _) _).setCell (Nat.le_refl _) _).setCell (Nat.le_refl _) _).setCell (Nat.le_refl _) _).setCell (Nat.le_refl _) _).setCell (Nat.le_refl _) _⟩

/-- Six numbers, by their place. -/
def six (a b c d e f : Int) (j : Nat) : Int := [a, b, c, d, e, f].getD j 0
theorem six_cells (w : World) (t : TypeId) (a b c d e f : Int) :
    (∀ j, j < 6 → (w.alloc (.cells #[.int .i64 0, .int .i64 7, .int .u32 a, .int .i64 7, .int .i64 5, .int .u32 b, .int .i64 12, .int .i64 3, .int .u32 c, .int .i64 15, .int .i64 5, .int .u32 d, .int .i64 20, .int .i64 5, .int .u32 e, .int .i64 25, .int .i64 7, .int .u32 f] t)).cell? ⟨w.heap.size, 0 + j * 3, none⟩ = some (.int .i64 (W.hL j)))
    ∧ (∀ j, j < 6 → (w.alloc (.cells #[.int .i64 0, .int .i64 7, .int .u32 a, .int .i64 7, .int .i64 5, .int .u32 b, .int .i64 12, .int .i64 3, .int .u32 c, .int .i64 15, .int .i64 5, .int .u32 d, .int .i64 20, .int .i64 5, .int .u32 e, .int .i64 25, .int .i64 7, .int .u32 f] t)).cell? ⟨w.heap.size, 0 + j * 3 + 1, none⟩ = some (.int .i64 (W.hN j)))
    ∧ (∀ j, j < 6 → (w.alloc (.cells #[.int .i64 0, .int .i64 7, .int .u32 a, .int .i64 7, .int .i64 5, .int .u32 b, .int .i64 12, .int .i64 3, .int .u32 c, .int .i64 15, .int .i64 5, .int .u32 d, .int .i64 20, .int .i64 5, .int .u32 e, .int .i64 25, .int .i64 7, .int .u32 f] t)).cell? ⟨w.heap.size, 0 + j * 3 + 2, none⟩ = some (.int .u32 (six a b c d e f j))) := by
  refine ⟨?_, ?_, ?_⟩
  all_goals
    intro j hj
    match j, hj with
    | 0, _ | 1, _ | 2, _ | 3, _ | 4, _ | 5, _ => simp [go_sem, W.hL, W.hN, six]

set_option maxHeartbeats 1600000 in
theorem join_any (a b c d e f : Int) (w : World) :
    Calls Tryz.prog 83 #[.agg #[.int .u32 a, .int .u32 b, .int .u32 c, .int .u32 d, .int .u32 e, .int .u32 f]] w fun e' w' => e' = .returned (.int .u32 (W.pack W.hL W.hN (six a b c d e f) 6)) ∧ Below w.heap.size w w' := by
  go_enter Tryz.func83, Tryz.ntmps83
  have hx := six_cells (w.alloc (.cells #[.int .u32 a, .int .u32 b, .int .u32 c, .int .u32 d, .int .u32 e, .int .u32 f] 126)) 122 a b c d e f
  go_wp2_with (go_at_call 80; refine (pack_any (w.heap.size + 1) 0 6 6 W.hL W.hN (six a b c d e f) _ (by decide) (by simp) (by simpa using hx.1) (by simpa using hx.2.1) (by simpa using hx.2.2)).mono ?_; clear hx; rintro e' w' ⟨rfl, hb⟩)
  go_ret
  exact ⟨rfl, (((Below.refl _ _).alloc (Nat.le_refl _) _).alloc (by simp) _).trans (hb.mono (by simp; omega))⟩

end Go.Proofs.YtmihcicepgjogaaGreatDoor

/- What the small functions of package isa return: a contract a function. -/
namespace Go.Proofs.YtmihcicepgjogaaGreatDoor
open Go.ChangeShapes Go.WideShapes Go.ChangeAt Go.RowKit
set_option linter.unusedVariables false

def shV (s : W.Sh) : Value := .agg #[.int .u32 s.fixed, .bool s.rd, .bool s.rs1, .bool s.rs2, .bool s.csr, .bool s.ord, .int .u8 s.fmt, .int .i64 s.low, .int .i64 s.size]
def inV (i : W.I) : Value := .agg #[.int .i64 i.op, .int .i64 i.rd, .int .i64 i.rs1, .int .i64 i.rs2, .int .i64 i.csr, .int .u32 i.imm, .bool i.aq, .bool i.rl]
theorem ret_bool' {a b : Bool} (h : a = b) : Ending.returned (.bool a) = .returned (.bool b) := by rw [h]
def codesV : Value := .agg (W.codes.map fun z => Value.int .u32 z).toArray

theorem fr_any (a b c : Int) (w : World) :
    Calls Tryz.prog 78 #[.int .i64 a, .int .i64 b, .int .i64 c] w fun e w' => e = .returned (.bool (W.fr a b c)) ∧ w = w' := by
  by_cases h1 : a ≤ b
  · go_enter Tryz.func78, Tryz.ntmps78
    go_wp2
    go_ret
    exact ⟨by simp [W.fr, h1], rfl⟩
  · go_enter Tryz.func78, Tryz.ntmps78
    go_wp2
    go_ret
    exact ⟨by simp [W.fr]; omega, rfl⟩

theorem known_any (op : Int) (w : World) :
    Calls Tryz.prog 46 #[.int .i64 op] w fun e w' => e = .returned (.bool (W.known op)) ∧ w = w' := by
  go_enter Tryz.func46, Tryz.ntmps46
  go_wp2_with (go_at_call 78; refine (fr_any _ _ _ _).mono ?_; rintro e w' ⟨rfl, rfl⟩)
  go_ret
  exact ⟨rfl, rfl⟩

theorem bit_any (b : Bool) (w : World) :
    Calls Tryz.prog 84 #[.bool b] w fun e w' => e = .returned (.int .u32 (W.one b)) ∧ w = w' := by
  cases b
  all_goals
    go_enter Tryz.func84, Tryz.ntmps84
    go_wp2
    go_ret
    exact ⟨rfl, rfl⟩

theorem hasImm_any (s : W.Sh) (w : World) :
    Calls Tryz.prog 79 #[shV s] w fun e w' => e = .returned (.bool (W.hasImm s)) ∧ Below w.heap.size w w' := by
  unfold shV
  cases h1 : (s.fmt != 0)
  · have hr : Hid (W.hasImm s = decide (0 < s.size)) := by
      have : W.hasImm s = decide (0 < s.size) := by simp [W.hasImm, W.hasI, h1]
      exact this
    go_enter Tryz.func79, Tryz.ntmps79
    go_wp2
    go_ret
    exact ⟨ret_bool' hr.out.symm, (Below.refl _ _).alloc (Nat.le_refl _) _⟩
  · have hr : Hid (W.hasImm s = true) := by
      have : W.hasImm s = true := by simp [W.hasImm, W.hasI, h1]
      exact this
    go_enter Tryz.func79, Tryz.ntmps79
    go_wp2
    go_ret
    exact ⟨ret_bool' hr.out.symm, (Below.refl _ _).alloc (Nat.le_refl _) _⟩

theorem immS_any (s : W.Sh) (x : Int) (w : World) :
    Calls Tryz.prog 81 #[shV s, .int .u32 x] w fun e w' => e = .returned (.int .u32 (W.immS s x)) ∧ Below w.heap.size w w' := by
  unfold shV
  have hb : Below w.heap.size w w := Below.refl _ _
  cases h1 : decide (0 < s.size)
  · have hr : Hid (W.immS s x = W.imm s.fmt x) := by
      have : W.immS s x = W.imm s.fmt x := by simp [W.immS, h1]
      exact this
    go_enter Tryz.func81, Tryz.ntmps81
    go_wp2_with (go_at_call 108; refine (from_ (imm_any _ _ _) (hb.alloc hb.size _)).mono ?_; clear hb; rintro e w' ⟨rfl, hb⟩)
    go_ret
    exact ⟨ret_int hr.out.symm, hb⟩
  · have hr : Hid (W.immS s x = W.bitsOf x s.low s.size) := by
      have : W.immS s x = W.bitsOf x s.low s.size := by simp [W.immS, h1]
      exact this
    go_enter Tryz.func81, Tryz.ntmps81
    go_wp2_with (go_at_call 92; refine (bits_any _ _ _ _).mono ?_; rintro e w' ⟨rfl, kq, rfl⟩)
    go_ret
    exact ⟨ret_int hr.out.symm, below_drewN (hb.alloc hb.size _) _⟩

end Go.Proofs.YtmihcicepgjogaaGreatDoor

/- What the calls of package alu return: a contract a call, by instruction. -/
namespace Go.Proofs.YtmihcicepgjogaaGreatDoor
open Go.ChangeShapes Go.WideShapes Go.ChangeAt Go.RowKit
set_option linter.unusedVariables false
set_option linter.unusedSimpArgs false

theorem wrap_word {b : Int} (b0 : 0 ≤ b) (b1 : b < 4294967296) : wrap64 b = b := by unfold wrap64; omega

end Go.Proofs.YtmihcicepgjogaaGreatDoor

/- What Kind, Size, Extend and Cut return. -/
namespace Go.Proofs.YtmihcicepgjogaaGreatDoor
open Go.ChangeShapes Go.WideShapes Go.ChangeAt Go.RowKit
set_option linter.unusedVariables false
set_option linter.unusedSimpArgs false

theorem bits_low (x low n : Int) (w : World) :
    Calls Tryz.prog 92 #[.int .u32 x, .int .i64 low, .int .i64 n] w fun e w' => e = .returned (.int .u32 (W.bitsOf x low n)) ∧ Below w.heap.size w w' := by
  refine (bits_any x low n w).mono ?_
  rintro e w' ⟨rfl, k, rfl⟩
  exact ⟨rfl, below_drewN (Below.refl _ _) k⟩

set_option maxHeartbeats 1600000 in
theorem kind_any (op : Int) (w : World) :
    Calls Tryz.prog 112 #[.int .i64 op] w fun e w' => e = .returned (.int .i64 (W.kind op)) ∧ w = w' := by
  cases h0 : (W.known op)
  case false =>
    have hv : Hid (W.kind op = 0) := (by simp only [W.kind, h0, cond_true, cond_false, Bool.not_true, Bool.not_false] : W.kind op = 0)
    go_enter Tryz.func112, Tryz.ntmps112
    go_wp2_with (first | (go_at_call 46; refine (known_any _ _).mono ?_; rintro e w' ⟨rfl, rfl⟩) | (go_at_call 78; refine (fr_any _ _ _ _).mono ?_; rintro e w' ⟨rfl, rfl⟩))
    go_ret
    exact ⟨ret_int hv.out.symm, rfl⟩
  cases h1 : (W.fr 1 op 2)
  case true =>
    have hv : Hid (W.kind op = 1) := (by simp only [W.kind, h0, h1, cond_true, cond_false, Bool.not_true, Bool.not_false] : W.kind op = 1)
    go_enter Tryz.func112, Tryz.ntmps112
    go_wp2_with (first | (go_at_call 46; refine (known_any _ _).mono ?_; rintro e w' ⟨rfl, rfl⟩) | (go_at_call 78; refine (fr_any _ _ _ _).mono ?_; rintro e w' ⟨rfl, rfl⟩))
    go_ret
    exact ⟨ret_int hv.out.symm, rfl⟩
  cases h2 : (W.fr 19 op 37)
  case true =>
    have hv : Hid (W.kind op = 1) := (by simp only [W.kind, h0, h1, h2, cond_true, cond_false, Bool.not_true, Bool.not_false] : W.kind op = 1)
    go_enter Tryz.func112, Tryz.ntmps112
    go_wp2_with (first | (go_at_call 46; refine (known_any _ _).mono ?_; rintro e w' ⟨rfl, rfl⟩) | (go_at_call 78; refine (fr_any _ _ _ _).mono ?_; rintro e w' ⟨rfl, rfl⟩))
    go_ret
    exact ⟨ret_int hv.out.symm, rfl⟩
  cases h3 : (W.fr 51 op 58)
  case true =>
    have hv : Hid (W.kind op = 1) := (by simp only [W.kind, h0, h1, h2, h3, cond_true, cond_false, Bool.not_true, Bool.not_false] : W.kind op = 1)
    go_enter Tryz.func112, Tryz.ntmps112
    go_wp2_with (first | (go_at_call 46; refine (known_any _ _).mono ?_; rintro e w' ⟨rfl, rfl⟩) | (go_at_call 78; refine (fr_any _ _ _ _).mono ?_; rintro e w' ⟨rfl, rfl⟩))
    go_ret
    exact ⟨ret_int hv.out.symm, rfl⟩
  cases h4 : (W.fr 3 op 4)
  case true =>
    have hv : Hid (W.kind op = 2) := (by simp only [W.kind, h0, h1, h2, h3, h4, cond_true, cond_false, Bool.not_true, Bool.not_false] : W.kind op = 2)
    go_enter Tryz.func112, Tryz.ntmps112
    go_wp2_with (first | (go_at_call 46; refine (known_any _ _).mono ?_; rintro e w' ⟨rfl, rfl⟩) | (go_at_call 78; refine (fr_any _ _ _ _).mono ?_; rintro e w' ⟨rfl, rfl⟩))
    go_ret
    exact ⟨ret_int hv.out.symm, rfl⟩
  cases h5 : (W.fr 5 op 10)
  case true =>
    have hv : Hid (W.kind op = 3) := (by simp only [W.kind, h0, h1, h2, h3, h4, h5, cond_true, cond_false, Bool.not_true, Bool.not_false] : W.kind op = 3)
    go_enter Tryz.func112, Tryz.ntmps112
    go_wp2_with (first | (go_at_call 46; refine (known_any _ _).mono ?_; rintro e w' ⟨rfl, rfl⟩) | (go_at_call 78; refine (fr_any _ _ _ _).mono ?_; rintro e w' ⟨rfl, rfl⟩))
    go_ret
    exact ⟨ret_int hv.out.symm, rfl⟩
  cases h6 : (W.fr 11 op 15)
  case true =>
    have hv : Hid (W.kind op = 4) := (by simp only [W.kind, h0, h1, h2, h3, h4, h5, h6, cond_true, cond_false, Bool.not_true, Bool.not_false] : W.kind op = 4)
    go_enter Tryz.func112, Tryz.ntmps112
    go_wp2_with (first | (go_at_call 46; refine (known_any _ _).mono ?_; rintro e w' ⟨rfl, rfl⟩) | (go_at_call 78; refine (fr_any _ _ _ _).mono ?_; rintro e w' ⟨rfl, rfl⟩))
    go_ret
    exact ⟨ret_int hv.out.symm, rfl⟩
  cases h7 : (op == 59)
  case true =>
    have hv : Hid (W.kind op = 4) := (by simp only [W.kind, h0, h1, h2, h3, h4, h5, h6, h7, cond_true, cond_false, Bool.not_true, Bool.not_false] : W.kind op = 4)
    go_enter Tryz.func112, Tryz.ntmps112
    go_wp2_with (first | (go_at_call 46; refine (known_any _ _).mono ?_; rintro e w' ⟨rfl, rfl⟩) | (go_at_call 78; refine (fr_any _ _ _ _).mono ?_; rintro e w' ⟨rfl, rfl⟩))
    go_ret
    exact ⟨ret_int hv.out.symm, rfl⟩
  cases h8 : (W.fr 16 op 18)
  case true =>
    have hv : Hid (W.kind op = 5) := (by simp only [W.kind, h0, h1, h2, h3, h4, h5, h6, h7, h8, cond_true, cond_false, Bool.not_true, Bool.not_false] : W.kind op = 5)
    go_enter Tryz.func112, Tryz.ntmps112
    go_wp2_with (first | (go_at_call 46; refine (known_any _ _).mono ?_; rintro e w' ⟨rfl, rfl⟩) | (go_at_call 78; refine (fr_any _ _ _ _).mono ?_; rintro e w' ⟨rfl, rfl⟩))
    go_ret
    exact ⟨ret_int hv.out.symm, rfl⟩
  cases h9 : (W.fr 60 op 69)
  case true =>
    have hv : Hid (W.kind op = 6) := (by simp only [W.kind, h0, h1, h2, h3, h4, h5, h6, h7, h8, h9, cond_true, cond_false, Bool.not_true, Bool.not_false] : W.kind op = 6)
    go_enter Tryz.func112, Tryz.ntmps112
    go_wp2_with (first | (go_at_call 46; refine (known_any _ _).mono ?_; rintro e w' ⟨rfl, rfl⟩) | (go_at_call 78; refine (fr_any _ _ _ _).mono ?_; rintro e w' ⟨rfl, rfl⟩))
    go_ret
    exact ⟨ret_int hv.out.symm, rfl⟩
  case false =>
    have hv : Hid (W.kind op = 7) := (by simp only [W.kind, h0, h1, h2, h3, h4, h5, h6, h7, h8, h9, cond_true, cond_false, Bool.not_true, Bool.not_false] : W.kind op = 7)
    go_enter Tryz.func112, Tryz.ntmps112
    go_wp2_with (first | (go_at_call 46; refine (known_any _ _).mono ?_; rintro e w' ⟨rfl, rfl⟩) | (go_at_call 78; refine (fr_any _ _ _ _).mono ?_; rintro e w' ⟨rfl, rfl⟩))
    go_ret
    exact ⟨ret_int hv.out.symm, rfl⟩

theorem kind_11 (w : World) : Calls Tryz.prog 112 #[.int .i64 11] w fun e w' => e = .returned (.int .i64 4) ∧ w = w' := kind_any 11 w

theorem kind_12 (w : World) : Calls Tryz.prog 112 #[.int .i64 12] w fun e w' => e = .returned (.int .i64 4) ∧ w = w' := kind_any 12 w

theorem kind_13 (w : World) : Calls Tryz.prog 112 #[.int .i64 13] w fun e w' => e = .returned (.int .i64 4) ∧ w = w' := kind_any 13 w

theorem kind_14 (w : World) : Calls Tryz.prog 112 #[.int .i64 14] w fun e w' => e = .returned (.int .i64 4) ∧ w = w' := kind_any 14 w

theorem kind_15 (w : World) : Calls Tryz.prog 112 #[.int .i64 15] w fun e w' => e = .returned (.int .i64 4) ∧ w = w' := kind_any 15 w

theorem kind_16 (w : World) : Calls Tryz.prog 112 #[.int .i64 16] w fun e w' => e = .returned (.int .i64 5) ∧ w = w' := kind_any 16 w

theorem kind_17 (w : World) : Calls Tryz.prog 112 #[.int .i64 17] w fun e w' => e = .returned (.int .i64 5) ∧ w = w' := kind_any 17 w

theorem kind_18 (w : World) : Calls Tryz.prog 112 #[.int .i64 18] w fun e w' => e = .returned (.int .i64 5) ∧ w = w' := kind_any 18 w

theorem kind_59 (w : World) : Calls Tryz.prog 112 #[.int .i64 59] w fun e w' => e = .returned (.int .i64 4) ∧ w = w' := kind_any 59 w

theorem kind_60 (w : World) : Calls Tryz.prog 112 #[.int .i64 60] w fun e w' => e = .returned (.int .i64 6) ∧ w = w' := kind_any 60 w

theorem kind_61 (w : World) : Calls Tryz.prog 112 #[.int .i64 61] w fun e w' => e = .returned (.int .i64 6) ∧ w = w' := kind_any 61 w

theorem kind_62 (w : World) : Calls Tryz.prog 112 #[.int .i64 62] w fun e w' => e = .returned (.int .i64 6) ∧ w = w' := kind_any 62 w

theorem kind_63 (w : World) : Calls Tryz.prog 112 #[.int .i64 63] w fun e w' => e = .returned (.int .i64 6) ∧ w = w' := kind_any 63 w

theorem kind_64 (w : World) : Calls Tryz.prog 112 #[.int .i64 64] w fun e w' => e = .returned (.int .i64 6) ∧ w = w' := kind_any 64 w

theorem kind_65 (w : World) : Calls Tryz.prog 112 #[.int .i64 65] w fun e w' => e = .returned (.int .i64 6) ∧ w = w' := kind_any 65 w

theorem kind_66 (w : World) : Calls Tryz.prog 112 #[.int .i64 66] w fun e w' => e = .returned (.int .i64 6) ∧ w = w' := kind_any 66 w

theorem kind_67 (w : World) : Calls Tryz.prog 112 #[.int .i64 67] w fun e w' => e = .returned (.int .i64 6) ∧ w = w' := kind_any 67 w

theorem kind_68 (w : World) : Calls Tryz.prog 112 #[.int .i64 68] w fun e w' => e = .returned (.int .i64 6) ∧ w = w' := kind_any 68 w

theorem kind_69 (w : World) : Calls Tryz.prog 112 #[.int .i64 69] w fun e w' => e = .returned (.int .i64 6) ∧ w = w' := kind_any 69 w

end Go.Proofs.YtmihcicepgjogaaGreatDoor
