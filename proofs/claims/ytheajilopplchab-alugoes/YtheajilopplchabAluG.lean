/- What Result and Next return, and the document's. -/
import Derived.Test.YtheajilopplchabUses
import Derived.Test.YtheajilopplchabAluR
namespace Go.Proofs.Ytheajilopplchab
open Go.ChangeShapes Go.WideShapes Go.ChangeAt Go.RowKit
set_option linter.unusedVariables false
set_option linter.unusedSimpArgs false

namespace W
def resE (op imm a b : Int) : Int := doV op a (bif hasImm (shp op) then imm else b)
def resV (op imm pc a b : Int) : Int := bif op == 1 then imm else bif op == 2 then (pc + imm) % 4294967296 else bif (op == 3) || (op == 4) then (pc + 4) % 4294967296 else resE op imm a b
def resB (op : Int) : Bool := bif (op == 1) || ((op == 2) || ((op == 3) || (op == 4))) then true else doB op
def nextV (op imm pc a b : Int) : Int := bif op == 3 then (pc + imm) % 4294967296 else bif op == 4 then bits .andNot .u32 ((a + imm) % 4294967296) 1 else bif takV op a b then (pc + imm) % 4294967296 else (pc + 4) % 4294967296
theorem resE_eq (op imm a b : Int) (c : Bool) (hc : c = (decide (19 ≤ op) && decide (op ≤ 27))) : resE op imm a b = doV op a (bif c then imm else b) := by
  subst hc
  unfold resE
  cases h : doB op
  · rw [doV_none _ _ h, doV_none _ _ h]
  · rcases doB_cases h with rfl | rfl | rfl | rfl | rfl | rfl | rfl | rfl | rfl | rfl | rfl | rfl | rfl | rfl | rfl | rfl | rfl | rfl | rfl | rfl | rfl | rfl | rfl | rfl | rfl | rfl | rfl <;> rfl
end W

theorem res_1 (rd rs1 rs2 csr imm : Int) (aq rl : Bool) (pc a b : Int) (w : World) : Calls Try.prog 23 #[.agg #[.int .i64 1, .int .i64 rd, .int .i64 rs1, .int .i64 rs2, .int .i64 csr, .int .u32 imm, .bool aq, .bool rl], .int .u32 pc, .int .u32 a, .int .u32 b] w fun e w' => e = .returned (.tuple #[.int .u32 (imm), .bool true]) ∧ Below w.heap.size w w' := by
  have hb : Below w.heap.size w w := Below.refl _ _
  go_enter Try.func23, Try.ntmps23
  go_wp2
  exact bodyPost_ret (v := .tuple #[.int .u32 (imm), .bool true]) (by simp [results, Try.results23, go_sem]) rfl ⟨rfl, by repeat (first | exact hb | exact hb.alloc hb.size _)⟩

theorem res_2 (rd rs1 rs2 csr imm : Int) (aq rl : Bool) (pc a b : Int) (w : World) : Calls Try.prog 23 #[.agg #[.int .i64 2, .int .i64 rd, .int .i64 rs1, .int .i64 rs2, .int .i64 csr, .int .u32 imm, .bool aq, .bool rl], .int .u32 pc, .int .u32 a, .int .u32 b] w fun e w' => e = .returned (.tuple #[.int .u32 ((pc + imm) % 4294967296), .bool true]) ∧ Below w.heap.size w w' := by
  have hb : Below w.heap.size w w := Below.refl _ _
  go_enter Try.func23, Try.ntmps23
  go_wp2
  exact bodyPost_ret (v := .tuple #[.int .u32 ((pc + imm) % 4294967296), .bool true]) (by simp [results, Try.results23, go_sem]) rfl ⟨rfl, by repeat (first | exact hb | exact hb.alloc hb.size _)⟩

theorem res_3 (rd rs1 rs2 csr imm : Int) (aq rl : Bool) (pc a b : Int) (w : World) : Calls Try.prog 23 #[.agg #[.int .i64 3, .int .i64 rd, .int .i64 rs1, .int .i64 rs2, .int .i64 csr, .int .u32 imm, .bool aq, .bool rl], .int .u32 pc, .int .u32 a, .int .u32 b] w fun e w' => e = .returned (.tuple #[.int .u32 ((pc + 4) % 4294967296), .bool true]) ∧ Below w.heap.size w w' := by
  have hb : Below w.heap.size w w := Below.refl _ _
  go_enter Try.func23, Try.ntmps23
  go_wp2
  exact bodyPost_ret (v := .tuple #[.int .u32 ((pc + 4) % 4294967296), .bool true]) (by simp [results, Try.results23, go_sem]) rfl ⟨rfl, by repeat (first | exact hb | exact hb.alloc hb.size _)⟩

theorem res_4 (rd rs1 rs2 csr imm : Int) (aq rl : Bool) (pc a b : Int) (w : World) : Calls Try.prog 23 #[.agg #[.int .i64 4, .int .i64 rd, .int .i64 rs1, .int .i64 rs2, .int .i64 csr, .int .u32 imm, .bool aq, .bool rl], .int .u32 pc, .int .u32 a, .int .u32 b] w fun e w' => e = .returned (.tuple #[.int .u32 ((pc + 4) % 4294967296), .bool true]) ∧ Below w.heap.size w w' := by
  have hb : Below w.heap.size w w := Below.refl _ _
  go_enter Try.func23, Try.ntmps23
  go_wp2
  exact bodyPost_ret (v := .tuple #[.int .u32 ((pc + 4) % 4294967296), .bool true]) (by simp [results, Try.results23, go_sem]) rfl ⟨rfl, by repeat (first | exact hb | exact hb.alloc hb.size _)⟩

theorem rres_1 (rd rs1 rs2 csr imm : Int) (aq rl : Bool) (pc a b : Int) (w : World) : Calls Try.prog 24 #[.agg #[.int .i64 1, .int .i64 rd, .int .i64 rs1, .int .i64 rs2, .int .i64 csr, .int .u32 imm, .bool aq, .bool rl], .int .u32 pc, .int .u32 a, .int .u32 b] w fun e w' => e = .returned (.tuple #[.int .u32 (imm), .bool true]) ∧ Below w.heap.size w w' := by
  have hb : Below w.heap.size w w := Below.refl _ _
  go_enter Try.func24, Try.ntmps24
  go_wp2
  exact bodyPost_ret (v := .tuple #[.int .u32 (imm), .bool true]) (by simp [results, Try.results24, go_sem]) rfl ⟨rfl, by repeat (first | exact hb | exact hb.alloc hb.size _)⟩

theorem rres_2 (rd rs1 rs2 csr imm : Int) (aq rl : Bool) (pc a b : Int) (w : World) : Calls Try.prog 24 #[.agg #[.int .i64 2, .int .i64 rd, .int .i64 rs1, .int .i64 rs2, .int .i64 csr, .int .u32 imm, .bool aq, .bool rl], .int .u32 pc, .int .u32 a, .int .u32 b] w fun e w' => e = .returned (.tuple #[.int .u32 ((pc + imm) % 4294967296), .bool true]) ∧ Below w.heap.size w w' := by
  have hb : Below w.heap.size w w := Below.refl _ _
  go_enter Try.func24, Try.ntmps24
  go_wp2
  exact bodyPost_ret (v := .tuple #[.int .u32 ((pc + imm) % 4294967296), .bool true]) (by simp [results, Try.results24, go_sem]) rfl ⟨rfl, by repeat (first | exact hb | exact hb.alloc hb.size _)⟩

theorem rres_3 (rd rs1 rs2 csr imm : Int) (aq rl : Bool) (pc a b : Int) (w : World) : Calls Try.prog 24 #[.agg #[.int .i64 3, .int .i64 rd, .int .i64 rs1, .int .i64 rs2, .int .i64 csr, .int .u32 imm, .bool aq, .bool rl], .int .u32 pc, .int .u32 a, .int .u32 b] w fun e w' => e = .returned (.tuple #[.int .u32 ((pc + 4) % 4294967296), .bool true]) ∧ Below w.heap.size w w' := by
  have hb : Below w.heap.size w w := Below.refl _ _
  go_enter Try.func24, Try.ntmps24
  go_wp2
  exact bodyPost_ret (v := .tuple #[.int .u32 ((pc + 4) % 4294967296), .bool true]) (by simp [results, Try.results24, go_sem]) rfl ⟨rfl, by repeat (first | exact hb | exact hb.alloc hb.size _)⟩

theorem rres_4 (rd rs1 rs2 csr imm : Int) (aq rl : Bool) (pc a b : Int) (w : World) : Calls Try.prog 24 #[.agg #[.int .i64 4, .int .i64 rd, .int .i64 rs1, .int .i64 rs2, .int .i64 csr, .int .u32 imm, .bool aq, .bool rl], .int .u32 pc, .int .u32 a, .int .u32 b] w fun e w' => e = .returned (.tuple #[.int .u32 ((pc + 4) % 4294967296), .bool true]) ∧ Below w.heap.size w w' := by
  have hb : Below w.heap.size w w := Below.refl _ _
  go_enter Try.func24, Try.ntmps24
  go_wp2
  exact bodyPost_ret (v := .tuple #[.int .u32 ((pc + 4) % 4294967296), .bool true]) (by simp [results, Try.results24, go_sem]) rfl ⟨rfl, by repeat (first | exact hb | exact hb.alloc hb.size _)⟩

set_option maxHeartbeats 1600000 in
theorem res_else (op rd rs1 rs2 csr imm : Int) (aq rl : Bool) (pc a b : Int) (a0 : 0 ≤ a) (a1 : a < 4294967296) (b0 : 0 ≤ b) (b1 : b < 4294967296) (m0 : 0 ≤ imm) (m1 : imm < 4294967296) (q1 : (op == 1) = false) (q2 : (op == 2) = false) (q3 : (op == 3) = false) (q4 : (op == 4) = false) (w : World) :
    Calls Try.prog 23 #[.agg #[.int .i64 op, .int .i64 rd, .int .i64 rs1, .int .i64 rs2, .int .i64 csr, .int .u32 imm, .bool aq, .bool rl], .int .u32 pc, .int .u32 a, .int .u32 b] w fun e w' => e = .returned (.tuple #[.int .u32 (W.resE op imm a b), .bool (W.doB op)]) ∧ Below w.heap.size w w' := by
  have hb : Below w.heap.size w w := Below.refl _ _
  cases hI : W.hasImm (W.shp op)
  · have hv : Hid (W.resE op imm a b = W.doV op a b) := (by rw [W.resE, hI]; rfl : W.resE op imm a b = W.doV op a b)
    go_enter Try.func23, Try.ntmps23
    go_wp2_with (first
      | (go_at_call 51; refine (uses_any op _).mono ?_; rintro e w1 ⟨rfl, hm⟩; have h1 : Hid (Below w.heap.size w w1) := (by first | exact hb.trans (hm.mono hb.size) | exact ((hb.alloc hb.size _).trans (hm.mono (by simp)))); have c0 : w1.cell? ⟨w.heap.size, 0, none⟩ = some (.int .i64 op) := (hm.cell (by simp)).trans (by simp [go_sem]); have c5 : w1.cell? ⟨w.heap.size, 5, none⟩ = some (.int .u32 imm) := (hm.cell (by simp)).trans (by simp [go_sem]); clear hm)
      | (go_at_call 10; refine (do_any op a b a0 a1 b0 b1 _).mono ?_; rintro e w' ⟨rfl, rfl⟩))
    exact bodyPost_ret (v := .tuple #[.int .u32 (W.doV op a b), .bool (W.doB op)]) (by simp [results, Try.results23, go_sem]) rfl ⟨by rw [hv.out], h1.out⟩
  · have hv : Hid (W.resE op imm a b = W.doV op a imm) := (by rw [W.resE, hI]; rfl : W.resE op imm a b = W.doV op a imm)
    go_enter Try.func23, Try.ntmps23
    go_wp2_with (first
      | (go_at_call 51; refine (uses_any op _).mono ?_; rintro e w1 ⟨rfl, hm⟩; have h1 : Hid (Below w.heap.size w w1) := (by first | exact hb.trans (hm.mono hb.size) | exact ((hb.alloc hb.size _).trans (hm.mono (by simp)))); have c0 : w1.cell? ⟨w.heap.size, 0, none⟩ = some (.int .i64 op) := (hm.cell (by simp)).trans (by simp [go_sem]); have c5 : w1.cell? ⟨w.heap.size, 5, none⟩ = some (.int .u32 imm) := (hm.cell (by simp)).trans (by simp [go_sem]); clear hm)
      | (go_at_call 10; refine (do_any op a imm a0 a1 m0 m1 _).mono ?_; rintro e w' ⟨rfl, rfl⟩))
    exact bodyPost_ret (v := .tuple #[.int .u32 (W.doV op a imm), .bool (W.doB op)]) (by simp [results, Try.results23, go_sem]) rfl ⟨by rw [hv.out], h1.out⟩

theorem res_any (op rd rs1 rs2 csr imm : Int) (aq rl : Bool) (pc a b : Int) (a0 : 0 ≤ a) (a1 : a < 4294967296) (b0 : 0 ≤ b) (b1 : b < 4294967296) (m0 : 0 ≤ imm) (m1 : imm < 4294967296) (w : World) :
    Calls Try.prog 23 #[.agg #[.int .i64 op, .int .i64 rd, .int .i64 rs1, .int .i64 rs2, .int .i64 csr, .int .u32 imm, .bool aq, .bool rl], .int .u32 pc, .int .u32 a, .int .u32 b] w fun e w' => e = .returned (.tuple #[.int .u32 (W.resV op imm pc a b), .bool (W.resB op)]) ∧ Below w.heap.size w w' := by
  cases q1 : (op == 1)
  case true => obtain rfl := beq_iff_eq.1 q1; exact res_1 rd rs1 rs2 csr imm aq rl pc a b w
  cases q2 : (op == 2)
  case true => obtain rfl := beq_iff_eq.1 q2; exact res_2 rd rs1 rs2 csr imm aq rl pc a b w
  cases q3 : (op == 3)
  case true => obtain rfl := beq_iff_eq.1 q3; exact res_3 rd rs1 rs2 csr imm aq rl pc a b w
  cases q4 : (op == 4)
  case true => obtain rfl := beq_iff_eq.1 q4; exact res_4 rd rs1 rs2 csr imm aq rl pc a b w
  have := res_else op rd rs1 rs2 csr imm aq rl pc a b a0 a1 b0 b1 m0 m1 q1 q2 q3 q4 w
  rw [W.resV, W.resB, q1, q2, q3, q4]
  exact this

set_option maxHeartbeats 1600000 in
theorem rres_else (op rd rs1 rs2 csr imm : Int) (aq rl : Bool) (pc a b : Int) (a0 : 0 ≤ a) (a1 : a < 4294967296) (b0 : 0 ≤ b) (b1 : b < 4294967296) (m0 : 0 ≤ imm) (m1 : imm < 4294967296) (q1 : (op == 1) = false) (q2 : (op == 2) = false) (q3 : (op == 3) = false) (q4 : (op == 4) = false) (w : World) :
    Calls Try.prog 24 #[.agg #[.int .i64 op, .int .i64 rd, .int .i64 rs1, .int .i64 rs2, .int .i64 csr, .int .u32 imm, .bool aq, .bool rl], .int .u32 pc, .int .u32 a, .int .u32 b] w fun e w' => e = .returned (.tuple #[.int .u32 (W.resE op imm a b), .bool (W.doB op)]) ∧ Below w.heap.size w w' := by
  have hb : Below w.heap.size w w := Below.refl _ _
  by_cases l : 19 ≤ op
  · by_cases u : op ≤ 27
    · have hv : Hid (W.resE op imm a b = W.doV op a imm) := (W.resE_eq op imm a b true (by simp [l, u]) : W.resE op imm a b = W.doV op a imm)
      go_enter Try.func24, Try.ntmps24
      go_wp2_with (go_at_call 11; refine (rdo_any op a imm a0 a1 m0 m1 _).mono ?_; rintro e w' ⟨rfl, rfl⟩)
      exact bodyPost_ret (v := .tuple #[.int .u32 (W.doV op a imm), .bool (W.doB op)]) (by simp [results, Try.results24, go_sem]) rfl ⟨by rw [hv.out], by repeat (first | exact hb | exact hb.alloc hb.size _)⟩
    · have hv : Hid (W.resE op imm a b = W.doV op a b) := (W.resE_eq op imm a b false (by simp [l, u]) : W.resE op imm a b = W.doV op a b)
      go_enter Try.func24, Try.ntmps24
      go_wp2_with (go_at_call 11; refine (rdo_any op a b a0 a1 b0 b1 _).mono ?_; rintro e w' ⟨rfl, rfl⟩)
      exact bodyPost_ret (v := .tuple #[.int .u32 (W.doV op a b), .bool (W.doB op)]) (by simp [results, Try.results24, go_sem]) rfl ⟨by rw [hv.out], by repeat (first | exact hb | exact hb.alloc hb.size _)⟩
  · have hv : Hid (W.resE op imm a b = W.doV op a b) := (W.resE_eq op imm a b false (by simp [l]) : W.resE op imm a b = W.doV op a b)
    go_enter Try.func24, Try.ntmps24
    go_wp2_with (go_at_call 11; refine (rdo_any op a b a0 a1 b0 b1 _).mono ?_; rintro e w' ⟨rfl, rfl⟩)
    exact bodyPost_ret (v := .tuple #[.int .u32 (W.doV op a b), .bool (W.doB op)]) (by simp [results, Try.results24, go_sem]) rfl ⟨by rw [hv.out], by repeat (first | exact hb | exact hb.alloc hb.size _)⟩

theorem rres_any (op rd rs1 rs2 csr imm : Int) (aq rl : Bool) (pc a b : Int) (a0 : 0 ≤ a) (a1 : a < 4294967296) (b0 : 0 ≤ b) (b1 : b < 4294967296) (m0 : 0 ≤ imm) (m1 : imm < 4294967296) (w : World) :
    Calls Try.prog 24 #[.agg #[.int .i64 op, .int .i64 rd, .int .i64 rs1, .int .i64 rs2, .int .i64 csr, .int .u32 imm, .bool aq, .bool rl], .int .u32 pc, .int .u32 a, .int .u32 b] w fun e w' => e = .returned (.tuple #[.int .u32 (W.resV op imm pc a b), .bool (W.resB op)]) ∧ Below w.heap.size w w' := by
  cases q1 : (op == 1)
  case true => obtain rfl := beq_iff_eq.1 q1; exact rres_1 rd rs1 rs2 csr imm aq rl pc a b w
  cases q2 : (op == 2)
  case true => obtain rfl := beq_iff_eq.1 q2; exact rres_2 rd rs1 rs2 csr imm aq rl pc a b w
  cases q3 : (op == 3)
  case true => obtain rfl := beq_iff_eq.1 q3; exact rres_3 rd rs1 rs2 csr imm aq rl pc a b w
  cases q4 : (op == 4)
  case true => obtain rfl := beq_iff_eq.1 q4; exact rres_4 rd rs1 rs2 csr imm aq rl pc a b w
  have := rres_else op rd rs1 rs2 csr imm aq rl pc a b a0 a1 b0 b1 m0 m1 q1 q2 q3 q4 w
  rw [W.resV, W.resB, q1, q2, q3, q4]
  exact this

theorem next_3 (rd rs1 rs2 csr imm : Int) (aq rl : Bool) (pc a b : Int) (a0 : 0 ≤ a) (a1 : a < 4294967296) (b0 : 0 ≤ b) (b1 : b < 4294967296) (m0 : 0 ≤ imm) (m1 : imm < 4294967296) (w : World) : Calls Try.prog 25 #[.agg #[.int .i64 3, .int .i64 rd, .int .i64 rs1, .int .i64 rs2, .int .i64 csr, .int .u32 imm, .bool aq, .bool rl], .int .u32 pc, .int .u32 a, .int .u32 b] w fun e w' => e = .returned (.int .u32 ((pc + imm) % 4294967296)) ∧ Below w.heap.size w w' := by
  have hb : Below w.heap.size w w := Below.refl _ _
  have hk : W.takV 3 a b = false := rfl
  go_enter Try.func25, Try.ntmps25
  go_wp2_with (go_at_call 12; refine (tak_any 3 a b a0 a1 b0 b1 _).mono ?_; rintro e w' ⟨rfl, rfl⟩)
  go_ret
  exact ⟨rfl, by repeat (first | exact hb | exact hb.alloc hb.size _)⟩

theorem next_4 (rd rs1 rs2 csr imm : Int) (aq rl : Bool) (pc a b : Int) (a0 : 0 ≤ a) (a1 : a < 4294967296) (b0 : 0 ≤ b) (b1 : b < 4294967296) (m0 : 0 ≤ imm) (m1 : imm < 4294967296) (w : World) : Calls Try.prog 25 #[.agg #[.int .i64 4, .int .i64 rd, .int .i64 rs1, .int .i64 rs2, .int .i64 csr, .int .u32 imm, .bool aq, .bool rl], .int .u32 pc, .int .u32 a, .int .u32 b] w fun e w' => e = .returned (.int .u32 (bits .andNot .u32 ((a + imm) % 4294967296) 1)) ∧ Below w.heap.size w w' := by
  have hb : Below w.heap.size w w := Below.refl _ _
  have hk : W.takV 4 a b = false := rfl
  go_enter Try.func25, Try.ntmps25
  go_wp2_with (go_at_call 12; refine (tak_any 4 a b a0 a1 b0 b1 _).mono ?_; rintro e w' ⟨rfl, rfl⟩)
  go_ret
  exact ⟨rfl, by repeat (first | exact hb | exact hb.alloc hb.size _)⟩

theorem next_any (op rd rs1 rs2 csr imm : Int) (aq rl : Bool) (pc a b : Int) (a0 : 0 ≤ a) (a1 : a < 4294967296) (b0 : 0 ≤ b) (b1 : b < 4294967296) (m0 : 0 ≤ imm) (m1 : imm < 4294967296) (w : World) : Calls Try.prog 25 #[.agg #[.int .i64 op, .int .i64 rd, .int .i64 rs1, .int .i64 rs2, .int .i64 csr, .int .u32 imm, .bool aq, .bool rl], .int .u32 pc, .int .u32 a, .int .u32 b] w fun e w' => e = .returned (.int .u32 (W.nextV op imm pc a b)) ∧ Below w.heap.size w w' := by
  have hb : Below w.heap.size w w := Below.refl _ _
  cases q3 : (op == 3)
  case true => obtain rfl := beq_iff_eq.1 q3; exact next_3 rd rs1 rs2 csr imm aq rl pc a b a0 a1 b0 b1 m0 m1 w
  cases q4 : (op == 4)
  case true => obtain rfl := beq_iff_eq.1 q4; exact next_4 rd rs1 rs2 csr imm aq rl pc a b a0 a1 b0 b1 m0 m1 w
  cases ht : W.takV op a b
  · have hv : Hid (W.nextV op imm pc a b = (pc + 4) % 4294967296) := (by rw [W.nextV, q3, q4, ht]; rfl : W.nextV op imm pc a b = _)
    go_enter Try.func25, Try.ntmps25
    go_wp2_with (go_at_call 12; refine (tak_any op a b a0 a1 b0 b1 _).mono ?_; rintro e w' ⟨rfl, rfl⟩)
    go_ret
    exact ⟨ret_int hv.out.symm, by repeat (first | exact hb | exact hb.alloc hb.size _)⟩
  · have hv : Hid (W.nextV op imm pc a b = (pc + imm) % 4294967296) := (by rw [W.nextV, q3, q4, ht]; rfl : W.nextV op imm pc a b = _)
    go_enter Try.func25, Try.ntmps25
    go_wp2_with (go_at_call 12; refine (tak_any op a b a0 a1 b0 b1 _).mono ?_; rintro e w' ⟨rfl, rfl⟩)
    go_ret
    exact ⟨ret_int hv.out.symm, by repeat (first | exact hb | exact hb.alloc hb.size _)⟩

theorem rnext_3 (rd rs1 rs2 csr imm : Int) (aq rl : Bool) (pc a b : Int) (a0 : 0 ≤ a) (a1 : a < 4294967296) (b0 : 0 ≤ b) (b1 : b < 4294967296) (m0 : 0 ≤ imm) (m1 : imm < 4294967296) (w : World) : Calls Try.prog 26 #[.agg #[.int .i64 3, .int .i64 rd, .int .i64 rs1, .int .i64 rs2, .int .i64 csr, .int .u32 imm, .bool aq, .bool rl], .int .u32 pc, .int .u32 a, .int .u32 b] w fun e w' => e = .returned (.int .u32 ((pc + imm) % 4294967296)) ∧ Below w.heap.size w w' := by
  have hb : Below w.heap.size w w := Below.refl _ _
  have hk : W.takV 3 a b = false := rfl
  go_enter Try.func26, Try.ntmps26
  go_wp2_with (go_at_call 13; refine (rtak_any 3 a b a0 a1 b0 b1 _).mono ?_; rintro e w' ⟨rfl, rfl⟩)
  go_ret
  exact ⟨rfl, by repeat (first | exact hb | exact hb.alloc hb.size _)⟩

theorem rnext_4 (rd rs1 rs2 csr imm : Int) (aq rl : Bool) (pc a b : Int) (a0 : 0 ≤ a) (a1 : a < 4294967296) (b0 : 0 ≤ b) (b1 : b < 4294967296) (m0 : 0 ≤ imm) (m1 : imm < 4294967296) (w : World) : Calls Try.prog 26 #[.agg #[.int .i64 4, .int .i64 rd, .int .i64 rs1, .int .i64 rs2, .int .i64 csr, .int .u32 imm, .bool aq, .bool rl], .int .u32 pc, .int .u32 a, .int .u32 b] w fun e w' => e = .returned (.int .u32 (bits .andNot .u32 ((a + imm) % 4294967296) 1)) ∧ Below w.heap.size w w' := by
  have hb : Below w.heap.size w w := Below.refl _ _
  have hk : W.takV 4 a b = false := rfl
  go_enter Try.func26, Try.ntmps26
  go_wp2_with (go_at_call 13; refine (rtak_any 4 a b a0 a1 b0 b1 _).mono ?_; rintro e w' ⟨rfl, rfl⟩)
  go_ret
  exact ⟨rfl, by repeat (first | exact hb | exact hb.alloc hb.size _)⟩

theorem rnext_any (op rd rs1 rs2 csr imm : Int) (aq rl : Bool) (pc a b : Int) (a0 : 0 ≤ a) (a1 : a < 4294967296) (b0 : 0 ≤ b) (b1 : b < 4294967296) (m0 : 0 ≤ imm) (m1 : imm < 4294967296) (w : World) : Calls Try.prog 26 #[.agg #[.int .i64 op, .int .i64 rd, .int .i64 rs1, .int .i64 rs2, .int .i64 csr, .int .u32 imm, .bool aq, .bool rl], .int .u32 pc, .int .u32 a, .int .u32 b] w fun e w' => e = .returned (.int .u32 (W.nextV op imm pc a b)) ∧ Below w.heap.size w w' := by
  have hb : Below w.heap.size w w := Below.refl _ _
  cases q3 : (op == 3)
  case true => obtain rfl := beq_iff_eq.1 q3; exact rnext_3 rd rs1 rs2 csr imm aq rl pc a b a0 a1 b0 b1 m0 m1 w
  cases q4 : (op == 4)
  case true => obtain rfl := beq_iff_eq.1 q4; exact rnext_4 rd rs1 rs2 csr imm aq rl pc a b a0 a1 b0 b1 m0 m1 w
  cases ht : W.takV op a b
  · have hv : Hid (W.nextV op imm pc a b = (pc + 4) % 4294967296) := (by rw [W.nextV, q3, q4, ht]; rfl : W.nextV op imm pc a b = _)
    go_enter Try.func26, Try.ntmps26
    go_wp2_with (go_at_call 13; refine (rtak_any op a b a0 a1 b0 b1 _).mono ?_; rintro e w' ⟨rfl, rfl⟩)
    go_ret
    exact ⟨ret_int hv.out.symm, by repeat (first | exact hb | exact hb.alloc hb.size _)⟩
  · have hv : Hid (W.nextV op imm pc a b = (pc + imm) % 4294967296) := (by rw [W.nextV, q3, q4, ht]; rfl : W.nextV op imm pc a b = _)
    go_enter Try.func26, Try.ntmps26
    go_wp2_with (go_at_call 13; refine (rtak_any op a b a0 a1 b0 b1 _).mono ?_; rintro e w' ⟨rfl, rfl⟩)
    go_ret
    exact ⟨ret_int hv.out.symm, by repeat (first | exact hb | exact hb.alloc hb.size _)⟩

end Go.Proofs.Ytheajilopplchab
