/- The document's Kind. -/
import Derived.Test.YthbcdlaejefkaaaDoorIsaA
namespace Go.Proofs.YthbcdlaejefkaaaDoor
open Go.ChangeShapes Go.WideShapes Go.ChangeAt Go.RowKit
set_option linter.unusedVariables false
set_option linter.unusedSimpArgs false

theorem rkindl_1 (w : World) : Calls Tryd.prog 20 #[.int .i64 1] w fun e w' => e = .returned (.int .i64 1) ∧ w = w' := by
  go_enter Tryd.func20, Tryd.ntmps20
  go_wp2
  go_ret
  exact ⟨rfl, rfl⟩

theorem rkindl_2 (w : World) : Calls Tryd.prog 20 #[.int .i64 2] w fun e w' => e = .returned (.int .i64 1) ∧ w = w' := by
  go_enter Tryd.func20, Tryd.ntmps20
  go_wp2
  go_ret
  exact ⟨rfl, rfl⟩

theorem rkindl_3 (w : World) : Calls Tryd.prog 20 #[.int .i64 3] w fun e w' => e = .returned (.int .i64 2) ∧ w = w' := by
  go_enter Tryd.func20, Tryd.ntmps20
  go_wp2
  go_ret
  exact ⟨rfl, rfl⟩

theorem rkindl_4 (w : World) : Calls Tryd.prog 20 #[.int .i64 4] w fun e w' => e = .returned (.int .i64 2) ∧ w = w' := by
  go_enter Tryd.func20, Tryd.ntmps20
  go_wp2
  go_ret
  exact ⟨rfl, rfl⟩

theorem rkindl_59 (w : World) : Calls Tryd.prog 20 #[.int .i64 59] w fun e w' => e = .returned (.int .i64 4) ∧ w = w' := by
  go_enter Tryd.func20, Tryd.ntmps20
  go_wp2
  go_ret
  exact ⟨rfl, rfl⟩

theorem rkindr_0 (op : Int)   (hi : op ≤ 0) (w : World) : Calls Tryd.prog 20 #[.int .i64 op] w fun e w' => e = .returned (.int .i64 (W.kind op)) ∧ w = w' := by
  have t0 : (W.known op) = false := by simp [W.known, W.fr]; omega
  have t1 : (W.fr 1 op 2) = false := by simp [W.known, W.fr]; omega
  have t2 : (W.fr 19 op 37) = false := by simp [W.known, W.fr]; omega
  have t3 : (W.fr 51 op 58) = false := by simp [W.known, W.fr]; omega
  have t4 : (W.fr 3 op 4) = false := by simp [W.known, W.fr]; omega
  have t5 : (W.fr 5 op 10) = false := by simp [W.known, W.fr]; omega
  have t6 : (W.fr 11 op 15) = false := by simp [W.known, W.fr]; omega
  have t7 : (op == 59) = false := by simp; omega
  have t8 : (W.fr 16 op 18) = false := by simp [W.known, W.fr]; omega
  have t9 : (W.fr 60 op 69) = false := by simp [W.known, W.fr]; omega
  have hv : Hid (W.kind op = 0) := (by simp only [W.kind, t0, t1, t2, t3, t4, t5, t6, t7, t8, t9, cond_true, cond_false, Bool.not_true, Bool.not_false] : W.kind op = 0)
  clear t0 t1 t2 t3 t4 t5 t6 t7 t8 t9
  have q1 : (op == 1) = false := by simp; omega
  have q2 : (op == 2) = false := by simp; omega
  have q3 : (op == 3) = false := by simp; omega
  have q4 : (op == 4) = false := by simp; omega
  have q59 : (op == 59) = false := by simp; omega
  have l1 : ¬ 1 ≤ op := by omega
  have l5 : ¬ 5 ≤ op := by omega
  have l11 : ¬ 11 ≤ op := by omega
  have l16 : ¬ 16 ≤ op := by omega
  have l19 : ¬ 19 ≤ op := by omega
  have l51 : ¬ 51 ≤ op := by omega
  have l60 : ¬ 60 ≤ op := by omega
  have u10 : op ≤ 10 := by omega
  have u15 : op ≤ 15 := by omega
  have u18 : op ≤ 18 := by omega
  have u37 : op ≤ 37 := by omega
  have u58 : op ≤ 58 := by omega
  have u69 : op ≤ 69 := by omega
  go_enter Tryd.func20, Tryd.ntmps20
  go_wp2
  go_ret
  exact ⟨ret_int hv.out.symm, rfl⟩

theorem rkindr_1 (op : Int) (lo : 5 ≤ op)  (hi : op ≤ 10) (w : World) : Calls Tryd.prog 20 #[.int .i64 op] w fun e w' => e = .returned (.int .i64 (W.kind op)) ∧ w = w' := by
  have t0 : (W.known op) = true := by simp [W.known, W.fr]; omega
  have t1 : (W.fr 1 op 2) = false := by simp [W.known, W.fr]; omega
  have t2 : (W.fr 19 op 37) = false := by simp [W.known, W.fr]; omega
  have t3 : (W.fr 51 op 58) = false := by simp [W.known, W.fr]; omega
  have t4 : (W.fr 3 op 4) = false := by simp [W.known, W.fr]; omega
  have t5 : (W.fr 5 op 10) = true := by simp [W.known, W.fr]; omega
  have t6 : (W.fr 11 op 15) = false := by simp [W.known, W.fr]; omega
  have t7 : (op == 59) = false := by simp; omega
  have t8 : (W.fr 16 op 18) = false := by simp [W.known, W.fr]; omega
  have t9 : (W.fr 60 op 69) = false := by simp [W.known, W.fr]; omega
  have hv : Hid (W.kind op = 3) := (by simp only [W.kind, t0, t1, t2, t3, t4, t5, t6, t7, t8, t9, cond_true, cond_false, Bool.not_true, Bool.not_false] : W.kind op = 3)
  clear t0 t1 t2 t3 t4 t5 t6 t7 t8 t9
  have q1 : (op == 1) = false := by simp; omega
  have q2 : (op == 2) = false := by simp; omega
  have q3 : (op == 3) = false := by simp; omega
  have q4 : (op == 4) = false := by simp; omega
  have q59 : (op == 59) = false := by simp; omega
  have l1 : 1 ≤ op := by omega
  have l11 : ¬ 11 ≤ op := by omega
  have l16 : ¬ 16 ≤ op := by omega
  have l19 : ¬ 19 ≤ op := by omega
  have l51 : ¬ 51 ≤ op := by omega
  have l60 : ¬ 60 ≤ op := by omega
  have u15 : op ≤ 15 := by omega
  have u18 : op ≤ 18 := by omega
  have u37 : op ≤ 37 := by omega
  have u58 : op ≤ 58 := by omega
  have u69 : op ≤ 69 := by omega
  go_enter Tryd.func20, Tryd.ntmps20
  go_wp2
  go_ret
  exact ⟨ret_int hv.out.symm, rfl⟩

theorem rkindr_2 (op : Int) (lo : 11 ≤ op)  (hi : op ≤ 15) (w : World) : Calls Tryd.prog 20 #[.int .i64 op] w fun e w' => e = .returned (.int .i64 (W.kind op)) ∧ w = w' := by
  have t0 : (W.known op) = true := by simp [W.known, W.fr]; omega
  have t1 : (W.fr 1 op 2) = false := by simp [W.known, W.fr]; omega
  have t2 : (W.fr 19 op 37) = false := by simp [W.known, W.fr]; omega
  have t3 : (W.fr 51 op 58) = false := by simp [W.known, W.fr]; omega
  have t4 : (W.fr 3 op 4) = false := by simp [W.known, W.fr]; omega
  have t5 : (W.fr 5 op 10) = false := by simp [W.known, W.fr]; omega
  have t6 : (W.fr 11 op 15) = true := by simp [W.known, W.fr]; omega
  have t7 : (op == 59) = false := by simp; omega
  have t8 : (W.fr 16 op 18) = false := by simp [W.known, W.fr]; omega
  have t9 : (W.fr 60 op 69) = false := by simp [W.known, W.fr]; omega
  have hv : Hid (W.kind op = 4) := (by simp only [W.kind, t0, t1, t2, t3, t4, t5, t6, t7, t8, t9, cond_true, cond_false, Bool.not_true, Bool.not_false] : W.kind op = 4)
  clear t0 t1 t2 t3 t4 t5 t6 t7 t8 t9
  have q1 : (op == 1) = false := by simp; omega
  have q2 : (op == 2) = false := by simp; omega
  have q3 : (op == 3) = false := by simp; omega
  have q4 : (op == 4) = false := by simp; omega
  have q59 : (op == 59) = false := by simp; omega
  have l1 : 1 ≤ op := by omega
  have l5 : 5 ≤ op := by omega
  have l16 : ¬ 16 ≤ op := by omega
  have l19 : ¬ 19 ≤ op := by omega
  have l51 : ¬ 51 ≤ op := by omega
  have l60 : ¬ 60 ≤ op := by omega
  have u10 : ¬ op ≤ 10 := by omega
  have u18 : op ≤ 18 := by omega
  have u37 : op ≤ 37 := by omega
  have u58 : op ≤ 58 := by omega
  have u69 : op ≤ 69 := by omega
  go_enter Tryd.func20, Tryd.ntmps20
  go_wp2
  go_ret
  exact ⟨ret_int hv.out.symm, rfl⟩

theorem rkindr_3 (op : Int) (lo : 16 ≤ op)  (hi : op ≤ 18) (w : World) : Calls Tryd.prog 20 #[.int .i64 op] w fun e w' => e = .returned (.int .i64 (W.kind op)) ∧ w = w' := by
  have t0 : (W.known op) = true := by simp [W.known, W.fr]; omega
  have t1 : (W.fr 1 op 2) = false := by simp [W.known, W.fr]; omega
  have t2 : (W.fr 19 op 37) = false := by simp [W.known, W.fr]; omega
  have t3 : (W.fr 51 op 58) = false := by simp [W.known, W.fr]; omega
  have t4 : (W.fr 3 op 4) = false := by simp [W.known, W.fr]; omega
  have t5 : (W.fr 5 op 10) = false := by simp [W.known, W.fr]; omega
  have t6 : (W.fr 11 op 15) = false := by simp [W.known, W.fr]; omega
  have t7 : (op == 59) = false := by simp; omega
  have t8 : (W.fr 16 op 18) = true := by simp [W.known, W.fr]; omega
  have t9 : (W.fr 60 op 69) = false := by simp [W.known, W.fr]; omega
  have hv : Hid (W.kind op = 5) := (by simp only [W.kind, t0, t1, t2, t3, t4, t5, t6, t7, t8, t9, cond_true, cond_false, Bool.not_true, Bool.not_false] : W.kind op = 5)
  clear t0 t1 t2 t3 t4 t5 t6 t7 t8 t9
  have q1 : (op == 1) = false := by simp; omega
  have q2 : (op == 2) = false := by simp; omega
  have q3 : (op == 3) = false := by simp; omega
  have q4 : (op == 4) = false := by simp; omega
  have q59 : (op == 59) = false := by simp; omega
  have l1 : 1 ≤ op := by omega
  have l5 : 5 ≤ op := by omega
  have l11 : 11 ≤ op := by omega
  have l19 : ¬ 19 ≤ op := by omega
  have l51 : ¬ 51 ≤ op := by omega
  have l60 : ¬ 60 ≤ op := by omega
  have u10 : ¬ op ≤ 10 := by omega
  have u15 : ¬ op ≤ 15 := by omega
  have u37 : op ≤ 37 := by omega
  have u58 : op ≤ 58 := by omega
  have u69 : op ≤ 69 := by omega
  go_enter Tryd.func20, Tryd.ntmps20
  go_wp2
  go_ret
  exact ⟨ret_int hv.out.symm, rfl⟩

theorem rkindr_4 (op : Int) (lo : 19 ≤ op)  (hi : op ≤ 37) (w : World) : Calls Tryd.prog 20 #[.int .i64 op] w fun e w' => e = .returned (.int .i64 (W.kind op)) ∧ w = w' := by
  have t0 : (W.known op) = true := by simp [W.known, W.fr]; omega
  have t1 : (W.fr 1 op 2) = false := by simp [W.known, W.fr]; omega
  have t2 : (W.fr 19 op 37) = true := by simp [W.known, W.fr]; omega
  have t3 : (W.fr 51 op 58) = false := by simp [W.known, W.fr]; omega
  have t4 : (W.fr 3 op 4) = false := by simp [W.known, W.fr]; omega
  have t5 : (W.fr 5 op 10) = false := by simp [W.known, W.fr]; omega
  have t6 : (W.fr 11 op 15) = false := by simp [W.known, W.fr]; omega
  have t7 : (op == 59) = false := by simp; omega
  have t8 : (W.fr 16 op 18) = false := by simp [W.known, W.fr]; omega
  have t9 : (W.fr 60 op 69) = false := by simp [W.known, W.fr]; omega
  have hv : Hid (W.kind op = 1) := (by simp only [W.kind, t0, t1, t2, t3, t4, t5, t6, t7, t8, t9, cond_true, cond_false, Bool.not_true, Bool.not_false] : W.kind op = 1)
  clear t0 t1 t2 t3 t4 t5 t6 t7 t8 t9
  have q1 : (op == 1) = false := by simp; omega
  have q2 : (op == 2) = false := by simp; omega
  have q3 : (op == 3) = false := by simp; omega
  have q4 : (op == 4) = false := by simp; omega
  have q59 : (op == 59) = false := by simp; omega
  have l1 : 1 ≤ op := by omega
  have l5 : 5 ≤ op := by omega
  have l11 : 11 ≤ op := by omega
  have l16 : 16 ≤ op := by omega
  have l51 : ¬ 51 ≤ op := by omega
  have l60 : ¬ 60 ≤ op := by omega
  have u10 : ¬ op ≤ 10 := by omega
  have u15 : ¬ op ≤ 15 := by omega
  have u18 : ¬ op ≤ 18 := by omega
  have u58 : op ≤ 58 := by omega
  have u69 : op ≤ 69 := by omega
  go_enter Tryd.func20, Tryd.ntmps20
  go_wp2
  go_ret
  exact ⟨ret_int hv.out.symm, rfl⟩

theorem rkindr_5 (op : Int) (lo : 38 ≤ op)  (hi : op ≤ 50) (w : World) : Calls Tryd.prog 20 #[.int .i64 op] w fun e w' => e = .returned (.int .i64 (W.kind op)) ∧ w = w' := by
  have t0 : (W.known op) = true := by simp [W.known, W.fr]; omega
  have t1 : (W.fr 1 op 2) = false := by simp [W.known, W.fr]; omega
  have t2 : (W.fr 19 op 37) = false := by simp [W.known, W.fr]; omega
  have t3 : (W.fr 51 op 58) = false := by simp [W.known, W.fr]; omega
  have t4 : (W.fr 3 op 4) = false := by simp [W.known, W.fr]; omega
  have t5 : (W.fr 5 op 10) = false := by simp [W.known, W.fr]; omega
  have t6 : (W.fr 11 op 15) = false := by simp [W.known, W.fr]; omega
  have t7 : (op == 59) = false := by simp; omega
  have t8 : (W.fr 16 op 18) = false := by simp [W.known, W.fr]; omega
  have t9 : (W.fr 60 op 69) = false := by simp [W.known, W.fr]; omega
  have hv : Hid (W.kind op = 7) := (by simp only [W.kind, t0, t1, t2, t3, t4, t5, t6, t7, t8, t9, cond_true, cond_false, Bool.not_true, Bool.not_false] : W.kind op = 7)
  clear t0 t1 t2 t3 t4 t5 t6 t7 t8 t9
  have q1 : (op == 1) = false := by simp; omega
  have q2 : (op == 2) = false := by simp; omega
  have q3 : (op == 3) = false := by simp; omega
  have q4 : (op == 4) = false := by simp; omega
  have q59 : (op == 59) = false := by simp; omega
  have l1 : 1 ≤ op := by omega
  have l5 : 5 ≤ op := by omega
  have l11 : 11 ≤ op := by omega
  have l16 : 16 ≤ op := by omega
  have l19 : 19 ≤ op := by omega
  have l51 : ¬ 51 ≤ op := by omega
  have l60 : ¬ 60 ≤ op := by omega
  have u10 : ¬ op ≤ 10 := by omega
  have u15 : ¬ op ≤ 15 := by omega
  have u18 : ¬ op ≤ 18 := by omega
  have u37 : ¬ op ≤ 37 := by omega
  have u58 : op ≤ 58 := by omega
  have u69 : op ≤ 69 := by omega
  go_enter Tryd.func20, Tryd.ntmps20
  go_wp2
  go_ret
  exact ⟨ret_int hv.out.symm, rfl⟩

theorem rkindr_6 (op : Int) (lo : 51 ≤ op)  (hi : op ≤ 58) (w : World) : Calls Tryd.prog 20 #[.int .i64 op] w fun e w' => e = .returned (.int .i64 (W.kind op)) ∧ w = w' := by
  have t0 : (W.known op) = true := by simp [W.known, W.fr]; omega
  have t1 : (W.fr 1 op 2) = false := by simp [W.known, W.fr]; omega
  have t2 : (W.fr 19 op 37) = false := by simp [W.known, W.fr]; omega
  have t3 : (W.fr 51 op 58) = true := by simp [W.known, W.fr]; omega
  have t4 : (W.fr 3 op 4) = false := by simp [W.known, W.fr]; omega
  have t5 : (W.fr 5 op 10) = false := by simp [W.known, W.fr]; omega
  have t6 : (W.fr 11 op 15) = false := by simp [W.known, W.fr]; omega
  have t7 : (op == 59) = false := by simp; omega
  have t8 : (W.fr 16 op 18) = false := by simp [W.known, W.fr]; omega
  have t9 : (W.fr 60 op 69) = false := by simp [W.known, W.fr]; omega
  have hv : Hid (W.kind op = 1) := (by simp only [W.kind, t0, t1, t2, t3, t4, t5, t6, t7, t8, t9, cond_true, cond_false, Bool.not_true, Bool.not_false] : W.kind op = 1)
  clear t0 t1 t2 t3 t4 t5 t6 t7 t8 t9
  have q1 : (op == 1) = false := by simp; omega
  have q2 : (op == 2) = false := by simp; omega
  have q3 : (op == 3) = false := by simp; omega
  have q4 : (op == 4) = false := by simp; omega
  have q59 : (op == 59) = false := by simp; omega
  have l1 : 1 ≤ op := by omega
  have l5 : 5 ≤ op := by omega
  have l11 : 11 ≤ op := by omega
  have l16 : 16 ≤ op := by omega
  have l19 : 19 ≤ op := by omega
  have l60 : ¬ 60 ≤ op := by omega
  have u10 : ¬ op ≤ 10 := by omega
  have u15 : ¬ op ≤ 15 := by omega
  have u18 : ¬ op ≤ 18 := by omega
  have u37 : ¬ op ≤ 37 := by omega
  have u69 : op ≤ 69 := by omega
  go_enter Tryd.func20, Tryd.ntmps20
  go_wp2
  go_ret
  exact ⟨ret_int hv.out.symm, rfl⟩

theorem rkindr_7 (op : Int) (lo : 60 ≤ op)  (hi : op ≤ 69) (w : World) : Calls Tryd.prog 20 #[.int .i64 op] w fun e w' => e = .returned (.int .i64 (W.kind op)) ∧ w = w' := by
  have t0 : (W.known op) = true := by simp [W.known, W.fr]; omega
  have t1 : (W.fr 1 op 2) = false := by simp [W.known, W.fr]; omega
  have t2 : (W.fr 19 op 37) = false := by simp [W.known, W.fr]; omega
  have t3 : (W.fr 51 op 58) = false := by simp [W.known, W.fr]; omega
  have t4 : (W.fr 3 op 4) = false := by simp [W.known, W.fr]; omega
  have t5 : (W.fr 5 op 10) = false := by simp [W.known, W.fr]; omega
  have t6 : (W.fr 11 op 15) = false := by simp [W.known, W.fr]; omega
  have t7 : (op == 59) = false := by simp; omega
  have t8 : (W.fr 16 op 18) = false := by simp [W.known, W.fr]; omega
  have t9 : (W.fr 60 op 69) = true := by simp [W.known, W.fr]; omega
  have hv : Hid (W.kind op = 6) := (by simp only [W.kind, t0, t1, t2, t3, t4, t5, t6, t7, t8, t9, cond_true, cond_false, Bool.not_true, Bool.not_false] : W.kind op = 6)
  clear t0 t1 t2 t3 t4 t5 t6 t7 t8 t9
  have q1 : (op == 1) = false := by simp; omega
  have q2 : (op == 2) = false := by simp; omega
  have q3 : (op == 3) = false := by simp; omega
  have q4 : (op == 4) = false := by simp; omega
  have q59 : (op == 59) = false := by simp; omega
  have l1 : 1 ≤ op := by omega
  have l5 : 5 ≤ op := by omega
  have l11 : 11 ≤ op := by omega
  have l16 : 16 ≤ op := by omega
  have l19 : 19 ≤ op := by omega
  have l51 : 51 ≤ op := by omega
  have u10 : ¬ op ≤ 10 := by omega
  have u15 : ¬ op ≤ 15 := by omega
  have u18 : ¬ op ≤ 18 := by omega
  have u37 : ¬ op ≤ 37 := by omega
  have u58 : ¬ op ≤ 58 := by omega
  go_enter Tryd.func20, Tryd.ntmps20
  go_wp2
  go_ret
  exact ⟨ret_int hv.out.symm, rfl⟩

theorem rkindr_8 (op : Int) (lo : 70 ≤ op)  (w : World) : Calls Tryd.prog 20 #[.int .i64 op] w fun e w' => e = .returned (.int .i64 (W.kind op)) ∧ w = w' := by
  have t0 : (W.known op) = false := by simp [W.known, W.fr]; omega
  have t1 : (W.fr 1 op 2) = false := by simp [W.known, W.fr]; omega
  have t2 : (W.fr 19 op 37) = false := by simp [W.known, W.fr]; omega
  have t3 : (W.fr 51 op 58) = false := by simp [W.known, W.fr]; omega
  have t4 : (W.fr 3 op 4) = false := by simp [W.known, W.fr]; omega
  have t5 : (W.fr 5 op 10) = false := by simp [W.known, W.fr]; omega
  have t6 : (W.fr 11 op 15) = false := by simp [W.known, W.fr]; omega
  have t7 : (op == 59) = false := by simp; omega
  have t8 : (W.fr 16 op 18) = false := by simp [W.known, W.fr]; omega
  have t9 : (W.fr 60 op 69) = false := by simp [W.known, W.fr]; omega
  have hv : Hid (W.kind op = 0) := (by simp only [W.kind, t0, t1, t2, t3, t4, t5, t6, t7, t8, t9, cond_true, cond_false, Bool.not_true, Bool.not_false] : W.kind op = 0)
  clear t0 t1 t2 t3 t4 t5 t6 t7 t8 t9
  have q1 : (op == 1) = false := by simp; omega
  have q2 : (op == 2) = false := by simp; omega
  have q3 : (op == 3) = false := by simp; omega
  have q4 : (op == 4) = false := by simp; omega
  have q59 : (op == 59) = false := by simp; omega
  have l1 : 1 ≤ op := by omega
  have l5 : 5 ≤ op := by omega
  have l11 : 11 ≤ op := by omega
  have l16 : 16 ≤ op := by omega
  have l19 : 19 ≤ op := by omega
  have l51 : 51 ≤ op := by omega
  have l60 : 60 ≤ op := by omega
  have u10 : ¬ op ≤ 10 := by omega
  have u15 : ¬ op ≤ 15 := by omega
  have u18 : ¬ op ≤ 18 := by omega
  have u37 : ¬ op ≤ 37 := by omega
  have u58 : ¬ op ≤ 58 := by omega
  have u69 : ¬ op ≤ 69 := by omega
  go_enter Tryd.func20, Tryd.ntmps20
  go_wp2
  go_ret
  exact ⟨ret_int hv.out.symm, rfl⟩

theorem rkind_any (op : Int) (w : World) : Calls Tryd.prog 20 #[.int .i64 op] w fun e w' => e = .returned (.int .i64 (W.kind op)) ∧ w = w' := by
  by_cases c0 : op ≤ 0
  · exact rkindr_0 op c0 w
  by_cases c1 : op = 1
  · subst c1; exact rkindl_1 w
  by_cases c2 : op = 2
  · subst c2; exact rkindl_2 w
  by_cases c3 : op = 3
  · subst c3; exact rkindl_3 w
  by_cases c4 : op = 4
  · subst c4; exact rkindl_4 w
  by_cases d1 : op ≤ 10
  · exact rkindr_1 op (by omega) d1 w
  by_cases d2 : op ≤ 15
  · exact rkindr_2 op (by omega) d2 w
  by_cases d3 : op ≤ 18
  · exact rkindr_3 op (by omega) d3 w
  by_cases d4 : op ≤ 37
  · exact rkindr_4 op (by omega) d4 w
  by_cases d5 : op ≤ 50
  · exact rkindr_5 op (by omega) d5 w
  by_cases d6 : op ≤ 58
  · exact rkindr_6 op (by omega) d6 w
  by_cases d7 : op = 59
  · subst d7; exact rkindl_59 w
  by_cases d8 : op ≤ 69
  · exact rkindr_7 op (by omega) d8 w
  exact rkindr_8 op (by omega) w

end Go.Proofs.YthbcdlaejefkaaaDoor
