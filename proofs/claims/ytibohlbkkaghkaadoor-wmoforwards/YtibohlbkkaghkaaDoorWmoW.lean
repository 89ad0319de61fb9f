/- WmoAlone: what its ways share. -/
import Derived.Test.YtibohlbkkaghkaaDoorWmoV
namespace Go.Proofs.YtibohlbkkaghkaaDoor
open Go.ChangeShapes Go.WideShapes Go.ChangeAt Go.RowKit Go.Maps
set_option linter.unusedVariables false
set_option linter.unusedSimpArgs false

theorem number_eq (n m : Int) (m0 : 0 < m) (m1 : m < 2147483648) : (wrap64 (n.tmod m + m)).tmod m = n % m := by
  have h0 := Int.emod_nonneg n (by omega : m ≠ 0)
  have h1 := Int.emod_lt_of_pos n m0
  have ht : n.tmod m = n % m ∨ n.tmod m = n % m - m := by
    rw [Int.tmod_eq_emod]
    split
    · left; omega
    · right; omega
  have hw : wrap64 (n.tmod m + m) = n.tmod m + m := by
    unfold wrap64
    omega
  rw [hw]
  rcases ht with h | h
  · rw [h, Int.tmod_eq_emod_of_nonneg (by omega), Int.add_emod_right, Int.emod_emod]
  · rw [h, Int.sub_add_cancel, Int.tmod_eq_emod_of_nonneg h0, Int.emod_emod]
theorem number_any (n m : Int) (n0 : -9223372036854775808 ≤ n) (n1 : n ≤ 9223372036854775807) (m0 : 0 < m) (m1 : m < 2147483648) (w : World) : Calls Tryd.prog 12 #[.int .i64 n, .int .i64 m] w fun z w' => z = .returned (.int .i64 (n % m)) ∧ w = w' := by
  have hm : ¬ m = 0 := by omega
  go_enter Tryd.func12, Tryd.ntmps12
  go_wp2
  go_ret
  refine ⟨by rw [number_eq n m m0 m1]; rfl, rfl⟩
theorem bdO_w (sz ad vl : Int) (w : World) : (bdO #[(0, .int .i64 2), (1, .int .i64 sz), (2, .int .u32 ad), (3, .int .u32 vl)]).run Tryd.prog w = .ok (.agg (opN (W.oW sz ad vl))) w := by kernel_rfl
namespace W
def oLr : Opr := ⟨1, 4, 4, 0, 0, true, false, false, 0, 0⟩
def oSc : Opr := ⟨2, 4, 4, 9, 0, true, false, false, 0, 0⟩
end W
theorem bdO_lr (w : World) : (bdO #[(0, .int .i64 1), (1, .int .i64 4), (2, .int .u32 4), (5, .bool true)]).run Tryd.prog w = .ok (.agg (opN W.oLr)) w := by kernel_rfl
theorem bdO_sc (w : World) : (bdO #[(0, .int .i64 2), (1, .int .i64 4), (2, .int .u32 4), (3, .int .u32 9), (5, .bool true)]).run Tryd.prog w = .ok (.agg (opN W.oSc)) w := by kernel_rfl
namespace W
theorem ckN1 (AD v : Int) (h : AD = 0 ∨ AD = 1 ∨ AD = 2 ∨ AD = 3 ∨ AD = 4 ∨ AD = 5 ∨ AD = 6 ∨ AD = 7 ∨ AD = 8 ∨ AD = 9 ∨ AD = 10 ∨ AD = 11) : ((AD < 8 ∧ 4 < AD + 1) → ckB [[oLr, oSc], [oW 1 AD v]] [(0, 0), (1, 0), (0, 1)] 4 3 = true) ∧ (¬ (AD < 8 ∧ 4 < AD + 1) → ckB [[oLr, oSc], [oW 1 AD v]] [(0, 0), (1, 0), (0, 1)] 4 4 = true) := by
  rcases h with rfl | rfl | rfl | rfl | rfl | rfl | rfl | rfl | rfl | rfl | rfl | rfl
  · exact ⟨fun h => absurd h (by decide), fun _ => by kernel_rfl⟩
  · exact ⟨fun h => absurd h (by decide), fun _ => by kernel_rfl⟩
  · exact ⟨fun h => absurd h (by decide), fun _ => by kernel_rfl⟩
  · exact ⟨fun h => absurd h (by decide), fun _ => by kernel_rfl⟩
  · exact ⟨fun _ => by kernel_rfl, fun h => absurd (by decide) h⟩
  · exact ⟨fun _ => by kernel_rfl, fun h => absurd (by decide) h⟩
  · exact ⟨fun _ => by kernel_rfl, fun h => absurd (by decide) h⟩
  · exact ⟨fun _ => by kernel_rfl, fun h => absurd (by decide) h⟩
  · exact ⟨fun h => absurd h (by decide), fun _ => by kernel_rfl⟩
  · exact ⟨fun h => absurd h (by decide), fun _ => by kernel_rfl⟩
  · exact ⟨fun h => absurd h (by decide), fun _ => by kernel_rfl⟩
  · exact ⟨fun h => absurd h (by decide), fun _ => by kernel_rfl⟩
theorem ckO1 (AD v : Int) (h : AD = 0 ∨ AD = 1 ∨ AD = 2 ∨ AD = 3 ∨ AD = 4 ∨ AD = 5 ∨ AD = 6 ∨ AD = 7 ∨ AD = 8 ∨ AD = 9 ∨ AD = 10 ∨ AD = 11) : ckB [[oLr, oW 1 AD v, oSc]] [(0, 0), (0, 1), (0, 2)] 4 4 = true := by
  rcases h with rfl | rfl | rfl | rfl | rfl | rfl | rfl | rfl | rfl | rfl | rfl | rfl
  · kernel_rfl
  · kernel_rfl
  · kernel_rfl
  · kernel_rfl
  · kernel_rfl
  · kernel_rfl
  · kernel_rfl
  · kernel_rfl
  · kernel_rfl
  · kernel_rfl
  · kernel_rfl
  · kernel_rfl
theorem adN1 (a : Int) (h0 : 0 ≤ a) (h1 : a < 12) : bits .andNot .u32 a 0 = 0 ∨ bits .andNot .u32 a 0 = 1 ∨ bits .andNot .u32 a 0 = 2 ∨ bits .andNot .u32 a 0 = 3 ∨ bits .andNot .u32 a 0 = 4 ∨ bits .andNot .u32 a 0 = 5 ∨ bits .andNot .u32 a 0 = 6 ∨ bits .andNot .u32 a 0 = 7 ∨ bits .andNot .u32 a 0 = 8 ∨ bits .andNot .u32 a 0 = 9 ∨ bits .andNot .u32 a 0 = 10 ∨ bits .andNot .u32 a 0 = 11 := by
  have h : a = 0 ∨ a = 1 ∨ a = 2 ∨ a = 3 ∨ a = 4 ∨ a = 5 ∨ a = 6 ∨ a = 7 ∨ a = 8 ∨ a = 9 ∨ a = 10 ∨ a = 11 := by omega
  rcases h with rfl | rfl | rfl | rfl | rfl | rfl | rfl | rfl | rfl | rfl | rfl | rfl <;> decide
theorem ckN2 (AD v : Int) (h : AD = 0 ∨ AD = 2 ∨ AD = 4 ∨ AD = 6 ∨ AD = 8 ∨ AD = 10) : ((AD < 8 ∧ 4 < AD + 2) → ckB [[oLr, oSc], [oW 2 AD v]] [(0, 0), (1, 0), (0, 1)] 4 3 = true) ∧ (¬ (AD < 8 ∧ 4 < AD + 2) → ckB [[oLr, oSc], [oW 2 AD v]] [(0, 0), (1, 0), (0, 1)] 4 4 = true) := by
  rcases h with rfl | rfl | rfl | rfl | rfl | rfl
  · exact ⟨fun h => absurd h (by decide), fun _ => by kernel_rfl⟩
  · exact ⟨fun h => absurd h (by decide), fun _ => by kernel_rfl⟩
  · exact ⟨fun _ => by kernel_rfl, fun h => absurd (by decide) h⟩
  · exact ⟨fun _ => by kernel_rfl, fun h => absurd (by decide) h⟩
  · exact ⟨fun h => absurd h (by decide), fun _ => by kernel_rfl⟩
  · exact ⟨fun h => absurd h (by decide), fun _ => by kernel_rfl⟩
theorem ckO2 (AD v : Int) (h : AD = 0 ∨ AD = 2 ∨ AD = 4 ∨ AD = 6 ∨ AD = 8 ∨ AD = 10) : ckB [[oLr, oW 2 AD v, oSc]] [(0, 0), (0, 1), (0, 2)] 4 4 = true := by
  rcases h with rfl | rfl | rfl | rfl | rfl | rfl
  · kernel_rfl
  · kernel_rfl
  · kernel_rfl
  · kernel_rfl
  · kernel_rfl
  · kernel_rfl
theorem adN2 (a : Int) (h0 : 0 ≤ a) (h1 : a < 12) : bits .andNot .u32 a 1 = 0 ∨ bits .andNot .u32 a 1 = 2 ∨ bits .andNot .u32 a 1 = 4 ∨ bits .andNot .u32 a 1 = 6 ∨ bits .andNot .u32 a 1 = 8 ∨ bits .andNot .u32 a 1 = 10 := by
  have h : a = 0 ∨ a = 1 ∨ a = 2 ∨ a = 3 ∨ a = 4 ∨ a = 5 ∨ a = 6 ∨ a = 7 ∨ a = 8 ∨ a = 9 ∨ a = 10 ∨ a = 11 := by omega
  rcases h with rfl | rfl | rfl | rfl | rfl | rfl | rfl | rfl | rfl | rfl | rfl | rfl <;> decide
theorem ckN4 (AD v : Int) (h : AD = 0 ∨ AD = 4 ∨ AD = 8) : ((AD < 8 ∧ 4 < AD + 4) → ckB [[oLr, oSc], [oW 4 AD v]] [(0, 0), (1, 0), (0, 1)] 4 3 = true) ∧ (¬ (AD < 8 ∧ 4 < AD + 4) → ckB [[oLr, oSc], [oW 4 AD v]] [(0, 0), (1, 0), (0, 1)] 4 4 = true) := by
  rcases h with rfl | rfl | rfl
  · exact ⟨fun h => absurd h (by decide), fun _ => by kernel_rfl⟩
  · exact ⟨fun _ => by kernel_rfl, fun h => absurd (by decide) h⟩
  · exact ⟨fun h => absurd h (by decide), fun _ => by kernel_rfl⟩
theorem ckO4 (AD v : Int) (h : AD = 0 ∨ AD = 4 ∨ AD = 8) : ckB [[oLr, oW 4 AD v, oSc]] [(0, 0), (0, 1), (0, 2)] 4 4 = true := by
  rcases h with rfl | rfl | rfl
  · kernel_rfl
  · kernel_rfl
  · kernel_rfl
theorem adN4 (a : Int) (h0 : 0 ≤ a) (h1 : a < 12) : bits .andNot .u32 a 3 = 0 ∨ bits .andNot .u32 a 3 = 4 ∨ bits .andNot .u32 a 3 = 8 := by
  have h : a = 0 ∨ a = 1 ∨ a = 2 ∨ a = 3 ∨ a = 4 ∨ a = 5 ∨ a = 6 ∨ a = 7 ∨ a = 8 ∨ a = 9 ∨ a = 10 ∨ a = 11 := by omega
  rcases h with rfl | rfl | rfl | rfl | rfl | rfl | rfl | rfl | rfl | rfl | rfl | rfl <;> decide
theorem vl_2 (l0 l1 : List Opr) (h0 : ∀ o ∈ l0, 0 ≤ o.vl ∧ o.vl < 4294967296) (h1 : ∀ o ∈ l1, 0 ≤ o.vl ∧ o.vl < 4294967296) (h i : Nat) : 0 ≤ (xM [l0, l1] h i).o.vl ∧ (xM [l0, l1] h i).o.vl < 4294967296 := by
  have key : ∀ l : List Opr, (∀ o ∈ l, 0 ≤ o.vl ∧ o.vl < 4294967296) → 0 ≤ (ozM l i).o.vl ∧ (ozM l i).o.vl < 4294967296 := fun l hl => by
    unfold ozM oz0
    rw [List.getD_eq_getElem?_getD]
    cases e : l[i]? with
    | none => exact ⟨Int.le_refl _, (by decide : (0 : Int) < 4294967296)⟩
    | some o => exact hl o (List.mem_of_getElem? e)
  match h with
  | 0 => exact key l0 h0
  | 1 => exact key l1 h1
  | h + 2 => exact key [] (fun o ho => absurd ho (by simp))
theorem vl_1 (l0 : List Opr) (h0 : ∀ o ∈ l0, 0 ≤ o.vl ∧ o.vl < 4294967296) (h i : Nat) : 0 ≤ (xM [l0] h i).o.vl ∧ (xM [l0] h i).o.vl < 4294967296 := by
  have := vl_2 l0 [] h0 (fun o ho => absurd ho (by simp)) h i
  match h with
  | 0 => exact this
  | 1 => exact this
  | h + 2 => exact this
end W
theorem or_3 (w : World) (a b c d e f : Nat) (T : TypeId) : ∀ j, j < [(a, b), (c, d), (e, f)].length → (w.alloc (.cells #[.int .i64 (a : Int), .int .i64 (b : Int), .int .i64 (c : Int), .int .i64 (d : Int), .int .i64 (e : Int), .int .i64 (f : Int)] T)).cell? ⟨w.heap.size, j * 2, none⟩ = some (.int .i64 ((W.rM [(a, b), (c, d), (e, f)] j).1 : Int)) ∧ (w.alloc (.cells #[.int .i64 (a : Int), .int .i64 (b : Int), .int .i64 (c : Int), .int .i64 (d : Int), .int .i64 (e : Int), .int .i64 (f : Int)] T)).cell? ⟨w.heap.size, j * 2 + 1, none⟩ = some (.int .i64 ((W.rM [(a, b), (c, d), (e, f)] j).2 : Int)) := by
  have hl := heap_alloc_last w (.cells #[.int .i64 (a : Int), .int .i64 (b : Int), .int .i64 (c : Int), .int .i64 (d : Int), .int .i64 (e : Int), .int .i64 (f : Int)] T)
  intro j hj
  match j, hj with
  | 0, _ => exact ⟨cell_of_row _ _ 0 _ _ (0, 0) hl, cell_of_row _ _ 1 _ _ (0, 0) hl⟩
  | 1, _ => exact ⟨cell_of_row _ _ 2 _ _ (0, 0) hl, cell_of_row _ _ 3 _ _ (0, 0) hl⟩
  | 2, _ => exact ⟨cell_of_row _ _ 4 _ _ (0, 0) hl, cell_of_row _ _ 5 _ _ (0, 0) hl⟩
theorem mh_1 (w : World) (l0 : List W.Opr) (n0 : Nat) (h0 : n0 = l0.length) (T : TypeId) (Z : Obj) : Mh (w.heap.size + 1) [l0] (fun h => w.heap.size + h) (((w.alloc (.cells (opsR l0) 38)).alloc (.cells #[.slice (some ⟨w.heap.size, 0, none⟩) n0 n0] T)).alloc Z) := by
  subst h0
  obtain ⟨e0, e1, e2⟩ := three w (.cells (opsR l0) 38) (.cells #[.slice (some ⟨w.heap.size, 0, none⟩) l0.length l0.length] T) Z
  refine ⟨(Array.getElem?_eq_some_iff.1 e1).1, fun h hh => ?_, fun h hh => ?_⟩
  · match h, hh with
    | 0, _ => exact cell_of_row _ _ 0 _ _ (0, 0) e1
  · match h, hh with
    | 0, _ => exact e0
theorem or_3' (w : World) (X Y : Obj) (a b c d e f : Nat) (T : TypeId) : ∀ j, j < [(a, b), (c, d), (e, f)].length → (((w.alloc X).alloc Y).alloc (.cells #[.int .i64 (a : Int), .int .i64 (b : Int), .int .i64 (c : Int), .int .i64 (d : Int), .int .i64 (e : Int), .int .i64 (f : Int)] T)).cell? ⟨w.heap.size + 1 + 1, j * 2, none⟩ = some (.int .i64 ((W.rM [(a, b), (c, d), (e, f)] j).1 : Int)) ∧ (((w.alloc X).alloc Y).alloc (.cells #[.int .i64 (a : Int), .int .i64 (b : Int), .int .i64 (c : Int), .int .i64 (d : Int), .int .i64 (e : Int), .int .i64 (f : Int)] T)).cell? ⟨w.heap.size + 1 + 1, j * 2 + 1, none⟩ = some (.int .i64 ((W.rM [(a, b), (c, d), (e, f)] j).2 : Int)) := by
  have h := or_3 ((w.alloc X).alloc Y) a b c d e f T
  have hs : ((w.alloc X).alloc Y).heap.size = w.heap.size + 1 + 1 := by simp
  rw [hs] at h
  exact h
theorem Mem.of {b ob cb : Nat} {LL : List (List W.Opr)} {rs : List (Nat × Nat)} {gs : Nat → Nat} {A : Nat → Addr} {W0 w5 : World} (hM : Mh b LL gs W0) (ho : ob < W0.heap.size) (hr : ∀ j, j < rs.length → W0.cell? ⟨ob, j * 2, none⟩ = some (.int .i64 ((W.rM rs j).1 : Int)) ∧ W0.cell? ⟨ob, j * 2 + 1, none⟩ = some (.int .i64 ((W.rM rs j).2 : Int))) (bb : Below W0.heap.size W0 w5) (hF : Fz cb w5) (hS : Sent A w5) : Mem b ob cb LL rs gs A w5 :=
  ⟨(hM.below bb).bl, (hM.below bb).o, (hM.below bb).i, Nat.lt_of_lt_of_le ho bb.size, fun j hj => ⟨(bb.cell (p := ⟨ob, _, none⟩) ho).trans (hr j hj).1, (bb.cell (p := ⟨ob, _, none⟩) ho).trans (hr j hj).2⟩, hF, hS⟩
end Go.Proofs.YtibohlbkkaghkaaDoor
