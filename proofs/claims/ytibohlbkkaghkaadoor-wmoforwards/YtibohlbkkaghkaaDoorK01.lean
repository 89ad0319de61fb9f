/- Texts in one: WmoW, WmoForwardsWalk. -/
import Derived.Test.YtibohlbkkaghkaaDoorJ14
import Derived.Test.YtibohlbkkaghkaaDoorJ15
/- WmoAlone: what its ways share. -/
namespace Go.Proofs.YtibohlbkkaghkaaDoor
open Go.ChangeShapes Go.WideShapes Go.ChangeAt Go.RowKit Go.Maps
set_option linter.unusedVariables false
set_option linter.unusedSimpArgs false

theorem number_eq (n m : Int) (m0 : 0 < m) (m1 : m < 2147483648) : (wrap64 (n.tmod m + m)).tmod m = n % m := by
  have h0 := Int.emod_nonneg n (by omega : m ≠ 0)
  have h1 := Int.emod_lt_of_pos n m0
  have ht : n.tmod m = n % m ∨ n.tmod m = n % m - m := by
    rw [Int.tmod_eq_emod]
    split
    · left; omega
    · right; omega
  have hw : wrap64 (n.tmod m + m) = n.tmod m + m := by
    unfold wrap64
    omega
  rw [hw]
  rcases ht with h | h
  · rw [h, Int.tmod_eq_emod_of_nonneg (by omega), Int.add_emod_right, Int.emod_emod]
  · rw [h, Int.sub_add_cancel, Int.tmod_eq_emod_of_nonneg h0, Int.emod_emod]
theorem number_any (n m : Int) (n0 : -9223372036854775808 ≤ n) (n1 : n ≤ 9223372036854775807) (m0 : 0 < m) (m1 : m < 2147483648) (w : World) : Calls Tryd.prog 12 #[.int .i64 n, .int .i64 m] w fun z w' => z = .returned (.int .i64 (n % m)) ∧ w = w' := by
  have hm : ¬ m = 0 := by omega
  go_enter Tryd.func12, Tryd.ntmps12
  go_wp2
  go_ret
  refine ⟨by rw [number_eq n m m0 m1]; rfl, rfl⟩
theorem bdO_w (sz ad vl : Int) (w : World) : (bdO #[(0, .int .i64 2), (1, .int .i64 sz), (2, .int .u32 ad), (3, .int .u32 vl)]).run Tryd.prog w = .ok (.agg (opN (W.oW sz ad vl))) w := by kernel_rfl
namespace W
def oLr : Opr := ⟨1, 4, 4, 0, 0, true, false, false, 0, 0⟩
def oSc : Opr := ⟨2, 4, 4, 9, 0, true, false, false, 0, 0⟩
end W
theorem bdO_lr (w : World) : (bdO #[(0, .int .i64 1), (1, .int .i64 4), (2, .int .u32 4), (5, .bool true)]).run Tryd.prog w = .ok (.agg (opN W.oLr)) w := by kernel_rfl
theorem bdO_sc (w : World) : (bdO #[(0, .int .i64 2), (1, .int .i64 4), (2, .int .u32 4), (3, .int .u32 9), (5, .bool true)]).run Tryd.prog w = .ok (.agg (opN W.oSc)) w := by kernel_rfl
namespace W
theorem ckN1 (AD v : Int) (h : AD = 0 ∨ AD = 1 ∨ AD = 2 ∨ AD = 3 ∨ AD = 4 ∨ AD = 5 ∨ AD = 6 ∨ AD = 7 ∨ AD = 8 ∨ AD = 9 ∨ AD = 10 ∨ AD = 11) : ((AD < 8 ∧ 4 < AD + 1) → ckB [[oLr, oSc], [oW 1 AD v]] [(0, 0), (1, 0), (0, 1)] 4 3 = true) ∧ (¬ (AD < 8 ∧ 4 < AD + 1) → ckB [[oLr, oSc], [oW 1 AD v]] [(0, 0), (1, 0), (0, 1)] 4 4 = true) := by
  rcases h with rfl | rfl | rfl | rfl | rfl | rfl | rfl | rfl | rfl | rfl | rfl | rfl
  · exact ⟨fun h => absurd h (by decide), fun _ => by kernel_rfl⟩
  · exact ⟨fun h => absurd h (by decide), fun _ => by kernel_rfl⟩
  · exact ⟨fun h => absurd h (by decide), fun _ => by kernel_rfl⟩
  · exact ⟨fun h => absurd h (by decide), fun _ => by kernel_rfl⟩
  · exact ⟨fun _ => by kernel_rfl, fun h => absurd (by decide) h⟩
  · exact ⟨fun _ => by kernel_rfl, fun h => absurd (by decide) h⟩
  · exact ⟨fun _ => by kernel_rfl, fun h => absurd (by decide) h⟩
  · exact ⟨fun _ => by kernel_rfl, fun h => absurd (by decide) h⟩
  · exact ⟨fun h => absurd h (by decide), fun _ => by kernel_rfl⟩
  · exact ⟨fun h => absurd h (by decide), fun _ => by kernel_rfl⟩
  · exact ⟨fun h => absurd h (by decide), fun _ => by kernel_rfl⟩
  · exact ⟨fun h => absurd h (by decide), fun _ => by kernel_rfl⟩
theorem ckO1 (AD v : Int) (h : AD = 0 ∨ AD = 1 ∨ AD = 2 ∨ AD = 3 ∨ AD = 4 ∨ AD = 5 ∨ AD = 6 ∨ AD = 7 ∨ AD = 8 ∨ AD = 9 ∨ AD = 10 ∨ AD = 11) : ckB [[oLr, oW 1 AD v, oSc]] [(0, 0), (0, 1), (0, 2)] 4 4 = true := by
  rcases h with rfl | rfl | rfl | rfl | rfl | rfl | rfl | rfl | rfl | rfl | rfl | rfl
  · kernel_rfl
  · kernel_rfl
  · kernel_rfl
  · kernel_rfl
  · kernel_rfl
  · kernel_rfl
  · kernel_rfl
  · kernel_rfl
  · kernel_rfl
  · kernel_rfl
  · kernel_rfl
  · kernel_rfl
theorem adN1 (a : Int) (h0 : 0 ≤ a) (h1 : a < 12) : bits .andNot .u32 a 0 = 0 ∨ bits .andNot .u32 a 0 = 1 ∨ bits .andNot .u32 a 0 = 2 ∨ bits .andNot .u32 a 0 = 3 ∨ bits .andNot .u32 a 0 = 4 ∨ bits .andNot .u32 a 0 = 5 ∨ bits .andNot .u32 a 0 = 6 ∨ bits .andNot .u32 a 0 = 7 ∨ bits .andNot .u32 a 0 = 8 ∨ bits .andNot .u32 a 0 = 9 ∨ bits .andNot .u32 a 0 = 10 ∨ bits .andNot .u32 a 0 = 11 := by
  have h : a = 0 ∨ a = 1 ∨ a = 2 ∨ a = 3 ∨ a = 4 ∨ a = 5 ∨ a = 6 ∨ a = 7 ∨ a = 8 ∨ a = 9 ∨ a = 10 ∨ a = 11 := by omega
  rcases h with rfl | rfl | rfl | rfl | rfl | rfl | rfl | rfl | rfl | rfl | rfl | rfl <;> decide
theorem ckN2 (AD v : Int) (h : AD = 0 ∨ AD = 2 ∨ AD = 4 ∨ AD = 6 ∨ AD = 8 ∨ AD = 10) : ((AD < 8 ∧ 4 < AD + 2) → ckB [[oLr, oSc], [oW 2 AD v]] [(0, 0), (1, 0), (0, 1)] 4 3 = true) ∧ (¬ (AD < 8 ∧ 4 < AD + 2) → ckB [[oLr, oSc], [oW 2 AD v]] [(0, 0), (1, 0), (0, 1)] 4 4 = true) := by
  rcases h with rfl | rfl | rfl | rfl | rfl | rfl
  · exact ⟨fun h => absurd h (by decide), fun _ => by kernel_rfl⟩
  · exact ⟨fun h => absurd h (by decide), fun _ => by kernel_rfl⟩
  · exact ⟨fun _ => by kernel_rfl, fun h => absurd (by decide) h⟩
  · exact ⟨fun _ => by kernel_rfl, fun h => absurd (by decide) h⟩
  · exact ⟨fun h => absurd h (by decide), fun _ => by kernel_rfl⟩
  · exact ⟨fun h => absurd h (by decide), fun _ => by kernel_rfl⟩
theorem ckO2 (AD v : Int) (h : AD = 0 ∨ AD = 2 ∨ AD = 4 ∨ AD = 6 ∨ AD = 8 ∨ AD = 10) : ckB [[oLr, oW 2 AD v, oSc]] [(0, 0), (0, 1), (0, 2)] 4 4 = true := by
  rcases h with rfl | rfl | rfl | rfl | rfl | rfl
  · kernel_rfl
  · kernel_rfl
  · kernel_rfl
  · kernel_rfl
  · kernel_rfl
  · kernel_rfl
theorem adN2 (a : Int) (h0 : 0 ≤ a) (h1 : a < 12) : bits .andNot .u32 a 1 = 0 ∨ bits .andNot .u32 a 1 = 2 ∨ bits .andNot .u32 a 1 = 4 ∨ bits .andNot .u32 a 1 = 6 ∨ bits .andNot .u32 a 1 = 8 ∨ bits .andNot .u32 a 1 = 10 := by
  have h : a = 0 ∨ a = 1 ∨ a = 2 ∨ a = 3 ∨ a = 4 ∨ a = 5 ∨ a = 6 ∨ a = 7 ∨ a = 8 ∨ a = 9 ∨ a = 10 ∨ a = 11 := by omega
  rcases h with rfl | rfl | rfl | rfl | rfl | rfl | rfl | rfl | rfl | rfl | rfl | rfl <;> decide
theorem ckN4 (AD v : Int) (h : AD = 0 ∨ AD = 4 ∨ AD = 8) : ((AD < 8 ∧ 4 < AD + 4) → ckB [[oLr, oSc], [oW 4 AD v]] [(0, 0), (1, 0), (0, 1)] 4 3 = true) ∧ (¬ (AD < 8 ∧ 4 < AD + 4) → ckB [[oLr, oSc], [oW 4 AD v]] [(0, 0), (1, 0), (0, 1)] 4 4 = true) := by
  rcases h with rfl | rfl | rfl
  · exact ⟨fun h => absurd h (by decide), fun _ => by kernel_rfl⟩
  · exact ⟨fun _ => by kernel_rfl, fun h => absurd (by decide) h⟩
  · exact ⟨fun h => absurd h (by decide), fun _ => by kernel_rfl⟩
theorem ckO4 (AD v : Int) (h : AD = 0 ∨ AD = 4 ∨ AD = 8) : ckB [[oLr, oW 4 AD v, oSc]] [(0, 0), (0, 1), (0, 2)] 4 4 = true := by
  rcases h with rfl | rfl | rfl
  · kernel_rfl
  · kernel_rfl
  · kernel_rfl
theorem adN4 (a : Int) (h0 : 0 ≤ a) (h1 : a < 12) : bits .andNot .u32 a 3 = 0 ∨ bits .andNot .u32 a 3 = 4 ∨ bits .andNot .u32 a 3 = 8 := by
  have h : a = 0 ∨ a = 1 ∨ a = 2 ∨ a = 3 ∨ a = 4 ∨ a = 5 ∨ a = 6 ∨ a = 7 ∨ a = 8 ∨ a = 9 ∨ a = 10 ∨ a = 11 := by omega
  rcases h with rfl | rfl | rfl | rfl | rfl | rfl | rfl | rfl | rfl | rfl | rfl | rfl <;> decide
theorem vl_2 (l0 l1 : List Opr) (h0 : ∀ o ∈ l0, 0 ≤ o.vl ∧ o.vl < 4294967296) (h1 : ∀ o ∈ l1, 0 ≤ o.vl ∧ o.vl < 4294967296) (h i : Nat) : 0 ≤ (xM [l0, l1] h i).o.vl ∧ (xM [l0, l1] h i).o.vl < 4294967296 := by
  have key : ∀ l : List Opr, (∀ o ∈ l, 0 ≤ o.vl ∧ o.vl < 4294967296) → 0 ≤ (ozM l i).o.vl ∧ (ozM l i).o.vl < 4294967296 := fun l hl => by
    unfold ozM oz0
    rw [List.getD_eq_getElem?_getD]
    cases e : l[i]? with
    | none => exact ⟨Int.le_refl _, (by decide : (0 : Int) < 4294967296)⟩
    | some o => exact hl o (List.mem_of_getElem? e)
  match h with
  | 0 => exact key l0 h0
  | 1 => exact key l1 h1
  | h + 2 => exact key [] (fun o ho => absurd ho (by simp))
theorem vl_1 (l0 : List Opr) (h0 : ∀ o ∈ l0, 0 ≤ o.vl ∧ o.vl < 4294967296) (h i : Nat) : 0 ≤ (xM [l0] h i).o.vl ∧ (xM [l0] h i).o.vl < 4294967296 := by
  have := vl_2 l0 [] h0 (fun o ho => absurd ho (by simp)) h i
  match h with
  | 0 => exact this
  | 1 => exact this
  | h + 2 => exact this
end W
theorem or_3 (w : World) (a b c d e f : Nat) (T : TypeId) : ∀ j, j < [(a, b), (c, d), (e, f)].length → (w.alloc (.cells #[.int .i64 (a : Int), .int .i64 (b : Int), .int .i64 (c : Int), .int .i64 (d : Int), .int .i64 (e : Int), .int .i64 (f : Int)] T)).cell? ⟨w.heap.size, j * 2, none⟩ = some (.int .i64 ((W.rM [(a, b), (c, d), (e, f)] j).1 : Int)) ∧ (w.alloc (.cells #[.int .i64 (a : Int), .int .i64 (b : Int), .int .i64 (c : Int), .int .i64 (d : Int), .int .i64 (e : Int), .int .i64 (f : Int)] T)).cell? ⟨w.heap.size, j * 2 + 1, none⟩ = some (.int .i64 ((W.rM [(a, b), (c, d), (e, f)] j).2 : Int)) := by
  have hl := heap_alloc_last w (.cells #[.int .i64 (a : Int), .int .i64 (b : Int), .int .i64 (c : Int), .int .i64 (d : Int), .int .i64 (e : Int), .int .i64 (f : Int)] T)
  intro j hj
  match j, hj with
  | 0, _ => exact ⟨cell_of_row _ _ 0 _ _ (0, 0) hl, cell_of_row _ _ 1 _ _ (0, 0) hl⟩
  | 1, _ => exact ⟨cell_of_row _ _ 2 _ _ (0, 0) hl, cell_of_row _ _ 3 _ _ (0, 0) hl⟩
  | 2, _ => exact ⟨cell_of_row _ _ 4 _ _ (0, 0) hl, cell_of_row _ _ 5 _ _ (0, 0) hl⟩
theorem mh_1 (w : World) (l0 : List W.Opr) (n0 : Nat) (h0 : n0 = l0.length) (T : TypeId) (Z : Obj) : Mh (w.heap.size + 1) [l0] (fun h => w.heap.size + h) (((w.alloc (.cells (opsR l0) 38)).alloc (.cells #[.slice (some ⟨w.heap.size, 0, none⟩) n0 n0] T)).alloc Z) := by
  subst h0
  obtain ⟨e0, e1, e2⟩ := three w (.cells (opsR l0) 38) (.cells #[.slice (some ⟨w.heap.size, 0, none⟩) l0.length l0.length] T) Z
  refine ⟨(Array.getElem?_eq_some_iff.1 e1).1, fun h hh => ?_, fun h hh => ?_⟩
  · match h, hh with
    | 0, _ => exact cell_of_row _ _ 0 _ _ (0, 0) e1
  · match h, hh with
    | 0, _ => exact e0
theorem or_3' (w : World) (X Y : Obj) (a b c d e f : Nat) (T : TypeId) : ∀ j, j < [(a, b), (c, d), (e, f)].length → (((w.alloc X).alloc Y).alloc (.cells #[.int .i64 (a : Int), .int .i64 (b : Int), .int .i64 (c : Int), .int .i64 (d : Int), .int .i64 (e : Int), .int .i64 (f : Int)] T)).cell? ⟨w.heap.size + 1 + 1, j * 2, none⟩ = some (.int .i64 ((W.rM [(a, b), (c, d), (e, f)] j).1 : Int)) ∧ (((w.alloc X).alloc Y).alloc (.cells #[.int .i64 (a : Int), .int .i64 (b : Int), .int .i64 (c : Int), .int .i64 (d : Int), .int .i64 (e : Int), .int .i64 (f : Int)] T)).cell? ⟨w.heap.size + 1 + 1, j * 2 + 1, none⟩ = some (.int .i64 ((W.rM [(a, b), (c, d), (e, f)] j).2 : Int)) := by
  have h := or_3 ((w.alloc X).alloc Y) a b c d e f T
  have hs : ((w.alloc X).alloc Y).heap.size = w.heap.size + 1 + 1 := by simp
  rw [hs] at h
  exact h
theorem Mem.of {b ob cb : Nat} {LL : List (List W.Opr)} {rs : List (Nat × Nat)} {gs : Nat → Nat} {A : Nat → Addr} {W0 w5 : World} (hM : Mh b LL gs W0) (ho : ob < W0.heap.size) (hr : ∀ j, j < rs.length → W0.cell? ⟨ob, j * 2, none⟩ = some (.int .i64 ((W.rM rs j).1 : Int)) ∧ W0.cell? ⟨ob, j * 2 + 1, none⟩ = some (.int .i64 ((W.rM rs j).2 : Int))) (bb : Below W0.heap.size W0 w5) (hF : Fz cb w5) (hS : Sent A w5) : Mem b ob cb LL rs gs A w5 :=
  ⟨(hM.below bb).bl, (hM.below bb).o, (hM.below bb).i, Nat.lt_of_lt_of_le ho bb.size, fun j hj => ⟨(bb.cell (p := ⟨ob, _, none⟩) ho).trans (hr j hj).1, (bb.cell (p := ⟨ob, _, none⟩) ho).trans (hr j hj).2⟩, hF, hS⟩
end Go.Proofs.YtibohlbkkaghkaaDoor

/- WmoForwards. -/
namespace Go.Proofs.YtibohlbkkaghkaaDoor
open Go.ChangeShapes Go.WideShapes Go.ChangeAt Go.RowKit Go.Maps
set_option linter.unusedVariables false
set_option linter.unusedSimpArgs false

namespace W
def LLw (a b : Int) : List (List Opr) := [[oW 4 0 a, oR 4 0 a], [oW 4 0 b]]
def r1 : List (Nat × Nat) := [(0, 1), (1, 0), (0, 0)]
def r2 : List (Nat × Nat) := [(1, 0), (0, 1), (0, 0)]
def r3 : List (Nat × Nat) := [(0, 0), (1, 0), (0, 1)]
/-- A word out of its bytes. -/
def wd (a : Int) : Int := 0 + bta a 0 * 2 ^ (8 * 0) + bta a 1 * 2 ^ (8 * 1) + bta a 2 * 2 ^ (8 * 2) + bta a 3 * 2 ^ (8 * 3)
theorem wd_eq (a : Int) (h0 : 0 ≤ a) (h1 : a < 4294967296) : wd a = a := by
  unfold wd bta
  simp only [Nat.mul_zero, Nat.mul_one, Nat.reduceMul, Int.reducePow, Int.pow_zero]
  omega
theorem ckw1 (a b : Int) : ckE (LLw a b) r1 = true := by kernel_rfl
theorem ckw2 (a b : Int) : ckE (LLw a b) r2 = true := by kernel_rfl
theorem ckw3 (a b : Int) : ckE (LLw a b) r3 = true := by kernel_rfl
theorem tuw1 (a b : Int) : tuM (LLw a b) r1 = 0 := by kernel_rfl
theorem tuw2 (a b : Int) : tuM (LLw a b) r2 = 0 := by kernel_rfl
theorem tuw3 (a b : Int) : tuM (LLw a b) r3 = 0 := by kernel_rfl
theorem rdw1 (a b : Int) : rdV (stM (LLw a b) r1) 1 4 = wd a := by kernel_rfl
theorem rdw2 (a b : Int) : rdV (stM (LLw a b) r2) 2 4 = wd a := by kernel_rfl
theorem rdw3 (a b : Int) : rdV (stM (LLw a b) r3) 3 4 = wd b := by kernel_rfl
theorem not_rd {q : Nat → StR} {p : Nat} (h : rds (q p).o.k = false) : okR q p := fun e => by rw [h] at e; cases e
theorem okw1 (a b : Int) (h0 : 0 ≤ a) (h1 : a < 4294967296) (p : Nat) (hp : p < 4) : okR (stM (LLw a b) r1) p := by
  match p, hp with
  | 0, _ => exact not_rd (by kernel_rfl)
  | 1, _ => exact fun _ => ((rdw1 a b).trans (wd_eq a h0 h1)).symm
  | 2, _ => exact not_rd (by kernel_rfl)
  | 3, _ => exact not_rd (by kernel_rfl)
theorem okw2 (a b : Int) (h0 : 0 ≤ a) (h1 : a < 4294967296) (p : Nat) (hp : p < 4) : okR (stM (LLw a b) r2) p := by
  match p, hp with
  | 0, _ => exact not_rd (by kernel_rfl)
  | 1, _ => exact not_rd (by kernel_rfl)
  | 2, _ => exact fun _ => ((rdw2 a b).trans (wd_eq a h0 h1)).symm
  | 3, _ => exact not_rd (by kernel_rfl)
theorem okw3 (a b : Int) (p : Nat) (hp : p < 3) : okR (stM (LLw a b) r3) p := by
  match p, hp with
  | 0, _ => exact not_rd (by kernel_rfl)
  | 1, _ => exact not_rd (by kernel_rfl)
  | 2, _ => exact not_rd (by kernel_rfl)
theorem okw3e (a b : Int) (h0 : 0 ≤ b) (h1 : b < 4294967296) : okR (stM (LLw a b) r3) 3 ↔ a = b := by
  have e : okR (stM (LLw a b) r3) 3 ↔ a = rdV (stM (LLw a b) r3) 3 4 := ⟨fun h => h (by kernel_rfl), fun h _ => h⟩
  rw [e, rdw3, wd_eq b h0 h1]
theorem okp1 (a b : Int) (p : Nat) (hp : p < 4) : okP (stM (LLw a b) r1) p := by
  match p, hp with
  | 0, _ => exact (okPb_iff _ _).1 (by kernel_rfl)
  | 1, _ => exact (okPb_iff _ _).1 (by kernel_rfl)
  | 2, _ => exact (okPb_iff _ _).1 (by kernel_rfl)
  | 3, _ => exact (okPb_iff _ _).1 (by kernel_rfl)
theorem okp2 (a b : Int) (p : Nat) (hp : p < 4) : okP (stM (LLw a b) r2) p := by
  match p, hp with
  | 0, _ => exact (okPb_iff _ _).1 (by kernel_rfl)
  | 1, _ => exact (okPb_iff _ _).1 (by kernel_rfl)
  | 2, _ => exact (okPb_iff _ _).1 (by kernel_rfl)
  | 3, _ => exact (okPb_iff _ _).1 (by kernel_rfl)
theorem okp3 (a b : Int) (p : Nat) (hp : p < 4) : okP (stM (LLw a b) r3) p := by
  match p, hp with
  | 0, _ => exact (okPb_iff _ _).1 (by kernel_rfl)
  | 1, _ => exact (okPb_iff _ _).1 (by kernel_rfl)
  | 2, _ => exact (okPb_iff _ _).1 (by kernel_rfl)
  | 3, _ => exact (okPb_iff _ _).1 (by kernel_rfl)
theorem vlw (a b : Int) (a0 : 0 ≤ a) (a1 : a < 4294967296) (b0 : 0 ≤ b) (b1 : b < 4294967296) (h i : Nat) : 0 ≤ (xM (LLw a b) h i).o.vl ∧ (xM (LLw a b) h i).o.vl < 4294967296 :=
  vl_2 _ _ (fun o ho => by
    simp only [List.mem_cons, List.mem_nil_iff, or_false] at ho
    rcases ho with rfl | rfl
    · exact ⟨a0, a1⟩
    · exact ⟨Int.le_refl _, (by decide : (0 : Int) < 4294967296)⟩) (fun o ho => by
    simp only [List.mem_cons, List.mem_nil_iff, or_false] at ho
    rcases ho with rfl
    exact ⟨b0, b1⟩) h i
end W
theorem bdO_wv (v : Int) (w : World) : (bdO #[(0, .int .i64 2), (1, .int .i64 4), (3, .int .u32 v)]).run Tryd.prog w = .ok (.agg (opN (W.oW 4 0 v))) w := by kernel_rfl
theorem bdO_rv (v : Int) (w : World) : (bdO #[(0, .int .i64 1), (1, .int .i64 4), (4, .int .u32 v)]).run Tryd.prog w = .ok (.agg (opN (W.oR 4 0 v))) w := by kernel_rfl
attribute [local go_sem ↓] bdO_eq bsO_eq ldO_eq
set_option maxRecDepth 10000 in
set_option maxHeartbeats 1600000 in
theorem forwards_any (A : Nat → Addr) (a b : Int) (a0 : 0 ≤ a) (a1 : a < 4294967296) (b0 : 0 ≤ b) (b1 : b < 4294967296) (w : World) (hS : Sent A w) :
    Calls Tryd.prog 4 #[.int .u32 a, .int .u32 b] w fun e w' => e = .returned (.bool true) ∧ Below w.heap.size w w' := by
  have q1 := bdO_wv
  have q2 := bdO_rv
  have q4 := bsO_1
  have q5 := bsO_2
  have HH : Hid (Calls _ _ _ _ _ ∧ _) := ⟨first14_any A w hS, hS⟩
  clear hS
  go_enter Tryd.func4, Tryd.ntmps4
  go_wp2_with (fail)
  refine HH.out.1.mono ?_
  rintro e w1 ⟨rfl, bw1⟩
  have M0 := mh_2 w1 [W.oW 4 0 a, W.oR 4 0 a] [W.oW 4 0 b] 2 1 rfl rfl 34
  have Bn : Below w1.heap.size w1 (((w1.alloc (.cells (opsR [W.oW 4 0 a, W.oR 4 0 a]) 38)).alloc (.cells (opsR [W.oW 4 0 b]) 38)).alloc (.cells #[.slice (some ⟨w1.heap.size, 0, none⟩) 2 2, .slice (some ⟨w1.heap.size + 1, 0, none⟩) 1 1] 34)) := (((Below.refl _ _).alloc (Nat.le_refl _) _).alloc (by simp) _).alloc (by simp; omega) _
  have Bm := bw1.trans (Bn.mono bw1.size)
  have HM : Hid (_ ∧ _ ∧ _) := ⟨M0, Bm, HH.out.2.below Bm⟩
  clear M0 Bm Bn bw1 HH
  go_wp2_with (fail)
  generalize hb : w1.heap.size + 1 + 1 = hbk at *
  generalize World.alloc _ _ = W1 at *
  refine (bytesOf_nil W1).mono ?_
  rintro e w2 ⟨⟨cb, rfl, hcb, hF⟩, bb⟩
  have B2 := HM.out.2.1.trans (bb.mono HM.out.2.1.size)
  have M2 := HM.out.1.below bb
  have S2 := HM.out.2.2.below bb
  have mem : ∀ w3, Below w2.heap.size w2 w3 → ∀ r : List (Nat × Nat), ∀ x0 x1 x2 x3 x4 x5 : Nat, r = [(x0, x1), (x2, x3), (x4, x5)] → Mem hbk w3.heap.size cb (W.LLw a b) r (fun h => w1.heap.size + h) A (w3.alloc (.cells #[.int .i64 (x0 : Int), .int .i64 (x1 : Int), .int .i64 (x2 : Int), .int .i64 (x3 : Int), .int .i64 (x4 : Int), .int .i64 (x5 : Int)] 41)) := fun w3 h3 r x0 x1 x2 x3 x4 x5 e => by
    have al3 := h3.alloc h3.size (.cells #[.int .i64 (x0 : Int), .int .i64 (x1 : Int), .int .i64 (x2 : Int), .int .i64 (x3 : Int), .int .i64 (x4 : Int), .int .i64 (x5 : Int)] 41)
    rw [e]
    exact ⟨(M2.below al3).bl, (M2.below al3).o, (M2.below al3).i, by simp, or_3 w3 x0 x1 x2 x3 x4 x5 41, hF.below al3, S2.below al3⟩
  have vl := W.vlw a b a0 a1 b0 b1
  have ok1 := check2_ok hbk _ 2 _ _ _ _ _ _ _ 3 _ cb A _ ((mem w2 (Below.refl _ _) W.r1 0 1 1 0 0 0 rfl).ckE 2 (W.ckw1 a b) vl) (W.tuw1 a b) 4 rfl 4 rfl (W.okw1 a b a0 a1) (fun h => absurd h (by decide)) (W.okp1 a b) (fun h => absurd h (by decide))
  have ok2 := fun w3 h3 => check2_ok hbk _ 2 _ _ _ _ _ _ _ 3 _ cb A _ ((mem w3 h3 W.r2 1 0 0 1 0 0 rfl).ckE 2 (W.ckw2 a b) vl) (W.tuw2 a b) 4 rfl 4 rfl (W.okw2 a b a0 a1) (fun h => absurd h (by decide)) (W.okp2 a b) (fun h => absurd h (by decide))
  have H2 : Hid (_ ∧ _ ∧ _) := ⟨ok1, ok2, B2⟩
  by_cases hab : a = b
  · have ok3 := fun w3 h3 => check2_ok hbk _ 2 _ _ _ _ _ _ _ 3 _ cb A _ ((mem w3 h3 W.r3 0 0 1 0 0 1 rfl).ckE 2 (W.ckw3 a b) vl) (W.tuw3 a b) 4 rfl 4 rfl (fun p hp => by
      by_cases h3 : p = 3
      · rw [h3]; exact (W.okw3e a b b0 b1).2 hab
      · exact W.okw3 a b p (by omega)) (fun h => absurd h (by decide)) (W.okp3 a b) (fun h => absurd h (by decide))
    have H3 : Hid _ := ok3
    clear ok1 ok2 ok3 B2 M2 hF bb hcb HM mem S2 vl
    have hq : (a == b) = true := by simpa using hab
    clear hab
    generalize fvZ cb = FV at *
    go_wp2_with (fail)
    refine H2.out.1.mono ?_
    rintro e w3 ⟨rfl, b3⟩
    have b4 := ((Below.refl w2.heap.size w2).alloc (Nat.le_refl _) _).trans (b3.mono (by simp))
    clear b3
    go_wp2_with (fail)
    refine (H2.out.2.1 _ b4).mono ?_
    rintro e w5 ⟨rfl, b5⟩
    have b6 := b4.trans ((((Below.refl _ _).alloc (Nat.le_refl _) _).trans (b5.mono (by simp))).mono b4.size)
    clear b5 b4
    go_wp2_with (fail)
    refine (H3.out _ b6).mono ?_
    rintro e w7 ⟨rfl, b7⟩
    have B8 := H2.out.2.2.trans ((b6.trans ((((Below.refl _ _).alloc (Nat.le_refl _) _).trans (b7.mono (by simp))).mono b6.size)).mono H2.out.2.2.size)
    clear b6 b7 H2 H3
    go_wp2
    go_ret
    exact ⟨rfl, B8⟩
  · have ok3 := fun w3 h3 => check2_val hbk _ 2 _ _ _ _ _ _ _ 3 _ cb A _ ((mem w3 h3 W.r3 0 0 1 0 0 1 rfl).ckE 2 (W.ckw3 a b) vl) (W.tuw3 a b) 3 ⟨by decide, by decide⟩ 4 (by decide) (W.okw3 a b) (fun _ h => hab ((W.okw3e a b b0 b1).1 h)) (W.okp3 a b) (fun h => absurd h (by decide))
    have H3 : Hid _ := ok3
    clear ok1 ok2 ok3 B2 M2 hF bb hcb HM mem S2 vl
    have hq : (a == b) = false := by simpa using hab
    clear hab
    generalize fvZ cb = FV at *
    go_wp2_with (fail)
    refine H2.out.1.mono ?_
    rintro e w3 ⟨rfl, b3⟩
    have b4 := ((Below.refl w2.heap.size w2).alloc (Nat.le_refl _) _).trans (b3.mono (by simp))
    clear b3
    go_wp2_with (fail)
    refine (H2.out.2.1 _ b4).mono ?_
    rintro e w5 ⟨rfl, b5⟩
    have b6 := b4.trans ((((Below.refl _ _).alloc (Nat.le_refl _) _).trans (b5.mono (by simp))).mono b4.size)
    clear b5 b4
    go_wp2_with (fail)
    refine (H3.out _ b6).mono ?_
    rintro e w7 ⟨⟨q, rfl, hq7⟩, b7⟩
    have B8 := H2.out.2.2.trans ((b6.trans ((((Below.refl _ _).alloc (Nat.le_refl _) _).trans (b7.mono (by simp))).mono b6.size)).mono H2.out.2.2.size)
    clear b6 b7 H2 H3 hq7
    go_wp2
    go_ret
    exact ⟨rfl, B8⟩
end Go.Proofs.YtibohlbkkaghkaaDoor
