/- HomeShares: its laws on numbers. -/
import Derived.Test.YtadkpelcbnljbaaHomR
namespace Go.Proofs.Ytadkpelcbnljbaa
open Go.ChangeShapes Go.WideShapes Go.ChangeAt Go.RowKit
set_option linter.unusedVariables false
set_option linter.unusedSimpArgs false

theorem and3i (n : Int) : bits .and .i64 n 3 = n % 4 := by
  have h : ((BitVec.ofInt 64 n &&& BitVec.ofInt 64 3 : BitVec 64).toNat : Int) = n % 4 := by
    rw [BitVec.toNat_and]
    have h31 : (BitVec.ofInt 64 3).toNat = 2 ^ 2 - 1 := by decide
    rw [h31, Nat.and_two_pow_sub_one_eq_mod, BitVec.toNat_ofInt]
    simp
    omega
  show IntKind.i64.wrap ((BitVec.ofInt 64 n &&& BitVec.ofInt 64 3 : BitVec 64).toNat : Int) = n % 4
  rw [h]
  exact IntWalk.i64_in _ (by omega)
theorem and14i (n : Int) : bits .and .i64 n 14 = n % 16 - n % 2 := by
  have h : ((BitVec.ofInt 64 n &&& BitVec.ofInt 64 14 : BitVec 64).toNat : Int) = n % 16 - n % 2 := by
    rw [BitVec.toNat_and]
    have h31 : (BitVec.ofInt 64 14).toNat = (2 ^ 4 - 1) &&& 14 := by decide
    rw [h31, ← Nat.and_assoc, Nat.and_two_pow_sub_one_eq_mod, BitVec.toNat_ofInt]
    have e : ∀ m, m < 16 → ((m &&& 14 : Nat) : Int) = (m : Int) - (m : Int) % 2 := by decide +kernel
    rw [e _ (Nat.mod_lt _ (by decide))]
    simp
    omega
  show IntKind.i64.wrap ((BitVec.ofInt 64 n &&& BitVec.ofInt 64 14 : BitVec 64).toNat : Int) = n % 16 - n % 2
  rw [h]
  exact IntWalk.i64_in _ (by omega)
theorem odd_mask (n : Int) : ∃ M : Nat, M < 8 ∧ bits .or .i64 (bits .and .i64 n 14) 1 = 2 * M + 1 := by
  rw [and14i]
  refine ⟨(n % 16 / 2).toNat, by omega, ?_⟩
  have e : ∀ m : Nat, m < 8 → bits .or .i64 (2 * m) 1 = 2 * m + 1 := by decide +kernel
  have := e (n % 16 / 2).toNat (by omega)
  rw [show n % 16 - n % 2 = 2 * ((n % 16 / 2).toNat : Int) by omega]
  exact this


namespace W
def sbit (M j : Nat) : Bool := decide ((2 * M + 1) / 2 ^ j % 2 = 1)
/-- The harts of the mask below j. -/
def slof (M : Nat) : Nat → List Int
  | 0 => []
  | j + 1 => slof M j ++ (if sbit M j then [(j : Int)] else [])
/-- What the home knows behind those that only read. -/
def St (x0 x1 x2 x3 : Int) : List Int → Hm
  | [] => hm0 0 4 x0 x1 x2 x3
  | [a] => ⟨0, 4, x0, x1, x2, x3, a, [], -1, 1, [], -1, mg0⟩
  | a :: b :: l => ⟨0, 4, x0, x1, x2, x3, -1, a :: b :: l, -1, 1, [], -1, mg0⟩
/-- The harts whose Acks have not come, when those below j have. -/
def swa (M V j : Nat) : List Int := (wo (slof M 4) V).filter (fun y => decide ((j : Int) ≤ y))
def sleft (M V j : Nat) : Nat := (wo (slof M j) V).length
def KS (x0 x1 x2 x3 : Int) (L A : List Int) (V : Nat) : Hm := ⟨0, 4, x0, x1, x2, x3, -1, L, V, 2, A, -1, mg0⟩
def FN (x0 x1 x2 x3 : Int) (V : Nat) : Hm := ⟨0, 4, x0, x1, x2, x3, V, [], V, 2, [], -1, mg0⟩
def kst (x0 x1 x2 x3 : Int) (M V j : Nat) : Hm := if swa M V j = [] then FN x0 x1 x2 x3 V else KS x0 x1 x2 x3 (slof M 4) (swa M V j) V
def sinv (k : Int) : Mg := ⟨4, 0, -1, k, 0, 0, 0, 0, false, false, false⟩
def sdat (x0 x1 x2 x3 : Int) (r : Nat) (a : Bool) : Mg := ⟨7, 0, -1, r, x0, x1, x2, x3, true, false, a⟩
theorem sbit_and : ∀ M : Nat, M < 8 → ∀ j : Nat, j < 4 → bits .and .i64 ((2 * (M : Int) + 1) / 2 ^ j) 1 = (if sbit M j then 1 else 0) := by decide +kernel
theorem slof_1 : ∀ M : Nat, M < 8 → ∀ j : Nat, j < 4 → sbit M j = true → (slof M j).length = 0 → j = 0 := by decide +kernel
theorem slof_2 (M j : Nat) (h : sbit M j = true) : (slof M (j + 1)).length = (slof M j).length + 1 := by show (slof M j ++ (if sbit M j then [(j : Int)] else [])).length = _; rw [h]; simp
theorem slof_len (M : Nat) : ∀ j, j ≤ 4 → (slof M j).length ≤ 4 := fun j hj => by
  have : ∀ k, (slof M k).length ≤ k := fun k => by
    induction k with
    | zero => exact Nat.le_refl _
    | succ k ih =>
      show (slof M k ++ (if sbit M k then [(k : Int)] else [])).length ≤ _
      rw [List.length_append]
      split <;> simp <;> omega
  exact Nat.le_trans (this j) hj
theorem slof_3 (M j : Nat) (h : sbit M j = false) : slof M (j + 1) = slof M j := by rw [slof, h]; simp
theorem slof_4 : ∀ M : Nat, M < 8 → (slof M 4).length = 1 → slof M 4 = [0] := by decide +kernel
theorem slof_5 : ∀ M : Nat, M < 8 → 1 ≤ (slof M 4).length := by decide +kernel
theorem swa_0 : ∀ M : Nat, M < 8 → ∀ V : Nat, V < 4 → (slof M 4).length ≠ 1 → swa M V 0 ≠ [] ∧ swa M V 0 = wo (slof M 4) V ∧ sleft M V 4 = (swa M V 0).length := by decide +kernel
theorem swa_4 : ∀ M : Nat, M < 8 → ∀ V : Nat, V < 4 → swa M V 4 = [] := by decide +kernel
theorem swa_s (M V j : Nat) (hM : M < 8) (hV : V < 4) (hj : j < 4) (hb : sbit M j = true) (hn : j ≠ V) : (swa M V j).length = (swa M V (j + 1)).length + 1 := by
  have hM : M = 0 ∨ M = 1 ∨ M = 2 ∨ M = 3 ∨ M = 4 ∨ M = 5 ∨ M = 6 ∨ M = 7 := by omega
  have hV : V = 0 ∨ V = 1 ∨ V = 2 ∨ V = 3 := by omega
  have hj : j = 0 ∨ j = 1 ∨ j = 2 ∨ j = 3 := by omega
  rcases hM with rfl | rfl | rfl | rfl | rfl | rfl | rfl | rfl <;> rcases hV with rfl | rfl | rfl | rfl <;> rcases hj with rfl | rfl | rfl | rfl <;>
    first | (exact absurd hb (by decide)) | (exact absurd rfl hn) | (decide +kernel)
theorem swa_n (M V j : Nat) (hM : M < 8) (hV : V < 4) (hj : j < 4) (hb : sbit M j = false ∨ j = V) : swa M V (j + 1) = swa M V j := by
  have hM : M = 0 ∨ M = 1 ∨ M = 2 ∨ M = 3 ∨ M = 4 ∨ M = 5 ∨ M = 6 ∨ M = 7 := by omega
  have hV : V = 0 ∨ V = 1 ∨ V = 2 ∨ V = 3 := by omega
  have hj : j = 0 ∨ j = 1 ∨ j = 2 ∨ j = 3 := by omega
  rcases hM with rfl | rfl | rfl | rfl | rfl | rfl | rfl | rfl <;> rcases hV with rfl | rfl | rfl | rfl <;> rcases hj with rfl | rfl | rfl | rfl <;>
    first | (exact absurd hb (by decide)) | (decide +kernel)
theorem sleft_s (M V j : Nat) (hM : M < 8) (hV : V < 4) (hj : j < 4) (hb : sbit M j = true) (hn : j ≠ V) : sleft M V (j + 1) = sleft M V j + 1 ∧ (wo (slof M 4) V)[sleft M V j]? = some (j : Int) := by
  have hM : M = 0 ∨ M = 1 ∨ M = 2 ∨ M = 3 ∨ M = 4 ∨ M = 5 ∨ M = 6 ∨ M = 7 := by omega
  have hV : V = 0 ∨ V = 1 ∨ V = 2 ∨ V = 3 := by omega
  have hj : j = 0 ∨ j = 1 ∨ j = 2 ∨ j = 3 := by omega
  rcases hM with rfl | rfl | rfl | rfl | rfl | rfl | rfl | rfl <;> rcases hV with rfl | rfl | rfl | rfl <;> rcases hj with rfl | rfl | rfl | rfl <;>
    first | (exact absurd hb (by decide)) | (exact absurd rfl hn) | (decide +kernel)
theorem sleft_n (M V j : Nat) (hM : M < 8) (hV : V < 4) (hj : j < 4) (hb : sbit M j = false ∨ j = V) : sleft M V (j + 1) = sleft M V j := by
  have hM : M = 0 ∨ M = 1 ∨ M = 2 ∨ M = 3 ∨ M = 4 ∨ M = 5 ∨ M = 6 ∨ M = 7 := by omega
  have hV : V = 0 ∨ V = 1 ∨ V = 2 ∨ V = 3 := by omega
  have hj : j = 0 ∨ j = 1 ∨ j = 2 ∨ j = 3 := by omega
  rcases hM with rfl | rfl | rfl | rfl | rfl | rfl | rfl | rfl <;> rcases hV with rfl | rfl | rfl | rfl <;> rcases hj with rfl | rfl | rfl | rfl <;>
    first | (exact absurd hb (by decide)) | (decide +kernel)
section
variable (x0 x1 x2 x3 : Int)
theorem st_0 : take (hm0 0 4 x0 x1 x2 x3) (up 1 0 0) = (⟨0, 4, x0, x1, x2, x3, 0, [], 0, 1, [], -1, mg0⟩, [sdat x0 x1 x2 x3 0 true]) := by rfl
theorem st_0d (M : Nat) (h : M < 8) : take ⟨0, 4, x0, x1, x2, x3, 0, [], 0, 1, [], -1, mg0⟩ (up 12 0 0) = (St x0 x1 x2 x3 (slof M 1), []) := by
  have : M = 0 ∨ M = 1 ∨ M = 2 ∨ M = 3 ∨ M = 4 ∨ M = 5 ∨ M = 6 ∨ M = 7 := by omega
  rcases this with rfl | rfl | rfl | rfl | rfl | rfl | rfl | rfl <;> rfl
theorem st_1 (M j : Nat) (hM : M < 8) (hj : j < 4) (hb : sbit M j = true) (hl : (slof M j).length = 1) :
    take (St x0 x1 x2 x3 (slof M j)) (up 1 0 j) = (⟨0, 4, x0, x1, x2, x3, 0, [], j, 1, [], 0, mg0⟩, [⟨5, 0, -1, 0, 0, 0, 0, 0, false, false, false⟩]) ∧
    take ⟨0, 4, x0, x1, x2, x3, 0, [], j, 1, [], 0, mg0⟩ ⟨11, 0, 0, -1, x0, x1, x2, x3, true, false, false⟩ = (⟨0, 4, x0, x1, x2, x3, -1, [0, (j : Int)], j, 1, [], -1, mg0⟩, [sdat x0 x1 x2 x3 j false]) ∧
    take ⟨0, 4, x0, x1, x2, x3, -1, [0, (j : Int)], j, 1, [], -1, mg0⟩ (up 12 0 j) = (St x0 x1 x2 x3 (slof M (j + 1)), []) := by
  have hM : M = 0 ∨ M = 1 ∨ M = 2 ∨ M = 3 ∨ M = 4 ∨ M = 5 ∨ M = 6 ∨ M = 7 := by omega
  have hj : j = 0 ∨ j = 1 ∨ j = 2 ∨ j = 3 := by omega
  rcases hM with rfl | rfl | rfl | rfl | rfl | rfl | rfl | rfl <;> rcases hj with rfl | rfl | rfl | rfl <;>
    first | (exact absurd hb (by decide)) | (exact absurd hl (by decide)) | (exact ⟨rfl, rfl, rfl⟩)
theorem st_2 (M j : Nat) (hM : M < 8) (hj : j < 4) (hb : sbit M j = true) (hl : 2 ≤ (slof M j).length) :
    take (St x0 x1 x2 x3 (slof M j)) (up 1 0 j) = (⟨0, 4, x0, x1, x2, x3, -1, slof M (j + 1), j, 1, [], -1, mg0⟩, [sdat x0 x1 x2 x3 j false]) ∧
    take ⟨0, 4, x0, x1, x2, x3, -1, slof M (j + 1), j, 1, [], -1, mg0⟩ (up 12 0 j) = (St x0 x1 x2 x3 (slof M (j + 1)), []) := by
  have hM : M = 0 ∨ M = 1 ∨ M = 2 ∨ M = 3 ∨ M = 4 ∨ M = 5 ∨ M = 6 ∨ M = 7 := by omega
  have hj : j = 0 ∨ j = 1 ∨ j = 2 ∨ j = 3 := by omega
  rcases hM with rfl | rfl | rfl | rfl | rfl | rfl | rfl | rfl <;> rcases hj with rfl | rfl | rfl | rfl <;>
    first | (exact absurd hb (by decide)) | (exact absurd hl (by decide)) | (exact ⟨rfl, rfl⟩)
theorem st_e (L : List Int) (h : 2 ≤ L.length) : (St x0 x1 x2 x3 L).ow = -1 ∧ (St x0 x1 x2 x3 L).sh = L := by
  match L, h with
  | a :: b :: l, _ => exact ⟨rfl, rfl⟩
theorem st_g (M V : Nat) (hM : M < 8) (hV : V < 4) (hl : (slof M 4).length ≠ 1) :
    take (St x0 x1 x2 x3 (slof M 4)) (up 2 0 V) = (kst x0 x1 x2 x3 M V 0, (wo (slof M 4) V).map sinv) := by
  have hM : M = 0 ∨ M = 1 ∨ M = 2 ∨ M = 3 ∨ M = 4 ∨ M = 5 ∨ M = 6 ∨ M = 7 := by omega
  have hV : V = 0 ∨ V = 1 ∨ V = 2 ∨ V = 3 := by omega
  rcases hM with rfl | rfl | rfl | rfl | rfl | rfl | rfl | rfl <;> rcases hV with rfl | rfl | rfl | rfl <;>
    first | (exact absurd rfl hl) | rfl
theorem st_a (M V j : Nat) (hM : M < 8) (hV : V < 4) (hj : j < 4) (hb : sbit M j = true) (hn : j ≠ V) :
    take (kst x0 x1 x2 x3 M V j) (up 10 0 j) = (kst x0 x1 x2 x3 M V (j + 1), if swa M V (j + 1) = [] then [sdat x0 x1 x2 x3 V true] else []) := by
  have hM : M = 0 ∨ M = 1 ∨ M = 2 ∨ M = 3 ∨ M = 4 ∨ M = 5 ∨ M = 6 ∨ M = 7 := by omega
  have hV : V = 0 ∨ V = 1 ∨ V = 2 ∨ V = 3 := by omega
  have hj : j = 0 ∨ j = 1 ∨ j = 2 ∨ j = 3 := by omega
  rcases hM with rfl | rfl | rfl | rfl | rfl | rfl | rfl | rfl <;> rcases hV with rfl | rfl | rfl | rfl <;> rcases hj with rfl | rfl | rfl | rfl <;>
    first | (exact absurd hb (by decide)) | (exact absurd rfl hn) | rfl
end
end W
end Go.Proofs.Ytadkpelcbnljbaa
