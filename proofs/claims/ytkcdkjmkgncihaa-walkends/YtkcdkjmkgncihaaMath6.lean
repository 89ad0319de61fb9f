/- Laws of the plain mirrors: fields packed, bit by bit: a field that lies across no other one is read back. -/
import Derived.Test.YtkcdkjmkgncihaaMath5
namespace Go.Proofs.Ytkcdkjmkgncihaa.W
open Go.RowKit
set_option linter.unusedVariables false

/-- Bit p of a word. -/
def tb (x : Int) (p : Nat) : Bool := x.toNat.testBit p
theorem tb_or (x y : Int) (p : Nat) (x0 : 0 ≤ x) (x1 : x < 4294967296) (y0 : 0 ≤ y) (y1 : y < 4294967296) : tb (bits .or .u32 x y) p = (tb x p || tb y p) := by
  obtain ⟨a, rfl⟩ := Int.eq_ofNat_of_zero_le x0
  obtain ⟨b, rfl⟩ := Int.eq_ofNat_of_zero_le y0
  rw [u32_or_nat a b (by omega) (by omega)]
  simp [tb]
theorem tb_and (x y : Int) (p : Nat) (x0 : 0 ≤ x) (x1 : x < 4294967296) (y0 : 0 ≤ y) (y1 : y < 4294967296) : tb (bits .and .u32 x y) p = (tb x p && tb y p) := by
  obtain ⟨a, rfl⟩ := Int.eq_ofNat_of_zero_le x0
  obtain ⟨b, rfl⟩ := Int.eq_ofNat_of_zero_le y0
  rw [u32_and_nat a b (by omega) (by omega)]
  simp [tb]
theorem or_lt (x y : Int) : 0 ≤ bits .or .u32 x y ∧ bits .or .u32 x y < 4294967296 := by
  unfold bits
  rw [IntKind.wrap_u32']
  omega
theorem and_lt (x y : Int) : 0 ≤ bits .and .u32 x y ∧ bits .and .u32 x y < 4294967296 := by
  unfold bits
  rw [IntKind.wrap_u32']
  omega
theorem or_zero (x : Int) (x0 : 0 ≤ x) (x1 : x < 4294967296) : bits .or .u32 x 0 = x := by
  obtain ⟨a, rfl⟩ := Int.eq_ofNat_of_zero_le x0
  have := u32_or_nat a 0 (by omega) (by decide)
  simpa using this
theorem tb_big (x : Int) (p : Nat) (x1 : x < 4294967296) (hp : 32 ≤ p) : tb x p = false := by
  unfold tb
  have := Nat.pow_le_pow_right (n := 2) (by decide) hp
  exact Nat.testBit_lt_two_pow (by omega)
/-- A field's bits where they lie; nothing, where it lies nowhere. -/
def placed (v low n : Int) : Int := bif within low n then place v low n else 0
theorem placed_lt (v low n : Int) : 0 ≤ placed v low n ∧ placed v low n < 4294967296 := by
  unfold placed
  cases within low n
  · simp
  · simp only [cond_true]; unfold place; omega
theorem pack_succ (L N V : Nat → Int) (k : Nat) (h0 : 0 ≤ pack L N V k) (h1 : pack L N V k < 4294967296) : bits .or .u32 (pack L N V k) (placed (V k) (L k) (N k)) = pack L N V (k + 1) := by
  rw [pack]
  unfold placed
  cases within (L k) (N k)
  · simp only [cond_false]; exact or_zero _ h0 h1
  · rfl
theorem pack_lt (L N V : Nat → Int) (k : Nat) : 0 ≤ pack L N V k ∧ pack L N V k < 4294967296 := by
  induction k with
  | zero => simp [pack]
  | succ k ih => rw [← pack_succ L N V k ih.1 ih.2]; exact or_lt _ _
theorem tb_pack (L N V : Nat → Int) (p k : Nat) : tb (pack L N V k) p = true ↔ ∃ j, j < k ∧ tb (placed (V j) (L j) (N j)) p = true := by
  induction k with
  | zero => simp [pack, tb]
  | succ k ih =>
    have h := pack_lt L N V k
    have g := placed_lt (V k) (L k) (N k)
    rw [← pack_succ L N V k h.1 h.2, tb_or _ _ p h.1 h.2 g.1 g.2, Bool.or_eq_true, ih]
    constructor
    · rintro (⟨j, hj, hb⟩ | hb)
      · exact ⟨j, by omega, hb⟩
      · exact ⟨k, by omega, hb⟩
    · rintro ⟨j, hj, hb⟩
      by_cases e : j = k
      · subst e; exact Or.inr hb
      · exact Or.inl ⟨j, by omega, hb⟩
theorem tb_placed (v low n : Int) (p : Nat) (v0 : 0 ≤ v) (v1 : v < 4294967296) (l0 : 0 ≤ low) (l1 : low ≤ 31) (n0 : 1 ≤ n) (hp : p < 32) :
    tb (placed v low n) p = (decide (low.toNat ≤ p ∧ p - low.toNat < min n.toNat 32) && tb v (p - low.toNat)) := by
  have hw : within low n = true := by simp [within, l0, l1, n0]
  unfold placed
  rw [hw, cond_true, place, lowest_eq n n0, low_and v _ (by omega) v0 v1]
  obtain ⟨a, rfl⟩ := Int.eq_ofNat_of_zero_le v0
  generalize min n.toNat 32 = m
  generalize low.toNat = l
  have e : ((a : Int) % 2 ^ m * 2 ^ l % 4294967296) = ((a % 2 ^ m * 2 ^ l % 2 ^ 32 : Nat) : Int) := by simp
  rw [e]
  unfold tb
  rw [Int.toNat_natCast, Int.toNat_natCast, Nat.testBit_mod_two_pow, Nat.testBit_mul_two_pow, Nat.testBit_mod_two_pow]
  by_cases h1 : l ≤ p
  · by_cases h2 : p - l < m
    · simp [hp, h1, h2]
    · simp [h2]
  · simp [h1]
theorem tb_placed_out (v low n : Int) (p : Nat) (h : low < 0 ∨ 31 < low ∨ n < 1) : tb (placed v low n) p = false := by
  have hw : within low n = false := by simp [within]; omega
  unfold placed
  rw [hw, cond_false]
  simp [tb]
theorem tb_left (v low : Int) (p : Nat) (v0 : 0 ≤ v) (l0 : 0 ≤ low) (l1 : low ≤ 31) (hp : p < 32) : tb (left v low) p = (decide (low.toNat ≤ p) && tb v (p - low.toNat)) := by
  unfold left
  rw [show low % 32 = low from by omega]
  obtain ⟨a, rfl⟩ := Int.eq_ofNat_of_zero_le v0
  generalize low.toNat = l
  have e : ((a : Int) * 2 ^ l % 4294967296) = ((a * 2 ^ l % 2 ^ 32 : Nat) : Int) := by simp
  rw [e]
  unfold tb
  rw [Int.toNat_natCast, Int.toNat_natCast, Nat.testBit_mod_two_pow, Nat.testBit_mul_two_pow]
  simp [hp]
theorem tb_all (q : Nat) (h : q < 32) : tb 4294967295 q = true := by
  unfold tb
  have : (4294967295 : Int).toNat = 2 ^ 32 - 1 := by decide
  rw [this, Nat.testBit_two_pow_sub_one]
  simpa using h
theorem bitsOf_ext (x y low n : Int) (x0 : 0 ≤ x) (x1 : x < 4294967296) (y0 : 0 ≤ y) (y1 : y < 4294967296) (l0 : 0 ≤ low) (l1 : low ≤ 31) (n0 : 1 ≤ n)
    (h : ∀ p, low.toNat ≤ p → p < 32 → p - low.toNat < min n.toNat 32 → tb x p = tb y p) : bitsOf x low n = bitsOf y low n := by
  rw [bitsOf_eq x low n x0 x1 l0 l1 n0, bitsOf_eq y low n y0 y1 l0 l1 n0]
  have hbx := tb_big x
  have hby := tb_big y
  obtain ⟨a, rfl⟩ := Int.eq_ofNat_of_zero_le x0
  obtain ⟨b, rfl⟩ := Int.eq_ofNat_of_zero_le y0
  generalize min n.toNat 32 = m at *
  generalize low.toNat = l at *
  have e : a / 2 ^ l % 2 ^ m = b / 2 ^ l % 2 ^ m := by
    apply Nat.eq_of_testBit_eq
    intro q
    rw [Nat.testBit_mod_two_pow, Nat.testBit_div_two_pow, Nat.testBit_mod_two_pow, Nat.testBit_div_two_pow]
    by_cases hq : q < m
    · by_cases hp : q + l < 32
      · have := h (q + l) (by omega) hp (by omega)
        simp only [tb, Int.toNat_natCast] at this
        rw [this]
      · have h1 := hbx (q + l) x1 (by omega)
        have h2 := hby (q + l) y1 (by omega)
        simp only [tb, Int.toNat_natCast] at h1 h2
        rw [h1, h2]
    · simp [hq]
  have := congrArg (Nat.cast : Nat → Int) e
  simpa using this
theorem read_back (L N V : Nat → Int) (len i : Nat) (hi : i < len) (hV : ∀ j, j < len → 0 ≤ V j ∧ V j < 4294967296) (l0 : 0 ≤ L i) (l1 : L i ≤ 31) (n0 : 1 ≤ N i) (n1 : N i ≤ 32)
    (hd : ∀ j, j < len → j ≠ i → bits .and .u32 (placed 4294967295 (L j) (N j)) (placed 4294967295 (L i) (N i)) = 0) :
    bitsOf (pack L N V len) (L i) (N i) = bitsOf (left (V i) (L i)) (L i) (N i) := by
  have hp := pack_lt L N V len
  have hl := left_lt (V i) (L i)
  refine bitsOf_ext _ _ _ _ hp.1 hp.2 hl.1 hl.2 l0 l1 n0 fun p g1 g2 g3 => ?_
  have hVi := hV i hi
  have e1 : tb (left (V i) (L i)) p = tb (V i) (p - (L i).toNat) := by rw [tb_left _ _ p hVi.1 l0 l1 g2]; simp [g1]
  have e2 : tb (placed (V i) (L i) (N i)) p = tb (V i) (p - (L i).toNat) := by rw [tb_placed _ _ _ p hVi.1 hVi.2 l0 l1 n0 g2]; simp [g1, g3]
  have e3 : tb (placed 4294967295 (L i) (N i)) p = true := by rw [tb_placed _ _ _ p (by decide) (by decide) l0 l1 n0 g2, tb_all _ (by omega)]; simp [g1, g3]
  rw [e1, ← e2, Bool.eq_iff_iff, tb_pack]
  constructor
  · rintro ⟨j, hj, hb⟩
    by_cases e : j = i
    · subst e; exact hb
    · exfalso
      have hz := hd j hj e
      have ha := placed_lt 4294967295 (L j) (N j)
      have hb' := placed_lt 4294967295 (L i) (N i)
      have ht := tb_and _ _ p ha.1 ha.2 hb'.1 hb'.2
      rw [hz, e3, Bool.and_true] at ht
      have hm : tb (placed 4294967295 (L j) (N j)) p = true := by
        by_cases ho : L j < 0 ∨ 31 < L j ∨ N j < 1
        · rw [tb_placed_out _ _ _ p ho] at hb; simp at hb
        · have hVj := hV j hj
          rw [tb_placed _ _ _ p hVj.1 hVj.2 (by omega) (by omega) (by omega) g2] at hb
          simp only [Bool.and_eq_true, decide_eq_true_eq] at hb
          rw [tb_placed _ _ _ p (by decide) (by decide) (by omega) (by omega) (by omega) g2, tb_all _ (by omega)]
          simp [hb.1]
      rw [hm] at ht
      simp [tb] at ht
  · intro hb
    exact ⟨i, hi, hb⟩
theorem placed_ref (v low n : Int) (v0 : 0 ≤ v) (v1 : v < 4294967296) (hw : within low n = true) : bitsOf v 0 n * 2 ^ low.toNat % 4294967296 = placed v low n := by
  have h3 : 0 ≤ low ∧ low ≤ 31 ∧ 1 ≤ n := by simpa [within] using hw
  unfold placed
  rw [hw, cond_true, place, bitsOf_eq v 0 n v0 v1 (by decide) (by decide) h3.2.2, lowest_eq n h3.2.2, low_and v _ (by omega) v0 v1]
  simp
end Go.Proofs.Ytkcdkjmkgncihaa.W
