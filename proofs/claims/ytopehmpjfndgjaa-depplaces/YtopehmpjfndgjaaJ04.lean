/- Texts in one: Math5, Math6, MathE, MathF, PlainI. -/
import Derived.Test.YtopehmpjfndgjaaJ03
/- Laws of the plain mirrors: a word is its bits packed again; a part of a part is a part; a part by shifts. -/
namespace Go.Proofs.Ytopehmpjfndgjaa.W
open Go.RowKit
set_option linter.unusedVariables false

theorem part_nat (x l n a k : Nat) (h : a + k ≤ n) : x / 2 ^ l % 2 ^ n / 2 ^ a % 2 ^ k = x / 2 ^ (l + a) % 2 ^ k := by
  apply Nat.eq_of_testBit_eq
  intro i
  simp only [Nat.testBit_mod_two_pow, Nat.testBit_div_two_pow]
  by_cases hi : i < k
  · have h2 : i + a < n := by omega
    rw [show i + a + l = i + (l + a) from by omega]
    simp [hi, h2]
  · simp [hi]
theorem shift_nat (x l n : Nat) (hn : 1 ≤ n) (h : l + n ≤ 32) : x * 2 ^ (32 - l - n) % 2 ^ 32 / 2 ^ (32 - n) = x / 2 ^ l % 2 ^ n := by
  apply Nat.eq_of_testBit_eq
  intro i
  simp only [Nat.testBit_mod_two_pow, Nat.testBit_div_two_pow, Nat.testBit_mul_two_pow]
  by_cases hi : i < n
  · have h1 : i + (32 - n) < 32 := by omega
    have h2 : 32 - l - n ≤ i + (32 - n) := by omega
    rw [show i + (32 - n) - (32 - l - n) = i + l from by omega]
    simp [hi, h1, h2]
  · have h1 : ¬ i + (32 - n) < 32 := by omega
    simp [hi, h1]
theorem part_part (x l n a k : Int) (x0 : 0 ≤ x) (x1 : x < 4294967296) (l0 : 0 ≤ l) (a0 : 0 ≤ a) (hla : l + a ≤ 31) (k1 : 1 ≤ k) (h : a + k ≤ n) (hn : n ≤ 32) :
    bitsOf (bitsOf x l n) a k = bitsOf x (l + a) k := by
  have hb : 0 ≤ bitsOf x l n ∧ bitsOf x l n < 4294967296 := by
    rw [bitsOf_eq x l n x0 x1 l0 (by omega) (by omega)]
    have hp := pow_le32 (min n.toNat 32) (by omega)
    have hq : (0 : Int) < 2 ^ (min n.toNat 32) := Int.pow_pos (by decide)
    have c : ((2 : Int) ^ (min n.toNat 32)) = ((2 ^ (min n.toNat 32) : Nat) : Int) := by simp
    refine ⟨Int.emod_nonneg _ (by omega), ?_⟩
    have := Int.emod_lt_of_pos (x / 2 ^ l.toNat) hq
    omega
  rw [bitsOf_eq _ a k hb.1 hb.2 a0 (by omega) k1, bitsOf_eq x l n x0 x1 l0 (by omega) (by omega), bitsOf_eq x (l + a) k x0 x1 (by omega) (by omega) k1]
  obtain ⟨X, rfl⟩ := Int.eq_ofNat_of_zero_le x0
  obtain ⟨L, rfl⟩ := Int.eq_ofNat_of_zero_le l0
  obtain ⟨A, rfl⟩ := Int.eq_ofNat_of_zero_le a0
  obtain ⟨K, rfl⟩ := Int.eq_ofNat_of_zero_le (show 0 ≤ k by omega)
  obtain ⟨M, rfl⟩ := Int.eq_ofNat_of_zero_le (show 0 ≤ n by omega)
  have e := part_nat X L M A K (by omega)
  simp only [Int.toNat_natCast]
  rw [show min M 32 = M from by omega, show min K 32 = K from by omega, show ((L : Int) + (A : Int)).toNat = L + A from by omega]
  have := congrArg (Nat.cast : Nat → Int) e
  simpa using this
theorem bits_shift (x l n : Int) (x0 : 0 ≤ x) (x1 : x < 4294967296) (l0 : 0 ≤ l) (n0 : 1 ≤ n) (h : l + n ≤ 32) (h2 : 1 ≤ l + n) (hn : n ≤ 31) :
    bitsOf x l n = right (left x (32 - l - n)) (32 - n) false := by
  by_cases hz : l = 0 ∧ n = 0
  · omega
  · have hl := left_lt x (32 - l - n)
    rw [bitsOf_eq x l n x0 x1 l0 (by omega) n0]
    unfold right
    rw [wide_f _ hl.1 hl.2]
    unfold left
    rw [show (32 - l - n) % 32 = 32 - l - n from by omega, show (32 - n) % 32 = 32 - n from by omega]
    obtain ⟨X, rfl⟩ := Int.eq_ofNat_of_zero_le x0
    obtain ⟨L, rfl⟩ := Int.eq_ofNat_of_zero_le l0
    obtain ⟨M, rfl⟩ := Int.eq_ofNat_of_zero_le (show 0 ≤ n by omega)
    have e := shift_nat X L M (by omega) (by omega)
    have e' := congrArg (Nat.cast : Nat → Int) e
    simp only [Int.toNat_natCast]
    rw [show min M 32 = M from by omega, show (32 - (L : Int) - (M : Int)).toNat = 32 - L - M from by omega, show (32 - (M : Int)).toNat = 32 - M from by omega]
    have e2 : (X : Int) * 2 ^ (32 - L - M) % 4294967296 / 2 ^ (32 - M) = (X : Int) / 2 ^ L % 2 ^ M := by simpa using e'
    rw [e2]
    have hp := pow_le32 M (by omega)
    have hq : (0 : Int) < 2 ^ M := Int.pow_pos (by decide)
    have c : ((2 : Int) ^ M) = ((2 ^ M : Nat) : Int) := by simp
    have g1 := Int.emod_lt_of_pos ((X : Int) / 2 ^ L) hq
    have g2 := Int.emod_nonneg ((X : Int) / 2 ^ L) (show ((2 : Int) ^ M) ≠ 0 by omega)
    omega

/-- A word's bits as fields, the highest first. -/
def bL (j : Nat) : Int := 31 - j
def bN (_ : Nat) : Int := 1
def bV (x : Int) (j : Nat) : Int := bitsOf x (31 - j) 1
def bcells (x : Int) : Nat → List Value
  | 0 => []
  | k + 1 => bcells x k ++ [.int .i64 (31 - k), .int .i64 1, .int .u32 (bitsOf x (31 - k) 1)]
theorem bcells_length (x : Int) (k : Nat) : (bcells x k).length = k * 3 := by
  induction k with
  | zero => rfl
  | succ k ih => rw [bcells, List.length_append, ih]; simp; omega
theorem bcells_get (x : Int) (k j : Nat) (h : j < k) : (bcells x k)[j * 3]? = some (.int .i64 (bL j)) ∧ (bcells x k)[j * 3 + 1]? = some (.int .i64 (bN j)) ∧ (bcells x k)[j * 3 + 2]? = some (.int .u32 (bV x j)) := by
  induction k with
  | zero => omega
  | succ k ih =>
    have hl := bcells_length x k
    rw [bcells]
    by_cases hj : j < k
    · have := ih hj
      rw [List.getElem?_append_left (by omega), List.getElem?_append_left (by omega), List.getElem?_append_left (by omega)]
      exact this
    · have : j = k := by omega
      subst this
      rw [List.getElem?_append_right (by omega), List.getElem?_append_right (by omega), List.getElem?_append_right (by omega), hl]
      simp [bL, bN, bV]
theorem bpack (x : Int) (x0 : 0 ≤ x) (x1 : x < 4294967296) (k : Nat) (hk : k ≤ 32) : pack bL bN (bV x) k = x / 2 ^ (32 - k) * 2 ^ (32 - k) := by
  induction k with
  | zero => simp only [pack, Nat.sub_zero]; omega
  | succ k ih =>
    have hw : within (bL k) (bN k) = true := by
      have h3 : 0 ≤ bL k ∧ bL k ≤ 31 ∧ 1 ≤ bN k := by unfold bL bN; omega
      simp [within, h3]
    rw [pack, hw, cond_true, ih (by omega)]
    have hb := bitsOf_eq x (31 - k) 1 x0 x1 (by omega) (by omega) (by omega)
    have hv : bV x k = x / 2 ^ (31 - k) % 2 := by
      unfold bV; rw [hb, show ((31 : Int) - (k : Int)).toNat = 31 - k from by omega]; simp
    have hv2 : 0 ≤ bV x k ∧ bV x k < 2 := by rw [hv]; omega
    have hpl : place (bV x k) (bL k) (bN k) = bV x k * 2 ^ (31 - k) := by
      unfold place
      rw [show lowest (bN k) = 1 from by kernel_rfl, and1 _ hv2.1 (by omega), show (bL k).toNat = 31 - k from by unfold bL; omega, show bV x k % 2 = bV x k from by omega]
      have hp := Nat.pow_le_pow_right (n := 2) (by decide) (show 31 - k ≤ 31 by omega)
      have c : ((2 : Int) ^ (31 - k)) = ((2 ^ (31 - k) : Nat) : Int) := by simp
      have hq : (0 : Int) ≤ 2 ^ (31 - k) := Int.pow_nonneg (by decide)
      rcases (show bV x k = 0 ∨ bV x k = 1 from by omega) with h | h
      · rw [h]; simp
      · rw [h]; omega
    rw [hpl, hv]
    have em : 32 - k = (31 - k) + 1 := by omega
    rw [show 32 - (k + 1) = 31 - k from by omega, em]
    generalize hm : 31 - k = m
    have hm31 : m ≤ 31 := by omega
    have hp := Nat.pow_le_pow_right (n := 2) (by decide) hm31
    have c : ((2 : Int) ^ m) = ((2 ^ m : Nat) : Int) := by simp
    have hq : (0 : Int) < 2 ^ m := Int.pow_pos (by decide)
    have hp2 : (2 : Int) ^ m ≤ 2147483648 := by omega
    have ep : (2 : Int) ^ (m + 1) = 2 ^ m * 2 := Int.pow_succ 2 m
    have hd : x / 2 ^ (m + 1) = x / 2 ^ m / 2 := by rw [ep, Int.ediv_ediv_of_nonneg (by omega)]
    have hx := Int.mul_ediv_add_emod x (2 ^ m)
    have hx2 := Int.emod_nonneg x (show ((2 : Int) ^ m) ≠ 0 by omega)
    have hy0 : 0 ≤ x / 2 ^ m := Int.ediv_nonneg x0 (by omega)
    have hmul : x / 2 ^ m * 2 ^ m ≤ x := by rw [Int.mul_comm]; omega
    have hsum : x / 2 ^ (m + 1) * 2 ^ (m + 1) + x / 2 ^ m % 2 * 2 ^ m = x / 2 ^ m * 2 ^ m := by
      rw [hd, ep, ← Int.mul_assoc, Int.mul_right_comm, ← Int.add_mul]
      congr 1
      omega
    have hle : x / 2 ^ m % 2 * 2 ^ m ≤ 2 ^ m ∧ 0 ≤ x / 2 ^ m % 2 * 2 ^ m := by
      rcases (show x / 2 ^ m % 2 = 0 ∨ x / 2 ^ m % 2 = 1 from by omega) with h | h
      · rw [h]; omega
      · rw [h]; omega
    have hz0 : 0 ≤ x / 2 ^ (m + 1) * 2 ^ (m + 1) := Int.mul_nonneg (by rw [hd]; omega) (by rw [ep]; omega)
    rw [← hsum]
    have := or_join (x / 2 ^ (m + 1) * 2 ^ (m + 1)) (x / 2 ^ m % 2 * 2 ^ m) (m + 1) hz0 (by omega) hle.2 (by rw [ep]; omega) (by omega) (Int.mul_emod_left _ _)
    rw [← this]
    obtain ⟨P, hP⟩ := Int.eq_ofNat_of_zero_le hz0
    obtain ⟨Q, hQ⟩ := Int.eq_ofNat_of_zero_le hle.2
    rw [hP, hQ, u32_or_nat P Q (by omega) (by omega), u32_or_nat Q P (by omega) (by omega), Nat.or_comm]
theorem bpack_all (x : Int) (x0 : 0 ≤ x) (x1 : x < 4294967296) : pack bL bN (bV x) 32 = x := by
  rw [bpack x x0 x1 32 (Nat.le_refl _)]; simp
end Go.Proofs.Ytopehmpjfndgjaa.W

/- Laws of the plain mirrors: fields packed, bit by bit: a field that lies across no other one is read back. -/
namespace Go.Proofs.Ytopehmpjfndgjaa.W
open Go.RowKit
set_option linter.unusedVariables false

/-- Bit p of a word. -/
def tb (x : Int) (p : Nat) : Bool := x.toNat.testBit p
theorem tb_or (x y : Int) (p : Nat) (x0 : 0 ≤ x) (x1 : x < 4294967296) (y0 : 0 ≤ y) (y1 : y < 4294967296) : tb (bits .or .u32 x y) p = (tb x p || tb y p) := by
  obtain ⟨a, rfl⟩ := Int.eq_ofNat_of_zero_le x0
  obtain ⟨b, rfl⟩ := Int.eq_ofNat_of_zero_le y0
  rw [u32_or_nat a b (by omega) (by omega)]
  simp [tb]
theorem tb_and (x y : Int) (p : Nat) (x0 : 0 ≤ x) (x1 : x < 4294967296) (y0 : 0 ≤ y) (y1 : y < 4294967296) : tb (bits .and .u32 x y) p = (tb x p && tb y p) := by
  obtain ⟨a, rfl⟩ := Int.eq_ofNat_of_zero_le x0
  obtain ⟨b, rfl⟩ := Int.eq_ofNat_of_zero_le y0
  rw [u32_and_nat a b (by omega) (by omega)]
  simp [tb]
theorem or_lt (x y : Int) : 0 ≤ bits .or .u32 x y ∧ bits .or .u32 x y < 4294967296 := by
  unfold bits
  rw [IntKind.wrap_u32']
  omega
theorem and_lt (x y : Int) : 0 ≤ bits .and .u32 x y ∧ bits .and .u32 x y < 4294967296 := by
  unfold bits
  rw [IntKind.wrap_u32']
  omega
theorem or_zero (x : Int) (x0 : 0 ≤ x) (x1 : x < 4294967296) : bits .or .u32 x 0 = x := by
  obtain ⟨a, rfl⟩ := Int.eq_ofNat_of_zero_le x0
  have := u32_or_nat a 0 (by omega) (by decide)
  simpa using this
theorem tb_big (x : Int) (p : Nat) (x1 : x < 4294967296) (hp : 32 ≤ p) : tb x p = false := by
  unfold tb
  have := Nat.pow_le_pow_right (n := 2) (by decide) hp
  exact Nat.testBit_lt_two_pow (by omega)
/-- A field's bits where they lie; nothing, where it lies nowhere. -/
def placed (v low n : Int) : Int := bif within low n then place v low n else 0
theorem placed_lt (v low n : Int) : 0 ≤ placed v low n ∧ placed v low n < 4294967296 := by
  unfold placed
  cases within low n
  · simp
  · simp only [cond_true]; unfold place; omega
theorem pack_succ (L N V : Nat → Int) (k : Nat) (h0 : 0 ≤ pack L N V k) (h1 : pack L N V k < 4294967296) : bits .or .u32 (pack L N V k) (placed (V k) (L k) (N k)) = pack L N V (k + 1) := by
  rw [pack]
  unfold placed
  cases within (L k) (N k)
  · simp only [cond_false]; exact or_zero _ h0 h1
  · rfl
theorem pack_lt (L N V : Nat → Int) (k : Nat) : 0 ≤ pack L N V k ∧ pack L N V k < 4294967296 := by
  induction k with
  | zero => simp [pack]
  | succ k ih => rw [← pack_succ L N V k ih.1 ih.2]; exact or_lt _ _
theorem tb_pack (L N V : Nat → Int) (p k : Nat) : tb (pack L N V k) p = true ↔ ∃ j, j < k ∧ tb (placed (V j) (L j) (N j)) p = true := by
  induction k with
  | zero => simp [pack, tb]
  | succ k ih =>
    have h := pack_lt L N V k
    have g := placed_lt (V k) (L k) (N k)
    rw [← pack_succ L N V k h.1 h.2, tb_or _ _ p h.1 h.2 g.1 g.2, Bool.or_eq_true, ih]
    constructor
    · rintro (⟨j, hj, hb⟩ | hb)
      · exact ⟨j, by omega, hb⟩
      · exact ⟨k, by omega, hb⟩
    · rintro ⟨j, hj, hb⟩
      by_cases e : j = k
      · subst e; exact Or.inr hb
      · exact Or.inl ⟨j, by omega, hb⟩
theorem tb_placed (v low n : Int) (p : Nat) (v0 : 0 ≤ v) (v1 : v < 4294967296) (l0 : 0 ≤ low) (l1 : low ≤ 31) (n0 : 1 ≤ n) (hp : p < 32) :
    tb (placed v low n) p = (decide (low.toNat ≤ p ∧ p - low.toNat < min n.toNat 32) && tb v (p - low.toNat)) := by
  have hw : within low n = true := by simp [within, l0, l1, n0]
  unfold placed
  rw [hw, cond_true, place, lowest_eq n n0, low_and v _ (by omega) v0 v1]
  obtain ⟨a, rfl⟩ := Int.eq_ofNat_of_zero_le v0
  generalize min n.toNat 32 = m
  generalize low.toNat = l
  have e : ((a : Int) % 2 ^ m * 2 ^ l % 4294967296) = ((a % 2 ^ m * 2 ^ l % 2 ^ 32 : Nat) : Int) := by simp
  rw [e]
  unfold tb
  rw [Int.toNat_natCast, Int.toNat_natCast, Nat.testBit_mod_two_pow, Nat.testBit_mul_two_pow, Nat.testBit_mod_two_pow]
  by_cases h1 : l ≤ p
  · by_cases h2 : p - l < m
    · simp [hp, h1, h2]
    · simp [h2]
  · simp [h1]
theorem tb_placed_out (v low n : Int) (p : Nat) (h : low < 0 ∨ 31 < low ∨ n < 1) : tb (placed v low n) p = false := by
  have hw : within low n = false := by simp [within]; omega
  unfold placed
  rw [hw, cond_false]
  simp [tb]
theorem tb_left (v low : Int) (p : Nat) (v0 : 0 ≤ v) (l0 : 0 ≤ low) (l1 : low ≤ 31) (hp : p < 32) : tb (left v low) p = (decide (low.toNat ≤ p) && tb v (p - low.toNat)) := by
  unfold left
  rw [show low % 32 = low from by omega]
  obtain ⟨a, rfl⟩ := Int.eq_ofNat_of_zero_le v0
  generalize low.toNat = l
  have e : ((a : Int) * 2 ^ l % 4294967296) = ((a * 2 ^ l % 2 ^ 32 : Nat) : Int) := by simp
  rw [e]
  unfold tb
  rw [Int.toNat_natCast, Int.toNat_natCast, Nat.testBit_mod_two_pow, Nat.testBit_mul_two_pow]
  simp [hp]
theorem tb_all (q : Nat) (h : q < 32) : tb 4294967295 q = true := by
  unfold tb
  have : (4294967295 : Int).toNat = 2 ^ 32 - 1 := by decide
  rw [this, Nat.testBit_two_pow_sub_one]
  simpa using h
theorem bitsOf_ext (x y low n : Int) (x0 : 0 ≤ x) (x1 : x < 4294967296) (y0 : 0 ≤ y) (y1 : y < 4294967296) (l0 : 0 ≤ low) (l1 : low ≤ 31) (n0 : 1 ≤ n)
    (h : ∀ p, low.toNat ≤ p → p < 32 → p - low.toNat < min n.toNat 32 → tb x p = tb y p) : bitsOf x low n = bitsOf y low n := by
  rw [bitsOf_eq x low n x0 x1 l0 l1 n0, bitsOf_eq y low n y0 y1 l0 l1 n0]
  have hbx := tb_big x
  have hby := tb_big y
  obtain ⟨a, rfl⟩ := Int.eq_ofNat_of_zero_le x0
  obtain ⟨b, rfl⟩ := Int.eq_ofNat_of_zero_le y0
  generalize min n.toNat 32 = m at *
  generalize low.toNat = l at *
  have e : a / 2 ^ l % 2 ^ m = b / 2 ^ l % 2 ^ m := by
    apply Nat.eq_of_testBit_eq
    intro q
    rw [Nat.testBit_mod_two_pow, Nat.testBit_div_two_pow, Nat.testBit_mod_two_pow, Nat.testBit_div_two_pow]
    by_cases hq : q < m
    · by_cases hp : q + l < 32
      · have := h (q + l) (by omega) hp (by omega)
        simp only [tb, Int.toNat_natCast] at this
        rw [this]
      · have h1 := hbx (q + l) x1 (by omega)
        have h2 := hby (q + l) y1 (by omega)
        simp only [tb, Int.toNat_natCast] at h1 h2
        rw [h1, h2]
    · simp [hq]
  have := congrArg (Nat.cast : Nat → Int) e
  simpa using this
theorem read_back (L N V : Nat → Int) (len i : Nat) (hi : i < len) (hV : ∀ j, j < len → 0 ≤ V j ∧ V j < 4294967296) (l0 : 0 ≤ L i) (l1 : L i ≤ 31) (n0 : 1 ≤ N i) (n1 : N i ≤ 32)
    (hd : ∀ j, j < len → j ≠ i → bits .and .u32 (placed 4294967295 (L j) (N j)) (placed 4294967295 (L i) (N i)) = 0) :
    bitsOf (pack L N V len) (L i) (N i) = bitsOf (left (V i) (L i)) (L i) (N i) := by
  have hp := pack_lt L N V len
  have hl := left_lt (V i) (L i)
  refine bitsOf_ext _ _ _ _ hp.1 hp.2 hl.1 hl.2 l0 l1 n0 fun p g1 g2 g3 => ?_
  have hVi := hV i hi
  have e1 : tb (left (V i) (L i)) p = tb (V i) (p - (L i).toNat) := by rw [tb_left _ _ p hVi.1 l0 l1 g2]; simp [g1]
  have e2 : tb (placed (V i) (L i) (N i)) p = tb (V i) (p - (L i).toNat) := by rw [tb_placed _ _ _ p hVi.1 hVi.2 l0 l1 n0 g2]; simp [g1, g3]
  have e3 : tb (placed 4294967295 (L i) (N i)) p = true := by rw [tb_placed _ _ _ p (by decide) (by decide) l0 l1 n0 g2, tb_all _ (by omega)]; simp [g1, g3]
  rw [e1, ← e2, Bool.eq_iff_iff, tb_pack]
  constructor
  · rintro ⟨j, hj, hb⟩
    by_cases e : j = i
    · subst e; exact hb
    · exfalso
      have hz := hd j hj e
      have ha := placed_lt 4294967295 (L j) (N j)
      have hb' := placed_lt 4294967295 (L i) (N i)
      have ht := tb_and _ _ p ha.1 ha.2 hb'.1 hb'.2
      rw [hz, e3, Bool.and_true] at ht
      have hm : tb (placed 4294967295 (L j) (N j)) p = true := by
        by_cases ho : L j < 0 ∨ 31 < L j ∨ N j < 1
        · rw [tb_placed_out _ _ _ p ho] at hb; simp at hb
        · have hVj := hV j hj
          rw [tb_placed _ _ _ p hVj.1 hVj.2 (by omega) (by omega) (by omega) g2] at hb
          simp only [Bool.and_eq_true, decide_eq_true_eq] at hb
          rw [tb_placed _ _ _ p (by decide) (by decide) (by omega) (by omega) (by omega) g2, tb_all _ (by omega)]
          simp [hb.1]
      rw [hm] at ht
      simp [tb] at ht
  · intro hb
    exact ⟨i, hi, hb⟩
theorem placed_ref (v low n : Int) (v0 : 0 ≤ v) (v1 : v < 4294967296) (hw : within low n = true) : bitsOf v 0 n * 2 ^ low.toNat % 4294967296 = placed v low n := by
  have h3 : 0 ≤ low ∧ low ≤ 31 ∧ 1 ≤ n := by simpa [within] using hw
  unfold placed
  rw [hw, cond_true, place, bitsOf_eq v 0 n v0 v1 (by decide) (by decide) h3.2.2, lowest_eq n h3.2.2, low_and v _ (by omega) v0 v1]
  simp
end Go.Proofs.Ytopehmpjfndgjaa.W

/- Mirrors of package enc on numbers, and their laws: which bit of an immediate is which bit of its word. -/
namespace Go.Proofs.Ytopehmpjfndgjaa.W
open Go.RowKit
set_option linter.unusedVariables false

/-- n bits of x from bit low on, laid from bit to on. -/
def moved (x low to n : Int) : Int := pack (fun _ => to) (fun _ => n) (fun _ => bitsOf x low n) 1
/-- Pieces moved one after the other. -/
def raw (A B C : Nat → Int) (x : Int) : Nat → Int
  | 0 => 0
  | k + 1 => bits .or .u32 (raw A B C x k) (moved x (A k) (B k) (C k))
/-- Where the bits of an immediate lie in a word, and in it. -/
def pieces (f : Int) : List (Int × Int × Int) :=
  if f = 73 then [(20, 0, 12)] else if f = 83 then [(25, 5, 7), (7, 0, 5)] else if f = 66 then [(31, 12, 1), (7, 11, 1), (25, 5, 6), (8, 1, 4)]
  else if f = 85 then [(12, 12, 20)] else if f = 74 then [(31, 20, 1), (12, 12, 8), (20, 11, 1), (21, 1, 10)] else []
def wid (f : Int) : Int := if f = 73 then 12 else if f = 83 then 12 else if f = 66 then 13 else if f = 85 then 32 else if f = 74 then 21 else 0
def pW (f : Int) (j : Nat) : Int := ((pieces f).getD j (0, 0, 0)).1
def pI (f : Int) (j : Nat) : Int := ((pieces f).getD j (0, 0, 0)).2.1
def pN (f : Int) (j : Nat) : Int := ((pieces f).getD j (0, 0, 0)).2.2
def imm (f x : Int) : Int := sgn (raw (pW f) (pI f) (pN f) x 4) (wid f)
def layw (f v : Int) : Int := raw (pI f) (pW f) (pN f) v 4
def layB (f v : Int) : Bool := !(wid f == 0) && (imm f (layw f v) == v)
def layV (f v : Int) : Int := bif layB f v then layw f v else 0
/-- The formats that have an immediate. -/
def isF (f : Int) : Prop := f = 73 ∨ f = 83 ∨ f = 66 ∨ f = 85 ∨ f = 74

theorem zero_or (x : Int) (x0 : 0 ≤ x) (x1 : x < 4294967296) : bits .or .u32 0 x = x := by
  obtain ⟨a, rfl⟩ := Int.eq_ofNat_of_zero_le x0
  have := u32_or_nat 0 a (by decide) (by omega)
  simpa using this
theorem xor_lt (x y : Int) : 0 ≤ bits .xor .u32 x y ∧ bits .xor .u32 x y < 4294967296 := by
  unfold bits
  rw [IntKind.wrap_u32']
  omega
theorem tb_xor (x y : Int) (p : Nat) (x0 : 0 ≤ x) (x1 : x < 4294967296) (y0 : 0 ≤ y) (y1 : y < 4294967296) : tb (bits .xor .u32 x y) p = (tb x p ^^ tb y p) := by
  obtain ⟨a, rfl⟩ := Int.eq_ofNat_of_zero_le x0
  obtain ⟨b, rfl⟩ := Int.eq_ofNat_of_zero_le y0
  rw [u32_xor_nat a b (by omega) (by omega)]
  simp [tb]
theorem moved_placed (x low to n : Int) : moved x low to n = placed (bitsOf x low n) to n := by
  have h := placed_lt (bitsOf x low n) to n
  have := pack_succ (fun _ => to) (fun _ => n) (fun _ => bitsOf x low n) 0 (by simp [pack]) (by simp [pack])
  unfold moved
  rw [← this]
  exact zero_or _ h.1 h.2
theorem moved_lt (x low to n : Int) : 0 ≤ moved x low to n ∧ moved x low to n < 4294967296 := by
  rw [moved_placed]; exact placed_lt _ _ _
theorem raw_lt (A B C : Nat → Int) (x : Int) (k : Nat) : 0 ≤ raw A B C x k ∧ raw A B C x k < 4294967296 := by
  cases k with
  | zero => simp [raw]
  | succ k => rw [raw]; exact or_lt _ _
theorem pack_raw (A B C : Nat → Int) (x : Int) (k : Nat) : pack B C (fun j => bitsOf x (A j) (C j)) k = raw A B C x k := by
  induction k with
  | zero => rfl
  | succ k ih =>
    have h := pack_lt B C (fun j => bitsOf x (A j) (C j)) k
    rw [← pack_succ B C _ k h.1 h.2, raw, ih, moved_placed]
theorem bitsOf_lt (x low n : Int) : 0 ≤ bitsOf x low n ∧ bitsOf x low n < 4294967296 := by
  unfold bitsOf
  cases within low n
  · simp
  · exact and_lt _ _
theorem tb_bitsOf (x low n : Int) (p : Nat) (x0 : 0 ≤ x) (x1 : x < 4294967296) (l0 : 0 ≤ low) (l1 : low ≤ 31) (n0 : 1 ≤ n) :
    tb (bitsOf x low n) p = (decide (p < min n.toNat 32) && tb x (p + low.toNat)) := by
  rw [bitsOf_eq x low n x0 x1 l0 l1 n0]
  obtain ⟨a, rfl⟩ := Int.eq_ofNat_of_zero_le x0
  generalize min n.toNat 32 = m
  generalize low.toNat = l
  have e : ((a : Int) / 2 ^ l % 2 ^ m) = ((a / 2 ^ l % 2 ^ m : Nat) : Int) := by simp
  rw [e]
  unfold tb
  rw [Int.toNat_natCast, Int.toNat_natCast, Nat.testBit_mod_two_pow, Nat.testBit_div_two_pow]
theorem tb_moved (x low to n : Int) (p : Nat) (x0 : 0 ≤ x) (x1 : x < 4294967296) (l0 : 0 ≤ low) (l1 : low ≤ 31) (t0 : 0 ≤ to) (t1 : to ≤ 31) (n1 : n ≤ 32) (hp : p < 32) :
    tb (moved x low to n) p = (decide (to.toNat ≤ p ∧ p - to.toNat < n.toNat) && tb x (p - to.toNat + low.toNat)) := by
  rw [moved_placed]
  by_cases n0 : 1 ≤ n
  · have h := bitsOf_lt x low n
    rw [tb_placed _ to n p h.1 h.2 t0 t1 n0 hp, tb_bitsOf x low n _ x0 x1 l0 l1 n0, show min n.toNat 32 = n.toNat from by omega]
    by_cases h1 : to.toNat ≤ p
    · by_cases h2 : p - to.toNat < n.toNat
      · simp [h1, h2]
      · simp [h2]
    · simp [h1]
  · rw [tb_placed_out _ _ _ _ (by omega), show n.toNat = 0 from by omega]
    simp
/-- The bits of x that come to bit p. -/
def wire (A B C : Nat → Int) (p : Nat) : Nat → List Nat
  | 0 => []
  | k + 1 => wire A B C p k ++ (if (B k).toNat ≤ p ∧ p - (B k).toNat < (C k).toNat then [p - (B k).toNat + (A k).toNat] else [])
def fits (A B C : Nat → Int) (k : Nat) : Bool := (List.range k).all fun j => decide (0 ≤ A j ∧ A j ≤ 31 ∧ 0 ≤ B j ∧ B j ≤ 31 ∧ C j ≤ 32)
theorem fits_at {A B C : Nat → Int} {k j : Nat} (h : fits A B C k = true) (hj : j < k) : 0 ≤ A j ∧ A j ≤ 31 ∧ 0 ≤ B j ∧ B j ≤ 31 ∧ C j ≤ 32 := by
  have := List.all_eq_true.1 h j (List.mem_range.2 hj)
  simpa using this
theorem tb_raw (A B C : Nat → Int) (x : Int) (m : Nat) (hf : fits A B C m = true) (p : Nat) (x0 : 0 ≤ x) (x1 : x < 4294967296) (hp : p < 32) :
    ∀ k, k ≤ m → tb (raw A B C x k) p = (wire A B C p k).any (tb x) := by
  intro k
  induction k with
  | zero => intro _; simp [raw, wire, tb]
  | succ k ih =>
    intro hk
    have h := raw_lt A B C x k
    have g := moved_lt x (A k) (B k) (C k)
    obtain ⟨h1, h2, h3, h4, h5⟩ := fits_at hf (show k < m by omega)
    rw [raw, tb_or _ _ p h.1 h.2 g.1 g.2, ih (by omega), tb_moved x _ _ _ p x0 x1 h1 h2 h3 h4 h5 hp, wire, List.any_append]
    by_cases hc : (B k).toNat ≤ p ∧ p - (B k).toNat < (C k).toNat
    · simp [hc]
    · rw [if_neg hc, decide_eq_false hc]; simp
theorem tb_sgn (x n : Int) (p : Nat) (x0 : 0 ≤ x) (x1 : x < 4294967296) (n0 : 1 ≤ n) (n1 : n ≤ 32) (hp : p < 32) : tb (sgn x n) p = tb x (min p (n.toNat - 1)) := by
  have hs := sgn_lt x n x0 x1
  have low : ∀ q, q < n.toNat → tb (sgn x n) q = tb x q := by
    intro q hq
    have e := congrArg (fun z => tb z q) (sgn_low x n x0 x1 n0 n1)
    rw [tb_bitsOf _ 0 n q hs.1 hs.2 (by omega) (by omega) n0, tb_bitsOf x 0 n q x0 x1 (by omega) (by omega) n0] at e
    have : q < min n.toNat 32 := by omega
    simpa [this] using e
  by_cases h : p < n.toNat
  · rw [low p h, show min p (n.toNat - 1) = p from by omega]
  · rw [show min p (n.toNat - 1) = n.toNat - 1 from by omega, ← low (n.toNat - 1) (by omega)]
    have e := sgn_top x (n - 1) p x0 x1 (by omega) (by omega) (by omega) (by omega)
    rw [show n - 1 + 1 = n from by omega] at e
    have e2 := congrArg (fun z => tb z 0) e
    rw [tb_bitsOf _ p 1 0 hs.1 hs.2 (by omega) (by omega) (by omega), tb_bitsOf _ (n - 1) 1 0 hs.1 hs.2 (by omega) (by omega) (by omega)] at e2
    simp at e2
    exact e2
theorem eq_of_tb (x y : Int) (x0 : 0 ≤ x) (x1 : x < 4294967296) (y0 : 0 ≤ y) (y1 : y < 4294967296) (h : ∀ p, p < 32 → tb x p = tb y p) : x = y := by
  have : x.toNat = y.toNat := by
    apply Nat.eq_of_testBit_eq
    intro p
    by_cases hp : p < 32
    · exact h p hp
    · have a := tb_big x p x1 (by omega)
      have b := tb_big y p y1 (by omega)
      unfold tb at a b
      rw [a, b]
  omega
theorem imm_lt (f x : Int) : 0 ≤ imm f x ∧ imm f x < 4294967296 := by
  have h := raw_lt (pW f) (pI f) (pN f) x 4
  exact sgn_lt _ _ h.1 h.2
def iwire (f : Int) (p : Nat) : List Nat := wire (pW f) (pI f) (pN f) (min p ((wid f).toNat - 1)) 4
def lwire (f : Int) (p : Nat) : List Nat := wire (pI f) (pW f) (pN f) p 4
theorem fits_i (f : Int) (h : isF f) : fits (pW f) (pI f) (pN f) 4 = true := by
  rcases h with rfl | rfl | rfl | rfl | rfl <;> decide +kernel
theorem fits_l (f : Int) (h : isF f) : fits (pI f) (pW f) (pN f) 4 = true := by
  rcases h with rfl | rfl | rfl | rfl | rfl <;> decide +kernel
theorem wid_in (f : Int) (h : isF f) : 1 ≤ wid f ∧ wid f ≤ 32 := by
  rcases h with rfl | rfl | rfl | rfl | rfl <;> decide +kernel
theorem tb_imm (f x : Int) (p : Nat) (hf : isF f) (x0 : 0 ≤ x) (x1 : x < 4294967296) (hp : p < 32) : tb (imm f x) p = (iwire f p).any (tb x) := by
  have h := raw_lt (pW f) (pI f) (pN f) x 4
  have hw := wid_in f hf
  unfold imm iwire
  rw [tb_sgn _ _ p h.1 h.2 hw.1 hw.2 hp]
  exact tb_raw _ _ _ x 4 (fits_i f hf) _ x0 x1 (by omega) 4 (Nat.le_refl _)
theorem tb_layw (f v : Int) (p : Nat) (hf : isF f) (x0 : 0 ≤ v) (x1 : v < 4294967296) (hp : p < 32) : tb (layw f v) p = (lwire f p).any (tb v) :=
  tb_raw _ _ _ v 4 (fits_l f hf) _ x0 x1 hp 4 (Nat.le_refl _)
/-- The bits of a word that an immediate has. -/
def mask (f : Int) : Int := if f = 73 then 4293918720 else if f = 83 then 4261416832 else if f = 66 then 4261416832 else 4294963200
theorem mask_lt (f : Int) : 0 ≤ mask f ∧ mask f < 4294967296 := by
  unfold mask; repeat' split
  all_goals decide
def check (f : Int) : Bool := (List.range 32).all fun p => (lwire f p).all (fun q => decide (q < 32)) && decide ((lwire f p).flatMap (iwire f) = if tb (mask f) p then [p] else []) && (iwire f p).all (fun q => decide (q < 32) && tb (mask f) q) && decide ((iwire f p).length ≤ 1)
theorem check_all (f : Int) (h : isF f) : check f = true := by
  rcases h with rfl | rfl | rfl | rfl | rfl <;> decide +kernel
theorem check_at (f : Int) (h : isF f) (p : Nat) (hp : p < 32) : (∀ q ∈ lwire f p, q < 32) ∧ (lwire f p).flatMap (iwire f) = (if tb (mask f) p then [p] else []) ∧ (∀ q ∈ iwire f p, q < 32 ∧ tb (mask f) q = true) ∧ (iwire f p).length ≤ 1 := by
  have := List.all_eq_true.1 (check_all f h) p (List.mem_range.2 hp)
  simp only [Bool.and_eq_true, List.all_eq_true, decide_eq_true_eq] at this
  obtain ⟨⟨⟨a, b⟩, c⟩, d⟩ := this
  exact ⟨a, b, c, d⟩
theorem any_congr' {l : List Nat} {g h : Nat → Bool} (e : ∀ q ∈ l, g q = h q) : l.any g = l.any h := by
  induction l with
  | nil => rfl
  | cons a l ih =>
    simp only [List.any_cons]
    rw [e a (by simp), ih (fun q hq => e q (by simp [hq]))]
theorem lay_imm (f x : Int) (hf : isF f) (x0 : 0 ≤ x) (x1 : x < 4294967296) : layw f (imm f x) = bits .and .u32 x (mask f) := by
  have hi := imm_lt f x
  have hl := raw_lt (pI f) (pW f) (pN f) (imm f x) 4
  have ha := and_lt x (mask f)
  have hm := mask_lt f
  refine eq_of_tb _ _ hl.1 hl.2 ha.1 ha.2 fun p hp => ?_
  obtain ⟨c1, c2, c3, c4⟩ := check_at f hf p hp
  rw [tb_layw f _ p hf hi.1 hi.2 hp, tb_and _ _ p x0 x1 hm.1 hm.2, any_congr' (h := fun q => (iwire f q).any (tb x)) (fun q hq => tb_imm f x q hf x0 x1 (c1 q hq))]
  rw [← List.any_flatMap, c2]
  cases tb (mask f) p <;> simp
theorem imm_and (f x : Int) (hf : isF f) (x0 : 0 ≤ x) (x1 : x < 4294967296) : imm f (bits .and .u32 x (mask f)) = imm f x := by
  have hi := imm_lt f x
  have ha := and_lt x (mask f)
  have hj := imm_lt f (bits .and .u32 x (mask f))
  have hm := mask_lt f
  refine eq_of_tb _ _ hj.1 hj.2 hi.1 hi.2 fun p hp => ?_
  obtain ⟨c1, c2, c3, c4⟩ := check_at f hf p hp
  rw [tb_imm f _ p hf ha.1 ha.2 hp, tb_imm f _ p hf x0 x1 hp]
  exact any_congr' fun q hq => by rw [tb_and _ _ q x0 x1 hm.1 hm.2, (c3 q hq).2, Bool.and_true]
theorem imm_off (f x y : Int) (hf : isF f) (y0 : 0 ≤ y) (y1 : y < 4294967296) (h : ∀ q, tb y q = true → tb (mask f) q = false) : imm f y = 0 := by
  have hi := imm_lt f y
  refine eq_of_tb _ _ hi.1 hi.2 (by decide) (by decide) fun p hp => ?_
  obtain ⟨c1, c2, c3, c4⟩ := check_at f hf p hp
  rw [tb_imm f _ p hf y0 y1 hp, show tb 0 p = false from by simp [tb]]
  rw [List.any_eq_false]
  intro q hq ht
  have a := h q ht
  rw [(c3 q hq).2] at a
  cases a
theorem imm_or (f x y : Int) (hf : isF f) (x0 : 0 ≤ x) (x1 : x < 4294967296) (y0 : 0 ≤ y) (y1 : y < 4294967296) : imm f (bits .or .u32 x y) = bits .or .u32 (imm f x) (imm f y) := by
  have h1 := imm_lt f x
  have h2 := imm_lt f y
  have h3 := imm_lt f (bits .or .u32 x y)
  have h4 := or_lt (imm f x) (imm f y)
  have h5 := or_lt x y
  refine eq_of_tb _ _ h3.1 h3.2 h4.1 h4.2 fun p hp => ?_
  obtain ⟨c1, c2, c3, c4⟩ := check_at f hf p hp
  rw [tb_or _ _ p h1.1 h1.2 h2.1 h2.2, tb_imm f _ p hf h5.1 h5.2 hp, tb_imm f x p hf x0 x1 hp, tb_imm f y p hf y0 y1 hp]
  match hl : iwire f p, c4 with
  | [], _ => simp
  | [q], _ => simp [tb_or _ _ q x0 x1 y0 y1]
theorem imm_xor (f x y : Int) (hf : isF f) (x0 : 0 ≤ x) (x1 : x < 4294967296) (y0 : 0 ≤ y) (y1 : y < 4294967296) : imm f (bits .xor .u32 x y) = bits .xor .u32 (imm f x) (imm f y) := by
  have h1 := imm_lt f x
  have h2 := imm_lt f y
  have h3 := imm_lt f (bits .xor .u32 x y)
  have h4 := xor_lt (imm f x) (imm f y)
  have h5 := xor_lt x y
  refine eq_of_tb _ _ h3.1 h3.2 h4.1 h4.2 fun p hp => ?_
  obtain ⟨c1, c2, c3, c4⟩ := check_at f hf p hp
  rw [tb_xor _ _ p h1.1 h1.2 h2.1 h2.2, tb_imm f _ p hf h5.1 h5.2 hp, tb_imm f x p hf x0 x1 hp, tb_imm f y p hf y0 y1 hp]
  match hl : iwire f p, c4 with
  | [], _ => simp
  | [q], _ => simp [tb_xor _ _ q x0 x1 y0 y1]
theorem lay_back (f x : Int) (hf : isF f) (x0 : 0 ≤ x) (x1 : x < 4294967296) : layB f (imm f x) = true := by
  have hw := wid_in f hf
  unfold layB
  rw [lay_imm f x hf x0 x1, imm_and f x hf x0 x1]
  have : (wid f == 0) = false := by
    have : ¬ wid f = 0 := by omega
    simpa using this
  simp [this]
/-- The fields that all words have. -/
def hL (j : Nat) : Int := [0, 7, 12, 15, 20, 25].getD j 0
def hN (j : Nat) : Int := [7, 5, 3, 5, 5, 7].getD j 0
theorem join_split (x : Int) (x0 : 0 ≤ x) (x1 : x < 4294967296) : pack hL hN (fun j => bitsOf x (hL j) (hN j)) 6 = x := by
  rw [pack_raw hL hL hN x 6]
  have h := raw_lt hL hL hN x 6
  refine eq_of_tb _ _ h.1 h.2 x0 x1 fun p hp => ?_
  rw [tb_raw hL hL hN x 6 (by decide +kernel) p x0 x1 hp 6 (Nat.le_refl _)]
  have : wire hL hL hN p 6 = [p] := by
    have hc : ((List.range 32).all fun p => decide (wire hL hL hN p 6 = [p])) = true := by decide +kernel
    have := List.all_eq_true.1 hc p (List.mem_range.2 hp)
    simpa using this
  simp [this]
theorem apart : ((List.range 6).all fun i => (List.range 6).all fun j => decide (j = i) || decide (bits .and .u32 (placed 4294967295 (hL j) (hN j)) (placed 4294967295 (hL i) (hN i)) = 0)) = true := by decide +kernel
theorem split_join (V : Nat → Int) (hV : ∀ j, j < 6 → 0 ≤ V j ∧ V j < 4294967296) (i : Nat) (hi : i < 6) : bitsOf (pack hL hN V 6) (hL i) (hN i) = V i % 2 ^ (hN i).toNat := by
  have hd : ∀ j, j < 6 → j ≠ i → bits .and .u32 (placed 4294967295 (hL j) (hN j)) (placed 4294967295 (hL i) (hN i)) = 0 := by
    intro j hj hne
    have := List.all_eq_true.1 (List.all_eq_true.1 apart i (List.mem_range.2 hi)) j (List.mem_range.2 hj)
    simpa [hne] using this
  have hl := left_lt (V i) (hL i)
  have v := hV i hi
  match i, hi with
  | 0, _ | 1, _ | 2, _ | 3, _ | 4, _ | 5, _ =>
    rw [read_back hL hN V 6 _ (by decide) hV (by decide) (by decide) (by decide) (by decide) hd, bitsOf_eq _ _ _ hl.1 hl.2 (by decide) (by decide) (by decide)]
    unfold left
    simp only [hL, hN, List.getD_cons_zero, List.getD_cons_succ, Int.reduceToNat, Int.reducePow, Int.reduceMod, Nat.reduceLeDiff, Nat.min_eq_left]
    omega
end Go.Proofs.Ytopehmpjfndgjaa.W

/- The immediates and their words, spelled format by format. -/
namespace Go.Proofs.Ytopehmpjfndgjaa.W
open Go.RowKit
set_option linter.unusedVariables false

theorem bitsOf_low (x low n : Int) (x0 : 0 ≤ x) (x1 : x < 4294967296) (l0 : 0 ≤ low) (l1 : low ≤ 31) (n0 : 1 ≤ n) : bits .and .u32 (bitsOf x low n) (lowest n) = bitsOf x low n := by
  have h := bitsOf_lt x low n
  rw [lowest_eq n n0, low_and _ _ (by omega) h.1 h.2, bitsOf_eq x low n x0 x1 l0 l1 n0]
  exact Int.emod_emod_of_dvd _ (Int.dvd_refl _)
theorem moved_eq (x low to n : Int) (x0 : 0 ≤ x) (x1 : x < 4294967296) (l0 : 0 ≤ low) (l1 : low ≤ 31) (t0 : 0 ≤ to) (t1 : to ≤ 31) (n0 : 1 ≤ n) :
    moved x low to n = bitsOf x low n * 2 ^ to.toNat % 4294967296 := by
  have hw : within to n = true := by simp [within, t0, t1, n0]
  rw [moved_placed]
  unfold placed
  rw [hw, cond_true, place, bitsOf_low x low n x0 x1 l0 l1 n0]
theorem moved_shift (x low to n : Int) (x0 : 0 ≤ x) (x1 : x < 4294967296) (l0 : 0 ≤ low) (l1 : low ≤ 31) (t0 : 0 ≤ to) (t1 : to ≤ 31) (n0 : 1 ≤ n) :
    moved x low to n = placed (x / 2 ^ low.toNat) to n := by
  have hw : within to n = true := by simp [within, t0, t1, n0]
  have hw2 : within low n = true := by simp [within, l0, l1, n0]
  rw [moved_eq x low to n x0 x1 l0 l1 t0 t1 n0]
  unfold placed
  rw [hw, cond_true, place, bitsOf, hw2, cond_true]
theorem moved_nil (x low to : Int) : moved x low to 0 = 0 := by
  have hw : within to 0 = false := by simp [within]
  rw [moved_placed]
  unfold placed
  rw [hw, cond_false]
theorem moved_low (x low n : Int) (x0 : 0 ≤ x) (x1 : x < 4294967296) (l0 : 0 ≤ low) (l1 : low ≤ 31) (n0 : 1 ≤ n) : moved x low 0 n = bitsOf x low n := by
  have h := bitsOf_lt x low n
  rw [moved_eq x low 0 n x0 x1 l0 l1 (by decide) (by decide) n0]
  simp
  omega
theorem or1 (a : Int) (h : 0 ≤ a ∧ a < 4294967296) : bits .or .u32 (bits .or .u32 (bits .or .u32 (bits .or .u32 0 a) 0) 0) 0 = a := by
  rw [zero_or a h.1 h.2, or_zero a h.1 h.2, or_zero a h.1 h.2, or_zero a h.1 h.2]
theorem or2 (a b : Int) (h : 0 ≤ a ∧ a < 4294967296) : bits .or .u32 (bits .or .u32 (bits .or .u32 (bits .or .u32 0 a) b) 0) 0 = bits .or .u32 a b := by
  have g := or_lt a b
  rw [zero_or a h.1 h.2, or_zero _ g.1 g.2, or_zero _ g.1 g.2]
theorem or4 (a b c d : Int) (h : 0 ≤ a ∧ a < 4294967296) : bits .or .u32 (bits .or .u32 (bits .or .u32 (bits .or .u32 0 a) b) c) d = bits .or .u32 (bits .or .u32 (bits .or .u32 a b) c) d := by
  rw [zero_or a h.1 h.2]

theorem imm_I (x : Int) (x0 : 0 ≤ x) (x1 : x < 4294967296) : sgn (bitsOf x 20 12) 12 = imm 73 x := by
  have e : imm 73 x = sgn (bits .or .u32 (bits .or .u32 (bits .or .u32 (bits .or .u32 0 (moved x 20 0 12)) (moved x 0 0 0)) (moved x 0 0 0)) (moved x 0 0 0)) 12 := rfl
  rw [e, moved_nil, or1 _ (moved_lt _ _ _ _), moved_low x 20 12 x0 x1 (by decide) (by decide) (by decide)]
theorem imm_S (x : Int) (x0 : 0 ≤ x) (x1 : x < 4294967296) : sgn (bits .or .u32 (bitsOf x 25 7 * 32 % 4294967296) (bitsOf x 7 5)) 12 = imm 83 x := by
  have e : imm 83 x = sgn (bits .or .u32 (bits .or .u32 (bits .or .u32 (bits .or .u32 0 (moved x 25 5 7)) (moved x 7 0 5)) (moved x 0 0 0)) (moved x 0 0 0)) 12 := rfl
  rw [e, moved_nil, or2 _ _ (moved_lt _ _ _ _), moved_low x 7 5 x0 x1 (by decide) (by decide) (by decide), moved_eq x 25 5 7 x0 x1 (by decide) (by decide) (by decide) (by decide) (by decide)]
  rfl
theorem imm_B (x : Int) (x0 : 0 ≤ x) (x1 : x < 4294967296) : sgn (bits .or .u32 (bits .or .u32 (bits .or .u32 (bitsOf x 31 1 * 4096 % 4294967296) (bitsOf x 7 1 * 2048 % 4294967296)) (bitsOf x 25 6 * 32 % 4294967296)) (bitsOf x 8 4 * 2 % 4294967296)) 13 = imm 66 x := by
  have e : imm 66 x = sgn (bits .or .u32 (bits .or .u32 (bits .or .u32 (bits .or .u32 0 (moved x 31 12 1)) (moved x 7 11 1)) (moved x 25 5 6)) (moved x 8 1 4)) 13 := rfl
  rw [e, or4 _ _ _ _ (moved_lt _ _ _ _), moved_eq x 31 12 1 x0 x1 (by decide) (by decide) (by decide) (by decide) (by decide), moved_eq x 7 11 1 x0 x1 (by decide) (by decide) (by decide) (by decide) (by decide), moved_eq x 25 5 6 x0 x1 (by decide) (by decide) (by decide) (by decide) (by decide), moved_eq x 8 1 4 x0 x1 (by decide) (by decide) (by decide) (by decide) (by decide)]
  rfl
theorem imm_U (x : Int) (x0 : 0 ≤ x) (x1 : x < 4294967296) : bitsOf x 12 20 * 4096 % 4294967296 = imm 85 x := by
  have e : imm 85 x = sgn (bits .or .u32 (bits .or .u32 (bits .or .u32 (bits .or .u32 0 (moved x 12 12 20)) (moved x 0 0 0)) (moved x 0 0 0)) (moved x 0 0 0)) 32 := rfl
  rw [e, moved_nil, or1 _ (moved_lt _ _ _ _), sgn, if_neg (by decide), if_pos (by decide), moved_eq x 12 12 20 x0 x1 (by decide) (by decide) (by decide) (by decide) (by decide)]
  rfl
theorem imm_J (x : Int) (x0 : 0 ≤ x) (x1 : x < 4294967296) : sgn (bits .or .u32 (bits .or .u32 (bits .or .u32 (bitsOf x 31 1 * 1048576 % 4294967296) (bitsOf x 12 8 * 4096 % 4294967296)) (bitsOf x 20 1 * 2048 % 4294967296)) (bitsOf x 21 10 * 2 % 4294967296)) 21 = imm 74 x := by
  have e : imm 74 x = sgn (bits .or .u32 (bits .or .u32 (bits .or .u32 (bits .or .u32 0 (moved x 31 20 1)) (moved x 12 12 8)) (moved x 20 11 1)) (moved x 21 1 10)) 21 := rfl
  rw [e, or4 _ _ _ _ (moved_lt _ _ _ _), moved_eq x 31 20 1 x0 x1 (by decide) (by decide) (by decide) (by decide) (by decide), moved_eq x 12 12 8 x0 x1 (by decide) (by decide) (by decide) (by decide) (by decide), moved_eq x 20 11 1 x0 x1 (by decide) (by decide) (by decide) (by decide) (by decide), moved_eq x 21 1 10 x0 x1 (by decide) (by decide) (by decide) (by decide) (by decide)]
  rfl

theorem lay_I (x : Int) (x0 : 0 ≤ x) (x1 : x < 4294967296) : placed x 20 12 = layw 73 x := by
  have e : layw 73 x = bits .or .u32 (bits .or .u32 (bits .or .u32 (bits .or .u32 0 (moved x 0 20 12)) (moved x 0 0 0)) (moved x 0 0 0)) (moved x 0 0 0) := rfl
  rw [e, moved_nil, or1 _ (moved_lt _ _ _ _), moved_shift x 0 20 12 x0 x1 (by decide) (by decide) (by decide) (by decide) (by decide)]
  simp
theorem lay_S (x : Int) (x0 : 0 ≤ x) (x1 : x < 4294967296) : bits .or .u32 (placed (x / 32) 25 7) (placed x 7 5) = layw 83 x := by
  have e : layw 83 x = bits .or .u32 (bits .or .u32 (bits .or .u32 (bits .or .u32 0 (moved x 5 25 7)) (moved x 0 7 5)) (moved x 0 0 0)) (moved x 0 0 0) := rfl
  rw [e, moved_nil, or2 _ _ (moved_lt _ _ _ _), moved_shift x 5 25 7 x0 x1 (by decide) (by decide) (by decide) (by decide) (by decide), moved_shift x 0 7 5 x0 x1 (by decide) (by decide) (by decide) (by decide) (by decide)]
  simp
theorem lay_B (x : Int) (x0 : 0 ≤ x) (x1 : x < 4294967296) : bits .or .u32 (bits .or .u32 (bits .or .u32 (placed (x / 4096) 31 1) (placed (x / 2048) 7 1)) (placed (x / 32) 25 6)) (placed (x / 2) 8 4) = layw 66 x := by
  have e : layw 66 x = bits .or .u32 (bits .or .u32 (bits .or .u32 (bits .or .u32 0 (moved x 12 31 1)) (moved x 11 7 1)) (moved x 5 25 6)) (moved x 1 8 4) := rfl
  rw [e, or4 _ _ _ _ (moved_lt _ _ _ _), moved_shift x 12 31 1 x0 x1 (by decide) (by decide) (by decide) (by decide) (by decide), moved_shift x 11 7 1 x0 x1 (by decide) (by decide) (by decide) (by decide) (by decide), moved_shift x 5 25 6 x0 x1 (by decide) (by decide) (by decide) (by decide) (by decide), moved_shift x 1 8 4 x0 x1 (by decide) (by decide) (by decide) (by decide) (by decide)]
  simp
theorem lay_U (x : Int) (x0 : 0 ≤ x) (x1 : x < 4294967296) : placed (x / 4096) 12 20 = layw 85 x := by
  have e : layw 85 x = bits .or .u32 (bits .or .u32 (bits .or .u32 (bits .or .u32 0 (moved x 12 12 20)) (moved x 0 0 0)) (moved x 0 0 0)) (moved x 0 0 0) := rfl
  rw [e, moved_nil, or1 _ (moved_lt _ _ _ _), moved_shift x 12 12 20 x0 x1 (by decide) (by decide) (by decide) (by decide) (by decide)]
  simp
theorem lay_J (x : Int) (x0 : 0 ≤ x) (x1 : x < 4294967296) : bits .or .u32 (bits .or .u32 (bits .or .u32 (placed (x / 1048576) 31 1) (placed (x / 4096) 12 8)) (placed (x / 2048) 20 1)) (placed (x / 2) 21 10) = layw 74 x := by
  have e : layw 74 x = bits .or .u32 (bits .or .u32 (bits .or .u32 (bits .or .u32 0 (moved x 20 31 1)) (moved x 12 12 8)) (moved x 11 20 1)) (moved x 1 21 10) := rfl
  rw [e, or4 _ _ _ _ (moved_lt _ _ _ _), moved_shift x 20 31 1 x0 x1 (by decide) (by decide) (by decide) (by decide) (by decide), moved_shift x 12 12 8 x0 x1 (by decide) (by decide) (by decide) (by decide) (by decide), moved_shift x 11 20 1 x0 x1 (by decide) (by decide) (by decide) (by decide) (by decide), moved_shift x 1 21 10 x0 x1 (by decide) (by decide) (by decide) (by decide) (by decide)]
  simp

theorem heads (x : Int) (x0 : 0 ≤ x) (x1 : x < 4294967296) : (bitsOf x 0 7 != bits .and .u32 x 127) = false ∧ (bitsOf x 7 5 != bits .and .u32 (x / 128) 31) = false ∧ (bitsOf x 12 3 != bits .and .u32 (x / 4096) 7) = false
    ∧ (bitsOf x 15 5 != bits .and .u32 (x / 32768) 31) = false ∧ (bitsOf x 20 5 != bits .and .u32 (x / 1048576) 31) = false ∧ (bitsOf x 25 7 != x / 33554432) = false := by
  have h : ∀ (l n : Int) (c d : Int), 0 ≤ l → l ≤ 31 → 1 ≤ n → (2 : Int) ^ l.toNat = c → lowest n = d → bitsOf x l n = bits .and .u32 (x / c) d := by
    intro l n c d l0 l1 n0 hc hd
    have hw : within l n = true := by simp [within, l0, l1, n0]
    rw [bitsOf, hw, cond_true, hc, hd]
  have e0 := h 0 7 1 127 (by decide) (by decide) (by decide) (by decide) (by decide)
  rw [Int.ediv_one] at e0
  have e5 : bitsOf x 25 7 = x / 33554432 := by
    rw [bitsOf_eq x 25 7 x0 x1 (by decide) (by decide) (by decide)]
    simp only [Int.reduceToNat, Int.reducePow, Nat.reduceLeDiff, Nat.min_eq_left]
    omega
  rw [e0, h 7 5 128 31 (by decide) (by decide) (by decide) (by decide) (by decide), h 12 3 4096 7 (by decide) (by decide) (by decide) (by decide) (by decide), h 15 5 32768 31 (by decide) (by decide) (by decide) (by decide) (by decide), h 20 5 1048576 31 (by decide) (by decide) (by decide) (by decide) (by decide), e5]
  simp
end Go.Proofs.Ytopehmpjfndgjaa.W

/- Mirrors of package isa on numbers: shapes, fields, reading and laying instructions; without any Go. -/
namespace Go.Proofs.Ytopehmpjfndgjaa.W
open Go.RowKit
set_option linter.unusedVariables false

/-- What the words of like instructions have in common. -/
structure Sh where
  fixed : Int
  rd : Bool
  rs1 : Bool
  rs2 : Bool
  csr : Bool
  ord : Bool
  fmt : Int
  low : Int
  size : Int
/-- An instruction. -/
structure I where
  op : Int
  rd : Int
  rs1 : Int
  rs2 : Int
  csr : Int
  imm : Int
  aq : Bool
  rl : Bool
def fr (a b c : Int) : Bool := decide (a ≤ b) && decide (b ≤ c)
def known (op : Int) : Bool := fr 1 op 69

def shp (op : Int) : Sh :=
  bif op == 1 then ⟨127, true, false, false, false, false, 85, 0, 0⟩ else
  bif op == 2 then ⟨127, true, false, false, false, false, 85, 0, 0⟩ else
  bif op == 3 then ⟨127, true, false, false, false, false, 74, 0, 0⟩ else
  bif op == 4 then ⟨28799, true, true, false, false, false, 73, 0, 0⟩ else
  bif fr 11 op 15 then ⟨28799, true, true, false, false, false, 73, 0, 0⟩ else
  bif fr 19 op 24 then ⟨28799, true, true, false, false, false, 73, 0, 0⟩ else
  bif fr 5 op 10 then ⟨28799, false, true, true, false, false, 66, 0, 0⟩ else
  bif fr 16 op 18 then ⟨28799, false, true, true, false, false, 83, 0, 0⟩ else
  bif fr 25 op 27 then ⟨4261441663, true, true, false, false, false, 0, 20, 5⟩ else
  bif fr 28 op 37 then ⟨4261441663, true, true, true, false, false, 0, 0, 0⟩ else
  bif fr 51 op 58 then ⟨4261441663, true, true, true, false, false, 0, 0, 0⟩ else
  bif op == 38 then ⟨4027580415, false, false, false, false, false, 0, 20, 8⟩ else
  bif fr 39 op 43 then ⟨4294967295, false, false, false, false, false, 0, 0, 0⟩ else
  bif op == 44 then ⟨4261445631, false, true, true, false, false, 0, 0, 0⟩ else
  bif fr 45 op 47 then ⟨28799, true, true, false, true, false, 0, 0, 0⟩ else
  bif fr 48 op 50 then ⟨28799, true, false, false, true, false, 0, 15, 5⟩ else
  bif op == 59 then ⟨4193284223, true, true, false, false, true, 0, 0, 0⟩ else
  bif fr 60 op 69 then ⟨4160778367, true, true, true, false, true, 0, 0, 0⟩ else
  ⟨0, false, false, false, false, false, 0, 0, 0⟩
def codes : List Int := [0, 55, 23, 111, 103, 99, 4195, 16483, 20579, 24675, 28771, 3, 4099, 8195, 16387, 20483, 35, 4131, 8227, 19, 8211, 12307, 16403, 24595, 28691, 4115, 20499, 1073762323, 51, 1073741875, 4147, 8243, 12339, 16435, 20531, 1073762355, 24627, 28723, 15, 4111, 115, 1048691, 807403635, 273678451, 301990003, 4211, 8307, 12403, 20595, 24691, 28787, 33554483, 33558579, 33562675, 33566771, 33570867, 33574963, 33579059, 33583155, 268443695, 402661423, 134225967, 8239, 536879151, 1610620975, 1073750063, 2147491887, 2684362799, 3221233711, 3758104623]
def code (k : Nat) : Int := codes.getD k 0
def hasI (fmt size : Int) : Bool := (fmt != 0) || decide (0 < size)
def hasImm (s : Sh) : Bool := hasI s.fmt s.size
def immS (s : Sh) (x : Int) : Int := bif decide (0 < s.size) then bitsOf x s.low s.size else imm s.fmt x
def only (s : Sh) (i : I) : I :=
  ⟨i.op, bif s.rd then i.rd else 0, bif s.rs1 then i.rs1 else 0, bif s.rs2 then i.rs2 else 0, bif s.csr then i.csr else 0, bif hasImm s then i.imm else 0, s.ord && i.aq, s.ord && i.rl⟩
def readAll (s : Sh) (op x : Int) : I := ⟨op, bitsOf x 7 5, bitsOf x 15 5, bitsOf x 20 5, bitsOf x 20 12, immS s x, bitsOf x 26 1 == 1, bitsOf x 25 1 == 1⟩
def read (s : Sh) (op x : Int) : I := only s (readAll s op x)
def one (b : Bool) : Int := bif b then 1 else 0
/-- A field alone. -/
def lone (v low n : Int) : Int := pack (fun _ => low) (fun _ => n) (fun _ => v) 1
def layIV (s : Sh) (v : Int) : Int := bif hasImm s then (bif decide (0 < s.size) then lone v s.low s.size else layV s.fmt v) else 0
def layIB (s : Sh) (v : Int) : Bool := bif hasImm s then (bif decide (0 < s.size) then immS s (lone v s.low s.size) == v else layB s.fmt v) else true
def inRange (i : I) : Bool := fr 0 i.rd 31 && (fr 0 i.rs1 31 && (fr 0 i.rs2 31 && fr 0 i.csr 4095))
def same (a b : I) : Bool := (a.op == b.op) && ((a.rd == b.rd) && ((a.rs1 == b.rs1) && ((a.rs2 == b.rs2) && ((a.csr == b.csr) && ((a.imm == b.imm) && ((a.aq == b.aq) && (a.rl == b.rl)))))))
def gL (j : Nat) : Int := [20, 26, 25].getD j 0
def gN (j : Nat) : Int := [12, 1, 1].getD j 0
def three (a b c : Int) (j : Nat) : Int := [a, b, c].getD j 0
def six (a b c d e f : Int) (j : Nat) : Int := [a, b, c, d, e, f].getD j 0
def u32 (z : Int) : Int := z % 4294967296
def layF (i : I) : Int := bits .or .u32 (pack hL hN (six 0 (u32 i.rd) 0 (u32 i.rs1) (u32 i.rs2) 0) 6) (pack gL gN (three (u32 i.csr) (one i.aq) (one i.rl)) 3)
/-- Has the word x what op's words have in common? -/
def hit (x : Int) (k : Nat) : Bool := !(bits .and .u32 (bits .xor .u32 x (code k)) 127 != 0) && (bits .and .u32 x (shp k).fixed == code k)
def decFrom (x : Int) : Nat → Nat → Nat
  | _, 0 => 0
  | k, n + 1 => bif hit x k then k else decFrom x (k + 1) n
/-- The instruction whose word x is; 0: there is none. -/
def dec (x : Int) : Nat := decFrom x 1 69
def decI (x : Int) : I := read (shp (dec x)) (dec x) x
def decB (x : Int) : Bool := dec x != 0
/-- Why i has no word: 0: it has one. -/
def encE (i : I) : Nat := bif known i.op then (bif layIB (shp i.op) i.imm && inRange i then (bif same (only (shp i.op) i) i then 0 else 3) else 2) else 1
def encV (i : I) : Int := bif encE i == 0 then bits .or .u32 (bits .or .u32 (code i.op.toNat) (layIV (shp i.op) i.imm)) (layF i) else 0
def kind (op : Int) : Int :=
  bif !known op then 0 else bif fr 1 op 2 then 1 else bif fr 19 op 37 then 1 else bif fr 51 op 58 then 1 else bif fr 3 op 4 then 2 else bif fr 5 op 10 then 3 else bif fr 11 op 15 then 4 else bif op == 59 then 4 else
  bif fr 16 op 18 then 5 else bif fr 60 op 69 then 6 else 7
/-- The shapes that there are, by which fields they use. -/
def okSh (s : Sh) : Bool := [(true, false, false, false, false, true), (true, true, false, false, false, true), (false, true, true, false, false, true), (true, true, true, false, false, false), (false, false, false, false, false, true),
  (false, false, false, false, false, false), (false, true, true, false, false, false), (true, true, false, true, false, false), (true, false, false, true, false, true), (true, true, false, false, true, false), (true, true, true, false, true, false)].contains (s.rd, s.rs1, s.rs2, s.csr, s.ord, hasImm s)
theorem okSh_shp (op : Int) : okSh (shp op) = true := by
  unfold shp
  cases (op == 1); case true => rfl
  cases (op == 2); case true => rfl
  cases (op == 3); case true => rfl
  cases (op == 4); case true => rfl
  cases (fr 11 op 15); case true => rfl
  cases (fr 19 op 24); case true => rfl
  cases (fr 5 op 10); case true => rfl
  cases (fr 16 op 18); case true => rfl
  cases (fr 25 op 27); case true => rfl
  cases (fr 28 op 37); case true => rfl
  cases (fr 51 op 58); case true => rfl
  cases (op == 38); case true => rfl
  cases (fr 39 op 43); case true => rfl
  cases (op == 44); case true => rfl
  cases (fr 45 op 47); case true => rfl
  cases (fr 48 op 50); case true => rfl
  cases (op == 59); case true => rfl
  cases (fr 60 op 69); case true => rfl
  rfl
end Go.Proofs.Ytopehmpjfndgjaa.W
