/- Reading what was laid, and laying what was read. -/
import Derived.Test.YthbcdlaejefkaaaDoorMath7
namespace Go.Proofs.YthbcdlaejefkaaaDoor.W
open Go.RowKit
set_option linter.unusedVariables false
set_option linter.unusedSimpArgs false

theorem tb_zero (p : Nat) : tb 0 p = false := by simp [tb]
theorem tb_small (v : Int) (n q : Nat) (v0 : 0 ≤ v) (v1 : v < 2 ^ n) (h : n ≤ q) : tb v q = false := by
  obtain ⟨a, rfl⟩ := Int.eq_ofNat_of_zero_le v0
  have ha : a < 2 ^ n := by exact_mod_cast v1
  show a.testBit q = false
  exact Nat.testBit_lt_two_pow (Nat.lt_of_lt_of_le ha (Nat.pow_le_pow_right (by omega) h))
theorem tb_placed0 (low n : Int) (p : Nat) (hp : p < 32) : tb (placed 0 low n) p = false := by
  cases hw : within low n
  · unfold placed; rw [hw]; simp [tb]
  · have h1 : 0 ≤ low ∧ low ≤ 31 ∧ 1 ≤ n := by simpa [within] using hw
    rw [tb_placed 0 low n p (by decide) (by decide) h1.1 h1.2.1 h1.2.2 hp, tb_zero, Bool.and_false]
/-- A field of n bits from bit l on. -/
theorem tb_field (v : Int) (l n : Nat) (p : Nat) (v0 : 0 ≤ v) (v1 : v < 4294967296) (hl : l ≤ 31) (hn : 1 ≤ n) (hn2 : n ≤ 32) (hp : p < 32) : tb (placed v l n) p = (decide (l ≤ p ∧ p - l < n) && tb v (p - l)) := by
  rw [tb_placed v l n p v0 v1 (by omega) (by omega) (by omega) hp]
  simp only [Int.toNat_natCast, show min n 32 = n by omega]
theorem field_back (V v : Int) (l n : Nat) (V0 : 0 ≤ V) (V1 : V < 4294967296) (v0 : 0 ≤ v) (v1 : v < 2 ^ n) (hn : 1 ≤ n) (hl : l + n ≤ 32) (h : ∀ p, l ≤ p → p < l + n → tb V p = tb (placed v l n) p) : bitsOf V l n = v := by
  have hb := bitsOf_lt V l n
  have hv : v < 4294967296 := by
    have : (2 : Int) ^ n ≤ 2 ^ 32 := by
      have := Nat.pow_le_pow_right (show 0 < 2 by omega) (show n ≤ 32 by omega)
      exact_mod_cast this
    omega
  refine eq_of_tb _ _ hb.1 hb.2 v0 hv fun q hq => ?_
  rw [tb_bitsOf V l n q V0 V1 (by omega) (by omega) (by omega)]
  simp only [Int.toNat_natCast, show min n 32 = n by omega]
  by_cases h1 : q < n
  · rw [h (q + l) (by omega) (by omega), tb_field v l n (q + l) v0 hv (by omega) hn (by omega) (by omega)]
    have : q + l - l = q := by omega
    simp [h1, this]
  · rw [tb_small v n q v0 v1 (by omega)]
    simp [h1]
theorem one_lt (b : Bool) : 0 ≤ one b ∧ one b < 2 := by cases b <;> decide
theorem tb_one (b : Bool) : tb (one b) 0 = b := by cases b <;> decide
theorem one_eq (b : Bool) : (one b == 1) = b := by cases b <;> decide
theorem bit_eq (x : Int) (l : Nat) (x0 : 0 ≤ x) (x1 : x < 4294967296) (hl : l ≤ 31) : (bitsOf x l 1 == 1) = tb x l := by
  have h : tb (bitsOf x l 1) 0 = tb x l := by
    rw [tb_bitsOf x l 1 0 x0 x1 (by omega) (by omega) (by omega)]; simp
  have e := bitsOf_eq x l 1 x0 x1 (by omega) (by omega) (by omega)
  have hr : bitsOf x l 1 = 0 ∨ bitsOf x l 1 = 1 := by
    rw [e]; simp; omega
  rcases hr with hr | hr <;> rw [hr] at h ⊢
  · rw [← h]; decide
  · rw [← h]; decide

theorem tb_six (a b c : Int) (p : Nat) (hp : p < 32) : tb (pack hL hN (six 0 a 0 b c 0) 6) p = (tb (placed a 7 5) p || tb (placed b 15 5) p || tb (placed c 20 5) p) := by
  rw [Bool.eq_iff_iff, tb_pack]
  simp only [Bool.or_eq_true]
  constructor
  · rintro ⟨j, hj, h⟩
    match j, hj with
    | 0, _ => exact absurd h (by rw [show six 0 a 0 b c 0 0 = 0 from rfl, tb_placed0 _ _ _ hp]; decide)
    | 1, _ => exact Or.inl (Or.inl h)
    | 2, _ => exact absurd h (by rw [show six 0 a 0 b c 0 2 = 0 from rfl, tb_placed0 _ _ _ hp]; decide)
    | 3, _ => exact Or.inl (Or.inr h)
    | 4, _ => exact Or.inr h
    | 5, _ => exact absurd h (by rw [show six 0 a 0 b c 0 5 = 0 from rfl, tb_placed0 _ _ _ hp]; decide)
  · rintro ((h | h) | h)
    · exact ⟨1, by omega, h⟩
    · exact ⟨3, by omega, h⟩
    · exact ⟨4, by omega, h⟩
theorem tb_three (a b c : Int) (p : Nat) (hp : p < 32) : tb (pack gL gN (three a b c) 3) p = (tb (placed a 20 12) p || tb (placed b 26 1) p || tb (placed c 25 1) p) := by
  rw [Bool.eq_iff_iff, tb_pack]
  simp only [Bool.or_eq_true]
  constructor
  · rintro ⟨j, hj, h⟩
    match j, hj with
    | 0, _ => exact Or.inl (Or.inl h)
    | 1, _ => exact Or.inl (Or.inr h)
    | 2, _ => exact Or.inr h
  · rintro ((h | h) | h)
    · exact ⟨0, by omega, h⟩
    · exact ⟨1, by omega, h⟩
    · exact ⟨2, by omega, h⟩
theorem layV_lt (f v : Int) : 0 ≤ layV f v ∧ layV f v < 4294967296 := by
  unfold layV
  cases layB f v
  · simp
  · exact raw_lt _ _ _ _ _
theorem layIV_lt (s : Sh) (v : Int) : 0 ≤ layIV s v ∧ layIV s v < 4294967296 := by
  unfold layIV
  cases hasImm s
  · simp
  · cases decide (0 < s.size)
    · exact layV_lt _ _
    · exact pack_lt _ _ _ _
def encW (c : Int) (s : Sh) (i : I) : Int := bits .or .u32 (bits .or .u32 c (layIV s i.imm)) (layF i)
structure InR (i : I) : Prop where
  rd0 : 0 ≤ i.rd
  rd1 : i.rd ≤ 31
  rs10 : 0 ≤ i.rs1
  rs11 : i.rs1 ≤ 31
  rs20 : 0 ≤ i.rs2
  rs21 : i.rs2 ≤ 31
  csr0 : 0 ≤ i.csr
  csr1 : i.csr ≤ 4095
theorem inR_of {i : I} (h : inRange i = true) : InR i := by
  simp [inRange, fr] at h
  obtain ⟨⟨a, b⟩, ⟨c, d⟩, ⟨e, f⟩, g, k⟩ := h
  exact ⟨a, b, c, d, e, f, g, k⟩
theorem tb_encW (c : Int) (s : Sh) (i : I) (c0 : 0 ≤ c) (c1 : c < 4294967296) (hr : InR i) (p : Nat) (hp : p < 32) : tb (encW c s i) p = (tb c p || (List.range 7).any fun j => tb (part s i j) p) := by
  have h1 := or_lt c (layIV s i.imm)
  have h2 := layIV_lt s i.imm
  have h3 := pack_lt hL hN (six 0 (u32 i.rd) 0 (u32 i.rs1) (u32 i.rs2) 0) 6
  have h4 := pack_lt gL gN (three (u32 i.csr) (one i.aq) (one i.rl)) 3
  have h5 : 0 ≤ layF i ∧ layF i < 4294967296 := or_lt _ _
  have e1 : u32 i.rd = i.rd := by have := hr.rd0; have := hr.rd1; unfold u32; omega
  have e2 : u32 i.rs1 = i.rs1 := by have := hr.rs10; have := hr.rs11; unfold u32; omega
  have e3 : u32 i.rs2 = i.rs2 := by have := hr.rs20; have := hr.rs21; unfold u32; omega
  have e4 : u32 i.csr = i.csr := by have := hr.csr0; have := hr.csr1; unfold u32; omega
  unfold encW
  rw [tb_or _ _ p h1.1 h1.2 h5.1 h5.2, tb_or _ _ p c0 c1 h2.1 h2.2]
  have : tb (layF i) p = ((tb (placed i.rd 7 5) p || tb (placed i.rs1 15 5) p || tb (placed i.rs2 20 5) p) || (tb (placed i.csr 20 12) p || tb (placed (one i.aq) 26 1) p || tb (placed (one i.rl) 25 1) p)) := by
    unfold layF
    rw [tb_or _ _ p h3.1 h3.2 h4.1 h4.2, tb_six _ _ _ p hp, tb_three _ _ _ p hp, e1, e2, e3, e4]
  rw [this]
  have hl : List.range 7 = [0, 1, 2, 3, 4, 5, 6] := by decide
  rw [hl]
  simp only [List.any_cons, List.any_nil, Bool.or_false, part]
  generalize tb c p = b0
  generalize tb (layIV s i.imm) p = b1
  generalize tb (placed i.rd 7 5) p = b2
  generalize tb (placed i.rs1 15 5) p = b3
  generalize tb (placed i.rs2 20 5) p = b4
  generalize tb (placed i.csr 20 12) p = b5
  generalize tb (placed (one i.aq) 26 1) p = b6
  generalize tb (placed (one i.rl) 25 1) p = b7
  cases b0 <;> cases b1 <;> cases b2 <;> cases b3 <;> cases b4 <;> cases b5 <;> cases b6 <;> cases b7 <;> rfl
theorem okF_cases {s : Sh} (h : okF s = true) : (s.size = 0 ∧ (s.fmt = 0 ∨ isF s.fmt)) ∨ (s.fmt = 0 ∧ 0 < s.size ∧ s.size ≤ 12 ∧ 0 ≤ s.low ∧ s.low ≤ 31 ∧ s.low + s.size ≤ 32) := by
  unfold okF at h
  simp at h
  unfold isF
  omega
theorem isF_ne {f : Int} (h : isF f) : ¬ f = 0 := by unfold isF at h; omega
end Go.Proofs.YthbcdlaejefkaaaDoor.W
