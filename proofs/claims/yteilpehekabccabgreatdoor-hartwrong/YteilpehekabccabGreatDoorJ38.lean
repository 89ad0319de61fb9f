/- Texts in one: RefW, Math7, Math8, Math9, Math10, Math11, Math12, NumE. -/
import Derived.Test.YteilpehekabccabGreatDoorJ01
import Derived.Test.YteilpehekabccabGreatDoorJ09
import Derived.Test.YteilpehekabccabGreatDoorJ37
/- What the document's word returns. -/
namespace Go.Proofs.YteilpehekabccabGreatDoor
open Go.ChangeShapes Go.WideShapes Go.ChangeAt Go.RowKit
set_option linter.unusedVariables false
set_option linter.unusedSimpArgs false

namespace W
def rtail (r : Rw) (i : I) (h : Int) : Int := bits .or .u32 (bits .or .u32 (bits .or .u32 (bits .or .u32 (bits .or .u32 h (rlayV r.fm i.imm)) (i.rd % 4294967296 * 128 % 4294967296)) (i.rs1 % 4294967296 * 32768 % 4294967296)) (i.rs2 % 4294967296 * 1048576 % 4294967296)) (i.csr % 4294967296 * 1048576 % 4294967296)
def rhead (r : Rw) : Int := bits .or .u32 r.oc (r.f3 * 4096 % 4294967296)
def raq (b : Bool) (h : Int) : Int := bif b then bits .or .u32 h 67108864 else h
def rrl (b : Bool) (h : Int) : Int := bif b then bits .or .u32 h 33554432 else h
def rword (r : Rw) (i : I) : Int := bif r.wh != 0 then r.wh else rtail r i (bif r.pair then rrl i.rl (raq i.aq (bits .or .u32 (rhead r) (r.f7 * 134217728 % 4294967296))) else bits .or .u32 (rhead r) (r.f7 * 33554432 % 4294967296))
end W

set_option maxRecDepth 100000 in
set_option maxHeartbeats 3200000 in
theorem word_any (r : W.Rw) (i : W.I) (w : World) (m0 : 0 ≤ i.imm) (m1 : i.imm < 4294967296) : Calls Tryz.prog 21 #[rwV r, inV i] w fun e w' => e = .returned (.int .u32 (W.rword r i)) ∧ Below w.heap.size w w' := by
  have hb : Hid (Below w.heap.size w w) := Below.refl _ _
  unfold rwV rwA inV
  cases h : (r.wh != 0)
  case true =>
    have hv : Hid (W.rword r i = r.wh) := (by rw [W.rword, h]; rfl : W.rword r i = r.wh)
    go_enter Tryz.func21, Tryz.ntmps21
    go_wp2
    go_ret
    exact ⟨ret_int hv.out.symm, (hb.out.alloc hb.out.size _).alloc (by simp) _⟩
  cases hp : r.pair
  case false =>
    have hv : Hid (W.rword r i = W.rtail r i (bits .or .u32 (W.rhead r) (r.f7 * 33554432 % 4294967296))) := (by rw [W.rword, h, hp]; rfl : W.rword r i = _)
    go_enter Tryz.func21, Tryz.ntmps21
    go_wp2_with (go_at_call 19; refine (layl_any _ _ _ m0 m1).mono ?_; rintro e w' ⟨rfl, rfl⟩)
    go_ret
    exact ⟨ret_int hv.out.symm, (hb.out.alloc hb.out.size _).alloc (by simp) _⟩
  cases ha : i.aq <;> cases hl : i.rl
  all_goals
    have hv : Hid (W.rword r i = W.rtail r i (W.rrl i.rl (W.raq i.aq (bits .or .u32 (W.rhead r) (r.f7 * 134217728 % 4294967296))))) := (by rw [W.rword, h, hp]; rfl : W.rword r i = _)
    go_enter Tryz.func21, Tryz.ntmps21
    go_wp2_with (go_at_call 19; refine (layl_any _ _ _ m0 m1).mono ?_; rintro e w' ⟨rfl, rfl⟩)
    go_ret
    refine ⟨ret_int ?_, (hb.out.alloc hb.out.size _).alloc (by simp) _⟩
    rw [hv.out, ha, hl]
    rfl
end Go.Proofs.YteilpehekabccabGreatDoor

/- Laws of the mirrors of isa: which bit of a word is whose; reading and laying are each other's way back. -/
namespace Go.Proofs.YteilpehekabccabGreatDoor.W
open Go.RowKit
set_option linter.unusedVariables false
set_option linter.unusedSimpArgs false

/-- Does field j of shape s cover bit p? -/
def cov (s : Sh) (j p : Nat) : Bool :=
  match j with
  | 0 => s.rd && decide (7 ≤ p ∧ p < 12)
  | 1 => s.rs1 && decide (15 ≤ p ∧ p < 20)
  | 2 => s.rs2 && decide (20 ≤ p ∧ p < 25)
  | 3 => s.csr && decide (20 ≤ p ∧ p < 32)
  | 4 => s.ord && decide (p = 26)
  | 5 => s.ord && decide (p = 25)
  | _ => bif decide (0 < s.size) then decide (s.low.toNat ≤ p ∧ p - s.low.toNat < s.size.toNat) else bif s.fmt != 0 then tb (mask s.fmt) p else false
/-- Field j, laid. -/
def part (s : Sh) (i : I) (j : Nat) : Int :=
  match j with
  | 0 => placed i.rd 7 5
  | 1 => placed i.rs1 15 5
  | 2 => placed i.rs2 20 5
  | 3 => placed i.csr 20 12
  | 4 => placed (one i.aq) 26 1
  | 5 => placed (one i.rl) 25 1
  | _ => layIV s i.imm
def okF (s : Sh) : Bool := ((s.size == 0) && (s.fmt == 0 || s.fmt == 73 || s.fmt == 83 || s.fmt == 66 || s.fmt == 85 || s.fmt == 74)) || ((s.fmt == 0) && decide (0 < s.size ∧ s.size ≤ 12 ∧ 0 ≤ s.low ∧ s.low ≤ 31 ∧ s.low + s.size ≤ 32))
def okK (k : Nat) : Bool :=
  decide (0 ≤ code k ∧ code k < 4294967296 ∧ 0 ≤ (shp k).fixed ∧ (shp k).fixed < 4294967296) && okF (shp k) && decide (127 = bits .and .u32 127 (shp k).fixed) &&
  (List.range 32).all fun p => (!tb (code k) p || tb (shp k).fixed p) && (((List.range 7).any fun j => cov (shp k) j p) == !tb (shp k).fixed p) &&
    (List.range 7).all fun j => (List.range 7).all fun j' => !(cov (shp k) j p && cov (shp k) j' p) || (j == j')
theorem okAll : ((List.range 70).all fun k => (k == 0) || okK k) = true := by decide +kernel
def clash (j k : Nat) : Bool := (j == k) || !((code j).toNat &&& (shp k).fixed.toNat == (code k).toNat &&& (shp j).fixed.toNat)
theorem clashAll : ((List.range 70).all fun j => (List.range 70).all fun k => (j == 0) || (k == 0) || clash j k) = true := by decide +kernel

structure Ok (k : Nat) : Prop where
  c0 : 0 ≤ code k
  c1 : code k < 4294967296
  f0 : 0 ≤ (shp k).fixed
  f1 : (shp k).fixed < 4294967296
  fmt : okF (shp k) = true
  op : 127 = bits .and .u32 127 (shp k).fixed
  sub : ∀ p, p < 32 → tb (code k) p = true → tb (shp k).fixed p = true
  all : ∀ p, p < 32 → ((List.range 7).any fun j => cov (shp k) j p) = !tb (shp k).fixed p
  one : ∀ p j j', p < 32 → j < 7 → j' < 7 → cov (shp k) j p = true → cov (shp k) j' p = true → j = j'
theorem ok_at (k : Nat) (h1 : 1 ≤ k) (h2 : k ≤ 69) : Ok k := by
  have h := List.all_eq_true.1 okAll k (List.mem_range.2 (by omega))
  have hk : (k == 0) = false := by simp; omega
  rw [hk, Bool.false_or, okK, Bool.and_eq_true, Bool.and_eq_true, Bool.and_eq_true] at h
  obtain ⟨⟨⟨h0, hf⟩, ho⟩, ha⟩ := h
  obtain ⟨a, b, c, d⟩ := of_decide_eq_true h0
  have hp : ∀ p, p < 32 → _ := fun p hp => List.all_eq_true.1 ha p (List.mem_range.2 hp)
  refine ⟨a, b, c, d, hf, of_decide_eq_true ho, fun p hp' ht => ?_, fun p hp' => ?_, fun p j j' hp' hj hj' c1 c2 => ?_⟩
  · have := hp p hp'
    rw [Bool.and_eq_true, Bool.and_eq_true] at this
    simpa [ht] using this.1.1
  · have := hp p hp'
    rw [Bool.and_eq_true, Bool.and_eq_true] at this
    simpa using this.1.2
  · have := hp p hp'
    rw [Bool.and_eq_true, Bool.and_eq_true] at this
    have := List.all_eq_true.1 this.2 j (List.mem_range.2 hj)
    have := List.all_eq_true.1 this j' (List.mem_range.2 hj')
    simpa [c1, c2] using this

/-- A word has what op's words have in common, bit by bit. -/
theorem hit_tb {x : Int} {k : Nat} (hk : Ok k) (x0 : 0 ≤ x) (x1 : x < 4294967296) (h : hit x k = true) : ∀ p, p < 32 → tb (code k) p = (tb x p && tb (shp k).fixed p) := by
  intro p hp
  have h2 : bits .and .u32 x (shp k).fixed = code k := by
    simp [hit] at h
    exact h.2
  rw [← h2, tb_and _ _ p x0 x1 hk.f0 hk.f1]
theorem hit_of {x : Int} {k : Nat} (hk : Ok k) (x0 : 0 ≤ x) (x1 : x < 4294967296) (h : ∀ p, p < 32 → tb (code k) p = (tb x p && tb (shp k).fixed p)) : hit x k = true := by
  have e : bits .and .u32 x (shp k).fixed = code k := by
    have ha := and_lt x (shp k).fixed
    exact eq_of_tb _ _ ha.1 ha.2 hk.c0 hk.c1 fun p hp => by rw [tb_and _ _ p x0 x1 hk.f0 hk.f1, h p hp]
  have hz : bits .and .u32 (bits .xor .u32 x (code k)) 127 = 0 := by
    have hx := xor_lt x (code k)
    have ha := and_lt (bits .xor .u32 x (code k)) 127
    refine eq_of_tb _ _ ha.1 ha.2 (by decide) (by decide) fun p hp => ?_
    rw [tb_and _ _ p hx.1 hx.2 (by decide) (by decide), tb_xor _ _ p x0 x1 hk.c0 hk.c1, h p hp]
    have h127 : tb 127 p = (tb 127 p && tb (shp k).fixed p) := by
      have := congrArg (fun z => tb z p) hk.op
      rw [tb_and _ _ p (by decide) (by decide) hk.f0 hk.f1] at this
      exact this
    have z0 : tb 0 p = false := by simp [tb]
    rw [z0, h127]
    cases tb x p <;> cases tb (shp k).fixed p <;> cases tb 127 p <;> rfl
  simp [hit, e, hz]
theorem hit_one {x : Int} {j k : Nat} (j1 : 1 ≤ j) (j2 : j ≤ 69) (k1 : 1 ≤ k) (k2 : k ≤ 69) (x0 : 0 ≤ x) (x1 : x < 4294967296) (hj : hit x j = true) (hk : hit x k = true) : j = k := by
  have a := hit_tb (ok_at j j1 j2) x0 x1 hj
  have b := hit_tb (ok_at k k1 k2) x0 x1 hk
  have h := List.all_eq_true.1 (List.all_eq_true.1 clashAll j (List.mem_range.2 (by omega))) k (List.mem_range.2 (by omega))
  have hj0 : (j == 0) = false := by simp; omega
  have hk0 : (k == 0) = false := by simp; omega
  rw [hj0, hk0, Bool.false_or, Bool.false_or, clash, Bool.or_eq_true] at h
  rcases h with h | h
  · simpa using h
  · exfalso
    have : (code j).toNat &&& (shp k).fixed.toNat = (code k).toNat &&& (shp j).fixed.toNat := by
      apply Nat.eq_of_testBit_eq
      intro p
      rw [Nat.testBit_and, Nat.testBit_and]
      show (tb (code j) p && tb (shp k).fixed p) = (tb (code k) p && tb (shp j).fixed p)
      by_cases hp : p < 32
      · rw [a p hp, b p hp]
        cases tb x p <;> cases tb (shp k).fixed p <;> cases tb (shp j).fixed p <;> rfl
      · rw [tb_big _ p (ok_at j j1 j2).c1 (by omega), tb_big _ p (ok_at k k1 k2).c1 (by omega)]; rfl
    simp [this] at h
/-- The one op whose word x is. -/
theorem decFrom_eq {x : Int} {k : Nat} (k1 : 1 ≤ k) (k2 : k ≤ 69) (x0 : 0 ≤ x) (x1 : x < 4294967296) (h : hit x k = true) : ∀ n j, 1 ≤ j → j ≤ k → k < j + n → j + n = 70 → decFrom x j n = k := by
  intro n
  induction n with
  | zero => intro j _ _ _ _; omega
  | succ n ih =>
    intro j hj1 hj2 hj3 hj4
    unfold decFrom
    by_cases e : j = k
    · subst e; rw [h]; rfl
    · have : hit x j = false := by
        cases hh : hit x j
        · rfl
        · exact absurd (hit_one hj1 (by omega) k1 k2 x0 x1 hh h) e
      rw [this]
      exact ih (j + 1) (by omega) (by omega) (by omega) (by omega)
theorem dec_eq {x : Int} {k : Nat} (k1 : 1 ≤ k) (k2 : k ≤ 69) (x0 : 0 ≤ x) (x1 : x < 4294967296) (h : hit x k = true) : dec x = k :=
  decFrom_eq k1 k2 x0 x1 h 69 1 (by omega) k1 (by omega) (by omega)
theorem decFrom_hit (x : Int) : ∀ n j, decFrom x j n = 0 ∨ (j ≤ decFrom x j n ∧ decFrom x j n < j + n ∧ hit x (decFrom x j n) = true) := by
  intro n
  induction n with
  | zero => intro j; left; rfl
  | succ n ih =>
    intro j
    unfold decFrom
    cases hh : hit x j
    · rcases ih (j + 1) with h | h
      · left; exact h
      · right; exact ⟨by have := h.1; simp only [cond_false]; omega, by have := h.2.1; simp only [cond_false]; omega, h.2.2⟩
    · right; exact ⟨by simp, by simp, by simpa using hh⟩
theorem dec_hit (x : Int) (h : decB x = true) : 1 ≤ dec x ∧ dec x ≤ 69 ∧ hit x (dec x) = true := by
  rcases decFrom_hit x 69 1 with h1 | h1
  · simp [decB, dec, h1] at h
  · exact ⟨h1.1, by have := h1.2.1; unfold dec; omega, h1.2.2⟩
end Go.Proofs.YteilpehekabccabGreatDoor.W

/- Reading what was laid, and laying what was read. -/
namespace Go.Proofs.YteilpehekabccabGreatDoor.W
open Go.RowKit
set_option linter.unusedVariables false
set_option linter.unusedSimpArgs false

theorem tb_zero (p : Nat) : tb 0 p = false := by simp [tb]
theorem tb_small (v : Int) (n q : Nat) (v0 : 0 ≤ v) (v1 : v < 2 ^ n) (h : n ≤ q) : tb v q = false := by
  obtain ⟨a, rfl⟩ := Int.eq_ofNat_of_zero_le v0
  have ha : a < 2 ^ n := by exact_mod_cast v1
  show a.testBit q = false
  exact Nat.testBit_lt_two_pow (Nat.lt_of_lt_of_le ha (Nat.pow_le_pow_right (by omega) h))
theorem tb_placed0 (low n : Int) (p : Nat) (hp : p < 32) : tb (placed 0 low n) p = false := by
  cases hw : within low n
  · unfold placed; rw [hw]; simp [tb]
  · have h1 : 0 ≤ low ∧ low ≤ 31 ∧ 1 ≤ n := by simpa [within] using hw
    rw [tb_placed 0 low n p (by decide) (by decide) h1.1 h1.2.1 h1.2.2 hp, tb_zero, Bool.and_false]
/-- A field of n bits from bit l on. -/
theorem tb_field (v : Int) (l n : Nat) (p : Nat) (v0 : 0 ≤ v) (v1 : v < 4294967296) (hl : l ≤ 31) (hn : 1 ≤ n) (hn2 : n ≤ 32) (hp : p < 32) : tb (placed v l n) p = (decide (l ≤ p ∧ p - l < n) && tb v (p - l)) := by
  rw [tb_placed v l n p v0 v1 (by omega) (by omega) (by omega) hp]
  simp only [Int.toNat_natCast, show min n 32 = n by omega]
theorem field_back (V v : Int) (l n : Nat) (V0 : 0 ≤ V) (V1 : V < 4294967296) (v0 : 0 ≤ v) (v1 : v < 2 ^ n) (hn : 1 ≤ n) (hl : l + n ≤ 32) (h : ∀ p, l ≤ p → p < l + n → tb V p = tb (placed v l n) p) : bitsOf V l n = v := by
  have hb := bitsOf_lt V l n
  have hv : v < 4294967296 := by
    have : (2 : Int) ^ n ≤ 2 ^ 32 := by
      have := Nat.pow_le_pow_right (show 0 < 2 by omega) (show n ≤ 32 by omega)
      exact_mod_cast this
    omega
  refine eq_of_tb _ _ hb.1 hb.2 v0 hv fun q hq => ?_
  rw [tb_bitsOf V l n q V0 V1 (by omega) (by omega) (by omega)]
  simp only [Int.toNat_natCast, show min n 32 = n by omega]
  by_cases h1 : q < n
  · rw [h (q + l) (by omega) (by omega), tb_field v l n (q + l) v0 hv (by omega) hn (by omega) (by omega)]
    have : q + l - l = q := by omega
    simp [h1, this]
  · rw [tb_small v n q v0 v1 (by omega)]
    simp [h1]
theorem one_lt (b : Bool) : 0 ≤ one b ∧ one b < 2 := by cases b <;> decide
theorem tb_one (b : Bool) : tb (one b) 0 = b := by cases b <;> decide
theorem one_eq (b : Bool) : (one b == 1) = b := by cases b <;> decide
theorem bit_eq (x : Int) (l : Nat) (x0 : 0 ≤ x) (x1 : x < 4294967296) (hl : l ≤ 31) : (bitsOf x l 1 == 1) = tb x l := by
  have h : tb (bitsOf x l 1) 0 = tb x l := by
    rw [tb_bitsOf x l 1 0 x0 x1 (by omega) (by omega) (by omega)]; simp
  have e := bitsOf_eq x l 1 x0 x1 (by omega) (by omega) (by omega)
  have hr : bitsOf x l 1 = 0 ∨ bitsOf x l 1 = 1 := by
    rw [e]; simp; omega
  rcases hr with hr | hr <;> rw [hr] at h ⊢
  · rw [← h]; decide
  · rw [← h]; decide

theorem tb_six (a b c : Int) (p : Nat) (hp : p < 32) : tb (pack hL hN (six 0 a 0 b c 0) 6) p = (tb (placed a 7 5) p || tb (placed b 15 5) p || tb (placed c 20 5) p) := by
  rw [Bool.eq_iff_iff, tb_pack]
  simp only [Bool.or_eq_true]
  constructor
  · rintro ⟨j, hj, h⟩
    match j, hj with
    | 0, _ => exact absurd h (by rw [show six 0 a 0 b c 0 0 = 0 from rfl, tb_placed0 _ _ _ hp]; decide)
    | 1, _ => exact Or.inl (Or.inl h)
    | 2, _ => exact absurd h (by rw [show six 0 a 0 b c 0 2 = 0 from rfl, tb_placed0 _ _ _ hp]; decide)
    | 3, _ => exact Or.inl (Or.inr h)
    | 4, _ => exact Or.inr h
    | 5, _ => exact absurd h (by rw [show six 0 a 0 b c 0 5 = 0 from rfl, tb_placed0 _ _ _ hp]; decide)
  · rintro ((h | h) | h)
    · exact ⟨1, by omega, h⟩
    · exact ⟨3, by omega, h⟩
    · exact ⟨4, by omega, h⟩
theorem tb_three (a b c : Int) (p : Nat) (hp : p < 32) : tb (pack gL gN (three a b c) 3) p = (tb (placed a 20 12) p || tb (placed b 26 1) p || tb (placed c 25 1) p) := by
  rw [Bool.eq_iff_iff, tb_pack]
  simp only [Bool.or_eq_true]
  constructor
  · rintro ⟨j, hj, h⟩
    match j, hj with
    | 0, _ => exact Or.inl (Or.inl h)
    | 1, _ => exact Or.inl (Or.inr h)
    | 2, _ => exact Or.inr h
  · rintro ((h | h) | h)
    · exact ⟨0, by omega, h⟩
    · exact ⟨1, by omega, h⟩
    · exact ⟨2, by omega, h⟩
theorem layV_lt (f v : Int) : 0 ≤ layV f v ∧ layV f v < 4294967296 := by
  unfold layV
  cases layB f v
  · simp
  · exact raw_lt _ _ _ _ _
theorem layIV_lt (s : Sh) (v : Int) : 0 ≤ layIV s v ∧ layIV s v < 4294967296 := by
  unfold layIV
  cases hasImm s
  · simp
  · cases decide (0 < s.size)
    · exact layV_lt _ _
    · exact pack_lt _ _ _ _
def encW (c : Int) (s : Sh) (i : I) : Int := bits .or .u32 (bits .or .u32 c (layIV s i.imm)) (layF i)
structure InR (i : I) : Prop where
  rd0 : 0 ≤ i.rd
  rd1 : i.rd ≤ 31
  rs10 : 0 ≤ i.rs1
  rs11 : i.rs1 ≤ 31
  rs20 : 0 ≤ i.rs2
  rs21 : i.rs2 ≤ 31
  csr0 : 0 ≤ i.csr
  csr1 : i.csr ≤ 4095
theorem inR_of {i : I} (h : inRange i = true) : InR i := by
  simp [inRange, fr] at h
  obtain ⟨⟨a, b⟩, ⟨c, d⟩, ⟨e, f⟩, g, k⟩ := h
  exact ⟨a, b, c, d, e, f, g, k⟩
theorem tb_encW (c : Int) (s : Sh) (i : I) (c0 : 0 ≤ c) (c1 : c < 4294967296) (hr : InR i) (p : Nat) (hp : p < 32) : tb (encW c s i) p = (tb c p || (List.range 7).any fun j => tb (part s i j) p) := by
  have h1 := or_lt c (layIV s i.imm)
  have h2 := layIV_lt s i.imm
  have h3 := pack_lt hL hN (six 0 (u32 i.rd) 0 (u32 i.rs1) (u32 i.rs2) 0) 6
  have h4 := pack_lt gL gN (three (u32 i.csr) (one i.aq) (one i.rl)) 3
  have h5 : 0 ≤ layF i ∧ layF i < 4294967296 := or_lt _ _
  have e1 : u32 i.rd = i.rd := by have := hr.rd0; have := hr.rd1; unfold u32; omega
  have e2 : u32 i.rs1 = i.rs1 := by have := hr.rs10; have := hr.rs11; unfold u32; omega
  have e3 : u32 i.rs2 = i.rs2 := by have := hr.rs20; have := hr.rs21; unfold u32; omega
  have e4 : u32 i.csr = i.csr := by have := hr.csr0; have := hr.csr1; unfold u32; omega
  unfold encW
  rw [tb_or _ _ p h1.1 h1.2 h5.1 h5.2, tb_or _ _ p c0 c1 h2.1 h2.2]
  have : tb (layF i) p = ((tb (placed i.rd 7 5) p || tb (placed i.rs1 15 5) p || tb (placed i.rs2 20 5) p) || (tb (placed i.csr 20 12) p || tb (placed (one i.aq) 26 1) p || tb (placed (one i.rl) 25 1) p)) := by
    unfold layF
    rw [tb_or _ _ p h3.1 h3.2 h4.1 h4.2, tb_six _ _ _ p hp, tb_three _ _ _ p hp, e1, e2, e3, e4]
  rw [this]
  have hl : List.range 7 = [0, 1, 2, 3, 4, 5, 6] := by decide
  rw [hl]
  simp only [List.any_cons, List.any_nil, Bool.or_false, part]
  generalize tb c p = b0
  generalize tb (layIV s i.imm) p = b1
  generalize tb (placed i.rd 7 5) p = b2
  generalize tb (placed i.rs1 15 5) p = b3
  generalize tb (placed i.rs2 20 5) p = b4
  generalize tb (placed i.csr 20 12) p = b5
  generalize tb (placed (one i.aq) 26 1) p = b6
  generalize tb (placed (one i.rl) 25 1) p = b7
  cases b0 <;> cases b1 <;> cases b2 <;> cases b3 <;> cases b4 <;> cases b5 <;> cases b6 <;> cases b7 <;> rfl
theorem okF_cases {s : Sh} (h : okF s = true) : (s.size = 0 ∧ (s.fmt = 0 ∨ isF s.fmt)) ∨ (s.fmt = 0 ∧ 0 < s.size ∧ s.size ≤ 12 ∧ 0 ≤ s.low ∧ s.low ≤ 31 ∧ s.low + s.size ≤ 32) := by
  unfold okF at h
  simp at h
  unfold isF
  omega
theorem isF_ne {f : Int} (h : isF f) : ¬ f = 0 := by unfold isF at h; omega
end Go.Proofs.YteilpehekabccabGreatDoor.W

/- Reading what was laid, and laying what was read: the two ways. -/
namespace Go.Proofs.YteilpehekabccabGreatDoor.W
open Go.RowKit
set_option linter.unusedVariables false
set_option linter.unusedSimpArgs false

theorem lone_placed (v low n : Int) : lone v low n = placed v low n := by
  have h := placed_lt v low n
  have := pack_succ (fun _ => low) (fun _ => n) (fun _ => v) 0 (by simp [pack]) (by simp [pack])
  unfold lone
  rw [← this]
  exact zero_or _ h.1 h.2
/-- An immediate that has room lies under its own bits. -/
theorem layV_mask (f v : Int) (hf : isF f) (hb : layB f v = true) (p : Nat) (hp : p < 32) : tb (layV f v) p = (tb (layV f v) p && tb (mask f) p) := by
  have e1 : layV f v = layw f v := by simp [layV, hb]
  have e2 : imm f (layw f v) = v := by
    have : (wid f == 0) = false ∧ imm f (layw f v) = v := by simpa [layB] using hb
    exact this.2
  have hl := raw_lt (pI f) (pW f) (pN f) v 4
  have hm := mask_lt f
  have := congrArg (fun z => tb z p) (lay_imm f (layw f v) hf hl.1 hl.2)
  rw [e2] at this
  rw [e1]
  exact this.trans (tb_and _ _ p hl.1 hl.2 hm.1 hm.2)
theorem layIB_back {s : Sh} {v : Int} (hb : layIB s v = true) (hi : hasImm s = true) : immS s (layIV s v) = v := by
  unfold layIB at hb
  rw [hi, cond_true] at hb
  unfold layIV
  rw [hi, cond_true]
  cases hz : decide (0 < s.size)
  · rw [hz, cond_false] at hb
    simp only [cond_false]
    have e1 : layV s.fmt v = layw s.fmt v := by simp [layV, hb]
    have e2 : imm s.fmt (layw s.fmt v) = v := by
      have : (wid s.fmt == 0) = false ∧ imm s.fmt (layw s.fmt v) = v := by simpa [layB] using hb
      exact this.2
    rw [e1, immS, hz]
    exact e2
  · rw [hz, cond_true] at hb
    simpa using hb

/-- Only the fields that are used are laid. -/
theorem part_cov {s : Sh} {i : I} (hf : okF s = true) (hr : InR i) (hs : same (only s i) i = true) (hb : layIB s i.imm = true) (j p : Nat) (hj : j < 7) (hp : p < 32) (h : tb (part s i j) p = true) : cov s j p = true := by
  have hs' : (bif s.rd then i.rd else 0) = i.rd ∧ (bif s.rs1 then i.rs1 else 0) = i.rs1 ∧ (bif s.rs2 then i.rs2 else 0) = i.rs2 ∧ (bif s.csr then i.csr else 0) = i.csr ∧ (bif hasImm s then i.imm else 0) = i.imm ∧ (s.ord && i.aq) = i.aq ∧ (s.ord && i.rl) = i.rl := by
    simpa [same, only] using hs
  obtain ⟨q0, q1, q2, q3, q4, q5, q6⟩ := hs'
  have hr1 := hr.rd1; have hr0 := hr.rd0; have hr2 := hr.rs10; have hr3 := hr.rs11; have hr4 := hr.rs20; have hr5 := hr.rs21; have hr6 := hr.csr0; have hr7 := hr.csr1
  match j, hj with
  | 0, _ =>
    have h' : tb (placed i.rd (7 : Nat) (5 : Nat)) p = true := h
    rw [tb_field i.rd 7 5 p hr0 (by omega) (by omega) (by omega) (by omega) hp] at h'
    simp only [Bool.and_eq_true, decide_eq_true_eq] at h'
    cases hd : s.rd
    · rw [hd, cond_false] at q0; rw [← q0, tb_zero] at h'; exact absurd h'.2 (by simp)
    · simp [cov, hd]; omega
  | 1, _ =>
    have h' : tb (placed i.rs1 (15 : Nat) (5 : Nat)) p = true := h
    rw [tb_field i.rs1 15 5 p hr2 (by omega) (by omega) (by omega) (by omega) hp] at h'
    simp only [Bool.and_eq_true, decide_eq_true_eq] at h'
    cases hd : s.rs1
    · rw [hd, cond_false] at q1; rw [← q1, tb_zero] at h'; exact absurd h'.2 (by simp)
    · simp [cov, hd]; omega
  | 2, _ =>
    have h' : tb (placed i.rs2 (20 : Nat) (5 : Nat)) p = true := h
    rw [tb_field i.rs2 20 5 p hr4 (by omega) (by omega) (by omega) (by omega) hp] at h'
    simp only [Bool.and_eq_true, decide_eq_true_eq] at h'
    cases hd : s.rs2
    · rw [hd, cond_false] at q2; rw [← q2, tb_zero] at h'; exact absurd h'.2 (by simp)
    · simp [cov, hd]; omega
  | 3, _ =>
    have h' : tb (placed i.csr (20 : Nat) (12 : Nat)) p = true := h
    rw [tb_field i.csr 20 12 p hr6 (by omega) (by omega) (by omega) (by omega) hp] at h'
    simp only [Bool.and_eq_true, decide_eq_true_eq] at h'
    cases hd : s.csr
    · rw [hd, cond_false] at q3; rw [← q3, tb_zero] at h'; exact absurd h'.2 (by simp)
    · simp [cov, hd]; omega
  | 4, _ =>
    have h' : tb (placed (one i.aq) (26 : Nat) (1 : Nat)) p = true := h
    rw [tb_field (one i.aq) 26 1 p (one_lt _).1 (by have := (one_lt i.aq).2; omega) (by omega) (by omega) (by omega) hp] at h'
    simp only [Bool.and_eq_true, decide_eq_true_eq] at h'
    cases hd : s.ord
    · rw [hd] at q5; simp at q5; rw [q5] at h'; exact absurd h'.2 (by simp [one, tb_zero])
    · simp [cov, hd]; omega
  | 5, _ =>
    have h' : tb (placed (one i.rl) (25 : Nat) (1 : Nat)) p = true := h
    rw [tb_field (one i.rl) 25 1 p (one_lt _).1 (by have := (one_lt i.rl).2; omega) (by omega) (by omega) (by omega) hp] at h'
    simp only [Bool.and_eq_true, decide_eq_true_eq] at h'
    cases hd : s.ord
    · rw [hd] at q6; simp at q6; rw [q6] at h'; exact absurd h'.2 (by simp [one, tb_zero])
    · simp [cov, hd]; omega
  | 6, _ =>
    have h' : tb (layIV s i.imm) p = true := h
    unfold layIV at h'
    unfold layIB at hb
    cases hi : hasImm s
    · rw [hi, cond_false, tb_zero] at h'; cases h'
    · rw [hi, cond_true] at h' hb
      show (bif decide (0 < s.size) then decide (s.low.toNat ≤ p ∧ p - s.low.toNat < s.size.toNat) else bif s.fmt != 0 then tb (mask s.fmt) p else false) = true
      rcases okF_cases hf with ⟨z, hfm⟩ | ⟨z, c1, c2, c3, c4, c5⟩
      · have hz : decide (0 < s.size) = false := by simp [z]
        rw [hz, cond_false] at h' hb ⊢
        have hfm : isF s.fmt := by
          rcases hfm with e | e
          · simp [hasImm, hasI, e, z] at hi
          · exact e
        have hne : (s.fmt != 0) = true := by simpa using isF_ne hfm
        rw [hne, cond_true]
        have := layV_mask s.fmt i.imm hfm hb p hp
        rw [h'] at this
        simpa using this.symm
      · have hz : decide (0 < s.size) = true := by simp [c1]
        rw [hz, cond_true] at h' ⊢
        rw [lone_placed] at h'
        by_cases hv : 0 ≤ i.imm ∧ i.imm < 4294967296
        · rw [tb_placed _ _ _ p hv.1 hv.2 c3 c4 (by omega) hp] at h'
          simp only [Bool.and_eq_true, decide_eq_true_eq] at h' ⊢
          omega
        · exfalso
          rw [hz, cond_true] at hb
          have hb' : immS s (lone i.imm s.low s.size) = i.imm := by simpa using hb
          have : 0 ≤ immS s (lone i.imm s.low s.size) ∧ immS s (lone i.imm s.low s.size) < 4294967296 := by
            unfold immS; rw [hz]; exact bitsOf_lt _ _ _
          rw [hb'] at this
          exact hv this
theorem encW_fixed {k : Nat} {i : I} (hk : Ok k) (hr : InR i) (hs : same (only (shp k) i) i = true) (hb : layIB (shp k) i.imm = true) (p : Nat) (hp : p < 32) (h : tb (shp k).fixed p = true) : tb (encW (code k) (shp k) i) p = tb (code k) p := by
  rw [tb_encW _ _ _ hk.c0 hk.c1 hr p hp]
  have ha := hk.all p hp
  rw [h, Bool.not_true] at ha
  have : ((List.range 7).any fun j => tb (part (shp k) i j) p) = false := by
    rw [List.any_eq_false] at ha ⊢
    intro j hj ht
    exact ha j hj (part_cov hk.fmt hr hs hb j p (List.mem_range.1 hj) hp ht)
  rw [this, Bool.or_false]
theorem encW_cov {k : Nat} {i : I} (hk : Ok k) (hr : InR i) (hs : same (only (shp k) i) i = true) (hb : layIB (shp k) i.imm = true) (j p : Nat) (hj : j < 7) (hp : p < 32) (h : cov (shp k) j p = true) : tb (encW (code k) (shp k) i) p = tb (part (shp k) i j) p := by
  rw [tb_encW _ _ _ hk.c0 hk.c1 hr p hp]
  have ha := hk.all p hp
  have hany : ((List.range 7).any fun j => cov (shp k) j p) = true := List.any_eq_true.2 ⟨j, List.mem_range.2 hj, h⟩
  rw [hany] at ha
  have hfx : tb (shp k).fixed p = false := by simpa using ha.symm
  have hc : tb (code k) p = false := by
    cases hc : tb (code k) p
    · rfl
    · have := hk.sub p hp hc; rw [hfx] at this; cases this
  rw [hc, Bool.false_or]
  cases ht : tb (part (shp k) i j) p
  · rw [List.any_eq_false]
    intro j' hj' ht'
    have := hk.one p j j' hp hj (List.mem_range.1 hj') h (part_cov hk.fmt hr hs hb j' p (List.mem_range.1 hj') hp ht')
    subst this
    rw [ht] at ht'; cases ht'
  · exact List.any_eq_true.2 ⟨j, List.mem_range.2 hj, ht⟩
theorem encW_lt (c : Int) (s : Sh) (i : I) : 0 ≤ encW c s i ∧ encW c s i < 4294967296 := or_lt _ _
theorem encW_hit {k : Nat} {i : I} (hk : Ok k) (hr : InR i) (hs : same (only (shp k) i) i = true) (hb : layIB (shp k) i.imm = true) : hit (encW (code k) (shp k) i) k = true := by
  have hl := encW_lt (code k) (shp k) i
  refine hit_of hk hl.1 hl.2 fun p hp => ?_
  cases h : tb (shp k).fixed p
  · cases hc : tb (code k) p
    · simp
    · have := hk.sub p hp hc; rw [h] at this; cases this
  · rw [encW_fixed hk hr hs hb p hp h]; simp
end Go.Proofs.YteilpehekabccabGreatDoor.W

/- Decode of Encode is the instruction; Encode of Decode is the word. -/
namespace Go.Proofs.YteilpehekabccabGreatDoor.W
open Go.RowKit
set_option linter.unusedVariables false
set_option linter.unusedSimpArgs false

theorem encE_zero {i : I} (h : encE i = 0) : known i.op = true ∧ layIB (shp i.op) i.imm = true ∧ inRange i = true ∧ same (only (shp i.op) i) i = true := by
  unfold encE at h
  cases h1 : known i.op
  · simp [h1] at h
  cases h2 : layIB (shp i.op) i.imm
  · simp [h1, h2] at h
  cases h3 : inRange i
  · simp [h1, h2, h3] at h
  cases h4 : same (only (shp i.op) i) i
  · simp [h1, h2, h3, h4] at h
  exact ⟨rfl, rfl, rfl, rfl⟩
theorem encV_none {i : I} (h : ¬ encE i = 0) : encV i = 0 := by
  unfold encV
  have : (encE i == 0) = false := by simpa using h
  rw [this]; rfl
theorem known_nat {op : Int} (h : known op = true) : ∃ k : Nat, op = k ∧ 1 ≤ k ∧ k ≤ 69 := by
  have h' : 1 ≤ op ∧ op ≤ 69 := by simpa [known, fr] using h
  exact ⟨op.toNat, by omega, by omega, by omega⟩
theorem I_ext {a b : I} (h0 : a.op = b.op) (h1 : a.rd = b.rd) (h2 : a.rs1 = b.rs1) (h3 : a.rs2 = b.rs2) (h4 : a.csr = b.csr) (h5 : a.imm = b.imm) (h6 : a.aq = b.aq) (h7 : a.rl = b.rl) : a = b := by
  cases a; cases b; simp_all

/-- Reading what was laid. -/
theorem read_enc {k : Nat} {i : I} (hk : Ok k) (ho : i.op = k) (hr : InR i) (hs : same (only (shp k) i) i = true) (hb : layIB (shp k) i.imm = true) : read (shp k) k (encW (code k) (shp k) i) = i := by
  have hl := encW_lt (code k) (shp k) i
  have hc := encW_cov hk hr hs hb
  have hs' : (bif (shp k).rd then i.rd else 0) = i.rd ∧ (bif (shp k).rs1 then i.rs1 else 0) = i.rs1 ∧ (bif (shp k).rs2 then i.rs2 else 0) = i.rs2 ∧ (bif (shp k).csr then i.csr else 0) = i.csr ∧ (bif hasImm (shp k) then i.imm else 0) = i.imm ∧ ((shp k).ord && i.aq) = i.aq ∧ ((shp k).ord && i.rl) = i.rl := by
    simpa [same, only] using hs
  obtain ⟨q0, q1, q2, q3, q4, q5, q6⟩ := hs'
  have hr1 := hr.rd1; have hr0 := hr.rd0; have hr2 := hr.rs10; have hr3 := hr.rs11; have hr4 := hr.rs20; have hr5 := hr.rs21; have hr6 := hr.csr0; have hr7 := hr.csr1
  generalize hV : encW (code k) (shp k) i = V at *
  refine I_ext (by show (k : Int) = i.op; rw [ho]) ?_ ?_ ?_ ?_ ?_ ?_ ?_
  · show (bif (shp k).rd then bitsOf V 7 5 else 0) = i.rd
    cases hd : (shp k).rd
    · rw [hd] at q0; exact q0
    · exact field_back V i.rd 7 5 hl.1 hl.2 hr0 (by show i.rd < 32; omega) (by omega) (by omega) fun p h1 h2 => hc 0 p (by omega) (by omega) (by simp [cov, hd]; omega)
  · show (bif (shp k).rs1 then bitsOf V 15 5 else 0) = i.rs1
    cases hd : (shp k).rs1
    · rw [hd] at q1; exact q1
    · exact field_back V i.rs1 15 5 hl.1 hl.2 hr2 (by show i.rs1 < 32; omega) (by omega) (by omega) fun p h1 h2 => hc 1 p (by omega) (by omega) (by simp [cov, hd]; omega)
  · show (bif (shp k).rs2 then bitsOf V 20 5 else 0) = i.rs2
    cases hd : (shp k).rs2
    · rw [hd] at q2; exact q2
    · exact field_back V i.rs2 20 5 hl.1 hl.2 hr4 (by show i.rs2 < 32; omega) (by omega) (by omega) fun p h1 h2 => hc 2 p (by omega) (by omega) (by simp [cov, hd]; omega)
  · show (bif (shp k).csr then bitsOf V 20 12 else 0) = i.csr
    cases hd : (shp k).csr
    · rw [hd] at q3; exact q3
    · exact field_back V i.csr 20 12 hl.1 hl.2 hr6 (by show i.csr < 4096; omega) (by omega) (by omega) fun p h1 h2 => hc 3 p (by omega) (by omega) (by simp [cov, hd]; omega)
  · show (bif hasImm (shp k) then immS (shp k) V else 0) = i.imm
    cases hd : hasImm (shp k)
    · rw [hd] at q4; exact q4
    · rw [cond_true]
      have hback := layIB_back hb hd
      have h6 : ∀ p, p < 32 → cov (shp k) 6 p = true → tb V p = tb (layIV (shp k) i.imm) p := fun p hp h => hc 6 p (by omega) hp h
      have hiv := layIV_lt (shp k) i.imm
      refine Eq.trans ?_ hback
      rcases okF_cases hk.fmt with ⟨z, hfm⟩ | ⟨z, c1, c2, c3, c4, c5⟩
      · have hz : decide (0 < (shp k).size) = false := by simp [z]
        have hfm : isF (shp k).fmt := by
          rcases hfm with e | e
          · simp [hasImm, hasI, e, z] at hd
          · exact e
        have hne : ((shp k).fmt != 0) = true := by simpa using isF_ne hfm
        unfold immS
        rw [hz, cond_false, cond_false]
        have ha := imm_lt (shp k).fmt V
        have hb' := imm_lt (shp k).fmt (layIV (shp k) i.imm)
        refine eq_of_tb _ _ ha.1 ha.2 hb'.1 hb'.2 fun p hp => ?_
        obtain ⟨d1, d2, d3, d4⟩ := check_at (shp k).fmt hfm p hp
        rw [tb_imm _ _ p hfm hl.1 hl.2 hp, tb_imm _ _ p hfm hiv.1 hiv.2 hp]
        refine any_congr' fun q hq => h6 q (d3 q hq).1 ?_
        show (bif decide (0 < (shp k).size) then _ else bif (shp k).fmt != 0 then tb (mask (shp k).fmt) q else false) = true
        rw [hz, hne]
        exact (d3 q hq).2
      · have hz : decide (0 < (shp k).size) = true := by simp [c1]
        unfold immS
        rw [hz, cond_true, cond_true]
        refine bitsOf_ext _ _ _ _ hl.1 hl.2 hiv.1 hiv.2 c3 c4 (by omega) fun p h1 h2 h3 => h6 p h2 ?_
        show (bif decide (0 < (shp k).size) then decide ((shp k).low.toNat ≤ p ∧ p - (shp k).low.toNat < (shp k).size.toNat) else _) = true
        rw [hz, cond_true]
        simp only [decide_eq_true_eq]
        omega
  · show ((shp k).ord && (bitsOf V 26 1 == 1)) = i.aq
    cases hd : (shp k).ord
    · rw [hd] at q5; exact q5
    · have : bitsOf V 26 1 = one i.aq := field_back V (one i.aq) 26 1 hl.1 hl.2 (one_lt _).1 (one_lt _).2 (by omega) (by omega) fun p h1 h2 => hc 4 p (by omega) (by omega) (by simp [cov, hd]; omega)
      rw [this, one_eq]; rfl
  · show ((shp k).ord && (bitsOf V 25 1 == 1)) = i.rl
    cases hd : (shp k).ord
    · rw [hd] at q6; exact q6
    · have : bitsOf V 25 1 = one i.rl := field_back V (one i.rl) 25 1 hl.1 hl.2 (one_lt _).1 (one_lt _).2 (by omega) (by omega) fun p h1 h2 => hc 5 p (by omega) (by omega) (by simp [cov, hd]; omega)
      rw [this, one_eq]; rfl
theorem dec_enc {i : I} (h : encE i = 0) : decB (encV i) = true ∧ decI (encV i) = i := by
  obtain ⟨h1, h2, h3, h4⟩ := encE_zero h
  obtain ⟨k, ho, k1, k2⟩ := known_nat h1
  have hk := ok_at k k1 k2
  rw [ho] at h2 h4
  have hr := inR_of h3
  have hv : encV i = encW (code k) (shp k) i := by
    unfold encV encW
    rw [h, ho]; rfl
  have hl := encW_lt (code k) (shp k) i
  have hd : dec (encV i) = k := by rw [hv]; exact dec_eq k1 k2 hl.1 hl.2 (encW_hit hk hr h4 h2)
  refine ⟨?_, ?_⟩
  · rw [decB, hd]; simp; omega
  · rw [decI, hd, hv]; exact read_enc hk ho hr h4 h2
theorem same_refl (i : I) : same i i = true := by simp [same]
end Go.Proofs.YteilpehekabccabGreatDoor.W

/- Laying what was read. -/
namespace Go.Proofs.YteilpehekabccabGreatDoor.W
open Go.RowKit
set_option linter.unusedVariables false
set_option linter.unusedSimpArgs false

theorem read_part {k : Nat} {x : Int} (hk : Ok k) (x0 : 0 ≤ x) (x1 : x < 4294967296) (j p : Nat) (hj : j < 7) (hp : p < 32) : tb (part (shp k) (read (shp k) k x) j) p = (cov (shp k) j p && tb x p) := by
  have fld : ∀ (l n : Nat) (b : Bool), l ≤ 31 → 1 ≤ n → n ≤ 32 → tb (placed (bif b then bitsOf x l n else 0) l n) p = ((b && decide (l ≤ p ∧ p - l < n)) && tb x p) := by
    intro l n b h1 h2 h3
    cases b
    · rw [cond_false, tb_placed0 _ _ _ hp]; rfl
    · have hb := bitsOf_lt x l n
      rw [cond_true, tb_field _ l n p hb.1 hb.2 h1 h2 h3 hp, tb_bitsOf x l n _ x0 x1 (by omega) (by omega) (by omega)]
      simp only [Int.toNat_natCast, show min n 32 = n by omega, Bool.true_and]
      by_cases hh : l ≤ p ∧ p - l < n
      · rw [show p - l + l = p by omega]
        simp [hh]
      · rw [decide_eq_false hh]; rfl
  have bt : ∀ (l : Nat) (b : Bool), l ≤ 31 → tb (placed (one (b && (bitsOf x l 1 == 1))) l (1 : Nat)) p = ((b && decide (p = l)) && tb x p) := by
    intro l b h1
    have ho := one_lt (b && (bitsOf x l 1 == 1))
    rw [tb_field _ l 1 p ho.1 (by omega) h1 (by omega) (by omega) hp, bit_eq x l x0 x1 h1]
    by_cases hh : p = l
    · subst hh
      simp [tb_one]
    · have : ¬ (l ≤ p ∧ p - l < 1) := by omega
      rw [decide_eq_false this, decide_eq_false hh]; simp
  match j, hj with
  | 0, _ =>
    refine (fld 7 5 (shp k).rd (by omega) (by omega) (by omega)).trans ?_
    have : decide (7 ≤ p ∧ p - 7 < 5) = decide (7 ≤ p ∧ p < 12) := decide_eq_decide.2 (by omega)
    rw [this]; rfl
  | 1, _ =>
    refine (fld 15 5 (shp k).rs1 (by omega) (by omega) (by omega)).trans ?_
    have : decide (15 ≤ p ∧ p - 15 < 5) = decide (15 ≤ p ∧ p < 20) := decide_eq_decide.2 (by omega)
    rw [this]; rfl
  | 2, _ =>
    refine (fld 20 5 (shp k).rs2 (by omega) (by omega) (by omega)).trans ?_
    have : decide (20 ≤ p ∧ p - 20 < 5) = decide (20 ≤ p ∧ p < 25) := decide_eq_decide.2 (by omega)
    rw [this]; rfl
  | 3, _ =>
    refine (fld 20 12 (shp k).csr (by omega) (by omega) (by omega)).trans ?_
    have : decide (20 ≤ p ∧ p - 20 < 12) = decide (20 ≤ p ∧ p < 32) := decide_eq_decide.2 (by omega)
    rw [this]; rfl
  | 4, _ => exact bt 26 (shp k).ord (by omega)
  | 5, _ => exact bt 25 (shp k).ord (by omega)
  | 6, _ =>
    show tb (layIV (shp k) (bif hasImm (shp k) then immS (shp k) x else 0)) p = (cov (shp k) 6 p && tb x p)
    unfold layIV
    rcases okF_cases hk.fmt with ⟨z, hfm⟩ | ⟨z, c1, c2, c3, c4, c5⟩
    · have hz : decide (0 < (shp k).size) = false := by simp [z]
      have hcov : cov (shp k) 6 p = (bif (shp k).fmt != 0 then tb (mask (shp k).fmt) p else false) := by
        show (bif decide (0 < (shp k).size) then _ else bif (shp k).fmt != 0 then tb (mask (shp k).fmt) p else false) = _
        rw [hz]; rfl
      rw [hcov]
      rcases hfm with e | e
      · have hi : hasImm (shp k) = false := by simp [hasImm, hasI, e, z]
        rw [hi, e, cond_false, tb_zero]; rfl
      · have hne : ((shp k).fmt != 0) = true := by simpa using isF_ne e
        have hi : hasImm (shp k) = true := by simp [hasImm, hasI, hne]
        have hm := mask_lt (shp k).fmt
        rw [hi, cond_true, cond_true, hz, cond_false, hne, cond_true]
        have e1 : immS (shp k) x = imm (shp k).fmt x := by unfold immS; rw [hz]; rfl
        have e2 : layV (shp k).fmt (imm (shp k).fmt x) = layw (shp k).fmt (imm (shp k).fmt x) := by unfold layV; rw [lay_back _ x e x0 x1]; rfl
        rw [e1, e2, lay_imm _ x e x0 x1, tb_and _ _ p x0 x1 hm.1 hm.2, Bool.and_comm]
    · have hz : decide (0 < (shp k).size) = true := by simp [c1]
      have hi : hasImm (shp k) = true := by simp [hasImm, hasI, c1]
      have hcov : cov (shp k) 6 p = decide ((shp k).low.toNat ≤ p ∧ p - (shp k).low.toNat < (shp k).size.toNat) := by
        show (bif decide (0 < (shp k).size) then decide ((shp k).low.toNat ≤ p ∧ p - (shp k).low.toNat < (shp k).size.toNat) else _) = _
        rw [hz]; rfl
      have e1 : immS (shp k) x = bitsOf x (shp k).low (shp k).size := by unfold immS; rw [hz]; rfl
      rw [hcov, hi, cond_true, cond_true, hz, cond_true, e1]
      have : lone (bitsOf x (shp k).low (shp k).size) (shp k).low (shp k).size = moved x (shp k).low (shp k).low (shp k).size := rfl
      rw [this, tb_moved x _ _ _ p x0 x1 c3 c4 c3 c4 (by omega) hp]
      by_cases hh : (shp k).low.toNat ≤ p ∧ p - (shp k).low.toNat < (shp k).size.toNat
      · rw [show p - (shp k).low.toNat + (shp k).low.toNat = p by omega]
      · rw [decide_eq_false hh]; rfl
theorem bits_le (x : Int) (l n : Nat) (x0 : 0 ≤ x) (x1 : x < 4294967296) (hl : l ≤ 31) (hn : 1 ≤ n) (hn2 : n ≤ 12) : 0 ≤ bitsOf x l n ∧ bitsOf x l n < 2 ^ n := by
  rw [bitsOf_eq x l n x0 x1 (by omega) (by omega) (by omega)]
  simp only [Int.toNat_natCast, show min n 32 = n by omega]
  exact ⟨Int.emod_nonneg _ (Int.ne_of_gt (Int.pow_pos (by omega))), Int.emod_lt_of_pos _ (Int.pow_pos (by omega))⟩
theorem read_ok {k : Nat} {x : Int} (k1 : 1 ≤ k) (k2 : k ≤ 69) (x0 : 0 ≤ x) (x1 : x < 4294967296) : encE (read (shp k) k x) = 0 ∧ InR (read (shp k) k x) := by
  have hk := ok_at k k1 k2
  have a1 := bits_le x 7 5 x0 x1 (by omega) (by omega) (by omega)
  have a2 := bits_le x 15 5 x0 x1 (by omega) (by omega) (by omega)
  have a3 := bits_le x 20 5 x0 x1 (by omega) (by omega) (by omega)
  have a4 := bits_le x 20 12 x0 x1 (by omega) (by omega) (by omega)
  have hr : InR (read (shp k) k x) := by
    refine ⟨?_, ?_, ?_, ?_, ?_, ?_, ?_, ?_⟩
    · show 0 ≤ (bif (shp k).rd then bitsOf x 7 5 else 0); cases (shp k).rd <;> simp; exact a1.1
    · show (bif (shp k).rd then bitsOf x 7 5 else 0) ≤ 31; have := a1.2; cases (shp k).rd <;> simp; simp at this; omega
    · show 0 ≤ (bif (shp k).rs1 then bitsOf x 15 5 else 0); cases (shp k).rs1 <;> simp; exact a2.1
    · show (bif (shp k).rs1 then bitsOf x 15 5 else 0) ≤ 31; have := a2.2; cases (shp k).rs1 <;> simp; simp at this; omega
    · show 0 ≤ (bif (shp k).rs2 then bitsOf x 20 5 else 0); cases (shp k).rs2 <;> simp; exact a3.1
    · show (bif (shp k).rs2 then bitsOf x 20 5 else 0) ≤ 31; have := a3.2; cases (shp k).rs2 <;> simp; simp at this; omega
    · show 0 ≤ (bif (shp k).csr then bitsOf x 20 12 else 0); cases (shp k).csr <;> simp; exact a4.1
    · show (bif (shp k).csr then bitsOf x 20 12 else 0) ≤ 4095; have := a4.2; cases (shp k).csr <;> simp; simp at this; omega
  have hrange : inRange (read (shp k) k x) = true := by
    simp [inRange, fr, hr.rd0, hr.rd1, hr.rs10, hr.rs11, hr.rs20, hr.rs21, hr.csr0, hr.csr1]
  have hs : same (only (shp k) (read (shp k) k x)) (read (shp k) k x) = true := by
    unfold read only same
    cases (shp k).rd <;> cases (shp k).rs1 <;> cases (shp k).rs2 <;> cases (shp k).csr <;> cases hasImm (shp k) <;> cases (shp k).ord <;> simp
  have hb : layIB (shp k) (read (shp k) k x).imm = true := by
    show layIB (shp k) (bif hasImm (shp k) then immS (shp k) x else 0) = true
    unfold layIB
    rcases okF_cases hk.fmt with ⟨z, hfm⟩ | ⟨z, c1, c2, c3, c4, c5⟩
    · have hz : decide (0 < (shp k).size) = false := by simp [z]
      rcases hfm with e | e
      · have hi : hasImm (shp k) = false := by simp [hasImm, hasI, e, z]
        rw [hi]; rfl
      · have hne : ((shp k).fmt != 0) = true := by simpa using isF_ne e
        have hi : hasImm (shp k) = true := by simp [hasImm, hasI, hne]
        have e1 : immS (shp k) x = imm (shp k).fmt x := by unfold immS; rw [hz]; rfl
        rw [hi, cond_true, cond_true, hz, cond_false, e1]
        exact lay_back _ x e x0 x1
    · have hz : decide (0 < (shp k).size) = true := by simp [c1]
      have hi : hasImm (shp k) = true := by simp [hasImm, hasI, c1]
      have e1 : ∀ y, immS (shp k) y = bitsOf y (shp k).low (shp k).size := fun y => by unfold immS; rw [hz]; rfl
      rw [hi, cond_true, cond_true, hz, cond_true, e1, e1]
      have hm := moved_lt x (shp k).low (shp k).low (shp k).size
      have : bitsOf (moved x (shp k).low (shp k).low (shp k).size) (shp k).low (shp k).size = bitsOf x (shp k).low (shp k).size := by
        refine bitsOf_ext _ _ _ _ hm.1 hm.2 x0 x1 c3 c4 (by omega) fun p h1 h2 h3 => ?_
        rw [tb_moved x _ _ _ p x0 x1 c3 c4 c3 c4 (by omega) h2]
        have hh : (shp k).low.toNat ≤ p ∧ p - (shp k).low.toNat < (shp k).size.toNat := by omega
        rw [decide_eq_true hh, show p - (shp k).low.toNat + (shp k).low.toNat = p by omega]; rfl
      show (bitsOf (moved x (shp k).low (shp k).low (shp k).size) (shp k).low (shp k).size == bitsOf x (shp k).low (shp k).size) = true
      rw [this]; simp
  have hkn : known (read (shp k) k x).op = true := by
    show known (k : Int) = true
    simp [known, fr]; omega
  have he : encE (read (shp k) k x) = 0 := by
    unfold encE
    rw [hkn]
    show (bif layIB (shp k) (read (shp k) k x).imm && inRange (read (shp k) k x) then (bif same (only (shp k) (read (shp k) k x)) (read (shp k) k x) then 0 else 3) else 2) = 0
    rw [hb, hrange, hs]; rfl
  exact ⟨he, hr⟩
theorem enc_read {k : Nat} {x : Int} (k1 : 1 ≤ k) (k2 : k ≤ 69) (x0 : 0 ≤ x) (x1 : x < 4294967296) (h : hit x k = true) : encE (read (shp k) k x) = 0 ∧ encV (read (shp k) k x) = x := by
  have hk := ok_at k k1 k2
  obtain ⟨he, hr⟩ := read_ok k1 k2 x0 x1
  refine ⟨he, ?_⟩
  have hv : encV (read (shp k) k x) = encW (code k) (shp k) (read (shp k) k x) := by
    unfold encV encW
    rw [he]; rfl
  have hl := encW_lt (code k) (shp k) (read (shp k) k x)
  rw [hv]
  refine eq_of_tb _ _ hl.1 hl.2 x0 x1 fun p hp => ?_
  rw [tb_encW _ _ _ hk.c0 hk.c1 hr p hp, hit_tb hk x0 x1 h p hp]
  have : ((List.range 7).any fun j => tb (part (shp k) (read (shp k) k x) j) p) = (!tb (shp k).fixed p && tb x p) := by
    rw [← hk.all p hp]
    have hl : List.range 7 = [0, 1, 2, 3, 4, 5, 6] := by decide
    rw [hl]
    simp only [List.any_cons, List.any_nil, Bool.or_false, read_part hk x0 x1 _ p (show 0 < 7 by omega) hp, read_part hk x0 x1 _ p (show 1 < 7 by omega) hp, read_part hk x0 x1 _ p (show 2 < 7 by omega) hp, read_part hk x0 x1 _ p (show 3 < 7 by omega) hp, read_part hk x0 x1 _ p (show 4 < 7 by omega) hp, read_part hk x0 x1 _ p (show 5 < 7 by omega) hp, read_part hk x0 x1 _ p (show 6 < 7 by omega) hp]
    generalize tb x p = b
    cases b <;> simp
  rw [this]
  cases tb x p <;> cases tb (shp k).fixed p <;> rfl
theorem enc_dec {x : Int} (x0 : 0 ≤ x) (x1 : x < 4294967296) (h : decB x = true) : encE (decI x) = 0 ∧ encV (decI x) = x := by
  obtain ⟨h1, h2, h3⟩ := dec_hit x h
  exact enc_read h1 h2 x0 x1 h3
end Go.Proofs.YteilpehekabccabGreatDoor.W

/- The document's rows against the shapes. -/
namespace Go.Proofs.YteilpehekabccabGreatDoor.W
open Go.RowKit
set_option linter.unusedVariables false
set_option linter.unusedSimpArgs false

def fmOk (fm : Int) (s : Sh) : Bool := (fm == 0 && !hasImm s) || (fm == 90 && s.fmt == 0 && s.low == 20 && s.size == 5) || (fm == 67 && s.fmt == 0 && s.low == 15 && s.size == 5) || (fm == 70 && s.fmt == 0 && s.low == 20 && s.size == 8) || ((fm == 73 || fm == 83 || fm == 66 || fm == 85 || fm == 74) && s.fmt == fm && s.size == 0)
def rwOk (k : Nat) : Bool :=
  fmOk (rw k).fm (shp ((k + 1 : Nat) : Int)) && (bif (rw k).wh != 0 then ((rw k).wh == code (k + 1)) && ((shp ((k + 1 : Nat) : Int)).fixed == 4294967295) else
   (bits .or .u32 (rhead (rw k)) (bif (rw k).pair then (rw k).f7 * 134217728 % 4294967296 else (rw k).f7 * 33554432 % 4294967296) == code (k + 1)))
theorem rwOkAll : ((List.range 69).all rwOk) = true := by decide +kernel
theorem fmOk_cases {fm : Int} {s : Sh} (h : fmOk fm s = true) : (fm = 0 ∧ hasImm s = false) ∨ (fm = 90 ∧ s.fmt = 0 ∧ s.low = 20 ∧ s.size = 5) ∨ (fm = 67 ∧ s.fmt = 0 ∧ s.low = 15 ∧ s.size = 5) ∨ (fm = 70 ∧ s.fmt = 0 ∧ s.low = 20 ∧ s.size = 8) ∨ (isF fm ∧ s.fmt = fm ∧ s.size = 0) := by
  unfold fmOk at h
  simp only [Bool.or_eq_true, Bool.and_eq_true, beq_iff_eq, Bool.not_eq_true'] at h
  unfold isF
  rcases h with (((h | h) | h) | h) | h
  · exact Or.inl h
  · exact Or.inr (Or.inl ⟨h.1.1.1, h.1.1.2, h.1.2, h.2⟩)
  · exact Or.inr (Or.inr (Or.inl ⟨h.1.1.1, h.1.1.2, h.1.2, h.2⟩))
  · exact Or.inr (Or.inr (Or.inr (Or.inl ⟨h.1.1.1, h.1.1.2, h.1.2, h.2⟩)))
  · exact Or.inr (Or.inr (Or.inr (Or.inr ⟨by omega, h.1.2, h.2⟩)))

theorem pow_le_w (n : Nat) (h : n ≤ 32) : (2 : Int) ^ n ≤ 4294967296 := by
  have := Nat.pow_le_pow_right (show 0 < 2 by omega) h
  have h2 : ((2 ^ n : Nat) : Int) ≤ ((2 ^ 32 : Nat) : Int) := by exact_mod_cast this
  simpa using h2
theorem placed_small (v : Int) (l n : Nat) (v0 : 0 ≤ v) (v1 : v < 2 ^ n) (hn : 1 ≤ n) (hl : l + n ≤ 32) : v % 4294967296 * 2 ^ l % 4294967296 = placed v l n := by
  have hp := pow_le_w n (by omega)
  have hw : within (l : Int) (n : Int) = true := by simp [within]; omega
  rw [← placed_ref v l n v0 (by omega) hw, bitsOf_eq v 0 n v0 (by omega) (by omega) (by omega) (by omega)]
  simp only [Int.toNat_natCast, show min n 32 = n by omega, Int.toNat_zero, Int.pow_zero, Int.ediv_one]
  rw [Int.emod_eq_of_lt v0 (show v < 4294967296 by omega), Int.emod_eq_of_lt v0 v1]

theorem small_back (v : Int) (l n : Nat) (v0 : 0 ≤ v) (v1 : v < 4294967296) (hn : 1 ≤ n) (hn2 : n ≤ 12) (hl : l + n ≤ 32) : (bitsOf (placed v l n) l n == v) = decide (v < 2 ^ n) := by
  have hp := placed_lt v l n
  by_cases h : v < 2 ^ n
  · rw [field_back (placed v l n) v l n hp.1 hp.2 v0 h hn hl fun _ _ _ => rfl]
    simp [h]
  · have := bits_le (placed v l n) l n hp.1 hp.2 (by omega) hn hn2
    have : ¬ bitsOf (placed v l n) l n = v := by omega
    simp [h, this]

theorem immS_field {s : Sh} {l n : Int} (h1 : s.low = l) (h2 : s.size = n) (h3 : 0 < n) (y : Int) : immS s y = bitsOf y l n := by
  unfold immS
  rw [h1, h2, decide_eq_true h3]; rfl
theorem hasImm_size {s : Sh} {n : Int} (h2 : s.size = n) (h3 : 0 < n) : hasImm s = true := by
  unfold hasImm hasI
  rw [h2, decide_eq_true h3, Bool.or_true]
theorem layIB_field {s : Sh} {l n : Nat} (h1 : s.low = l) (h2 : s.size = n) (hn : 1 ≤ n) (hn2 : n ≤ 12) (hl : l + n ≤ 32) (v : Int) (v0 : 0 ≤ v) (v1 : v < 4294967296) : layIB s v = decide (v < 2 ^ n) := by
  unfold layIB
  have hz : decide (0 < s.size) = true := by rw [h2]; simp; omega
  rw [hasImm_size h2 (by omega), hz, cond_true, cond_true, lone_placed, immS_field h1 h2 (by omega), h1, h2]
  exact small_back v l n v0 v1 hn hn2 hl
theorem layIV_field {s : Sh} {l n : Nat} (h1 : s.low = l) (h2 : s.size = n) (hn : 1 ≤ n) (hl : l + n ≤ 32) (v : Int) (v0 : 0 ≤ v) (v1 : v < 2 ^ n) : layIV s v = v * 2 ^ l % 4294967296 := by
  unfold layIV
  have hz : decide (0 < s.size) = true := by rw [h2]; simp; omega
  have hp := pow_le_w n (by omega)
  rw [hasImm_size h2 (by omega), hz, cond_true, cond_true, lone_placed, h1, h2, ← placed_small v l n v0 v1 hn hl, Int.emod_eq_of_lt v0 (show v < 4294967296 by omega)]

theorem layIB_f {s : Sh} {fm : Int} (hf : isF fm) (h1 : s.fmt = fm) (h2 : s.size = 0) : hasImm s = true ∧ (∀ v, layIB s v = layB fm v) ∧ (∀ v, layIV s v = layV fm v) ∧ ∀ x, immS s x = imm fm x := by
  have hne : (s.fmt != 0) = true := by rw [h1]; simpa using isF_ne hf
  have hz : decide (0 < s.size) = false := by rw [h2]; rfl
  have hi : hasImm s = true := by unfold hasImm hasI; rw [hne, Bool.true_or]
  refine ⟨hi, fun v => ?_, fun v => ?_, fun v => ?_⟩
  · unfold layIB; rw [hi, hz, h1]; rfl
  · unfold layIV; rw [hi, hz, h1]; rfl
  · unfold immS; rw [hz, h1]; rfl
theorem isF_odd {f : Int} (h : isF f) : (f == 0) = false ∧ (f == 90) = false ∧ (f == 67) = false ∧ (f == 70) = false := by
  rcases h with rfl | rfl | rfl | rfl | rfl <;> decide

theorem rlayB_eq {fm : Int} {s : Sh} (h : fmOk fm s = true) (v : Int) (v0 : 0 ≤ v) (v1 : v < 4294967296) : layIB s v = (fm == 0 || rlayB fm v) := by
  rcases fmOk_cases h with ⟨rfl, hi⟩ | ⟨rfl, a, b, c⟩ | ⟨rfl, a, b, c⟩ | ⟨rfl, a, b, c⟩ | ⟨hf, a, b⟩
  · unfold layIB; rw [hi]; rfl
  · exact layIB_field (l := 20) (n := 5) b c (by omega) (by omega) (by omega) v v0 v1
  · exact layIB_field (l := 15) (n := 5) b c (by omega) (by omega) (by omega) v v0 v1
  · exact layIB_field (l := 20) (n := 8) b c (by omega) (by omega) (by omega) v v0 v1
  · obtain ⟨o1, o2, o3, o4⟩ := isF_odd hf
    rw [(layIB_f hf a b).2.1, rlayB, o1, o2, o3, o4]; rfl
theorem rlayV_eq {fm : Int} {s : Sh} (h : fmOk fm s = true) (v : Int) (v0 : 0 ≤ v) (v1 : v < 4294967296) (hb : layIB s v = true) : rlayV fm v = layIV s v := by
  rcases fmOk_cases h with ⟨rfl, hi⟩ | ⟨rfl, a, b, c⟩ | ⟨rfl, a, b, c⟩ | ⟨rfl, a, b, c⟩ | ⟨hf, a, b⟩
  · unfold layIV; rw [hi]; rfl
  · rw [layIB_field (l := 20) (n := 5) b c (by omega) (by omega) (by omega) v v0 v1] at hb
    exact (layIV_field (l := 20) (n := 5) b c (by omega) (by omega) v v0 (of_decide_eq_true hb)).symm
  · rw [layIB_field (l := 15) (n := 5) b c (by omega) (by omega) (by omega) v v0 v1] at hb
    exact (layIV_field (l := 15) (n := 5) b c (by omega) (by omega) v v0 (of_decide_eq_true hb)).symm
  · rw [layIB_field (l := 20) (n := 8) b c (by omega) (by omega) (by omega) v v0 v1] at hb
    exact (layIV_field (l := 20) (n := 8) b c (by omega) (by omega) v v0 (of_decide_eq_true hb)).symm
  · obtain ⟨o1, o2, o3, o4⟩ := isF_odd hf
    rw [(layIB_f hf a b).2.2.1, rlayV, o1, o2, o3, o4]; rfl
theorem rimm_eq {fm : Int} {s : Sh} (h : fmOk fm s = true) (x : Int) : rimm fm x = bif hasImm s then immS s x else 0 := by
  rcases fmOk_cases h with ⟨rfl, hi⟩ | ⟨rfl, a, b, c⟩ | ⟨rfl, a, b, c⟩ | ⟨rfl, a, b, c⟩ | ⟨hf, a, b⟩
  · rw [hi]; simp [rimm, imm, wid, sgn]
  · rw [hasImm_size c (by omega), cond_true, immS_field b c (by omega)]; rfl
  · rw [hasImm_size c (by omega), cond_true, immS_field b c (by omega)]; rfl
  · rw [hasImm_size c (by omega), cond_true, immS_field b c (by omega)]; rfl
  · obtain ⟨o1, o2, o3, o4⟩ := isF_odd hf
    rw [(layIB_f hf a b).1, cond_true, (layIB_f hf a b).2.2.2, rimm, o2, o3, o4]; rfl

theorem tb_aq (b : Bool) (h : Int) (h0 : 0 ≤ h) (h1 : h < 4294967296) (p : Nat) (hp : p < 32) : (0 ≤ raq b h ∧ raq b h < 4294967296) ∧ tb (raq b h) p = (tb h p || tb (placed (one b) 26 1) p) := by
  cases b
  · exact ⟨⟨h0, h1⟩, by rw [show one false = 0 from rfl, tb_placed0 _ _ _ hp, Bool.or_false]; rfl⟩
  · refine ⟨or_lt _ _, ?_⟩
    show tb (bits .or .u32 h 67108864) p = _
    rw [tb_or _ _ p h0 h1 (by decide) (by decide), show placed (one true) 26 1 = 67108864 from by decide +kernel]
theorem tb_rl (b : Bool) (h : Int) (h0 : 0 ≤ h) (h1 : h < 4294967296) (p : Nat) (hp : p < 32) : (0 ≤ rrl b h ∧ rrl b h < 4294967296) ∧ tb (rrl b h) p = (tb h p || tb (placed (one b) 25 1) p) := by
  cases b
  · exact ⟨⟨h0, h1⟩, by rw [show one false = 0 from rfl, tb_placed0 _ _ _ hp, Bool.or_false]; rfl⟩
  · refine ⟨or_lt _ _, ?_⟩
    show tb (bits .or .u32 h 33554432) p = _
    rw [tb_or _ _ p h0 h1 (by decide) (by decide), show placed (one true) 25 1 = 33554432 from by decide +kernel]

theorem rword_enc {k : Nat} (hk : k < 69) {i : I} (ho : i.op = ((k + 1 : Nat) : Int)) (m0 : 0 ≤ i.imm) (m1 : i.imm < 4294967296) (he : encE i = 0) : rword (rw k) i = encV i := by
  obtain ⟨h1, h2, h3, h4⟩ := encE_zero he
  rw [ho] at h2 h4
  have hr := inR_of h3
  have hK := ok_at (k + 1) (by omega) (by omega)
  have hv : encV i = encW (code (k + 1)) (shp ((k + 1 : Nat) : Int)) i := by
    unfold encV encW
    rw [he, ho]; rfl
  have hl := encW_lt (code (k + 1)) (shp ((k + 1 : Nat) : Int)) i
  have hrw := List.all_eq_true.1 rwOkAll k (List.mem_range.2 hk)
  rw [rwOk, Bool.and_eq_true] at hrw
  obtain ⟨hfm, hw⟩ := hrw
  rw [hv]
  unfold rword
  cases hwh : ((rw k).wh != 0)
  case true =>
    rw [hwh, cond_true, Bool.and_eq_true] at hw
    rw [cond_true, beq_iff_eq.1 hw.1]
    refine eq_of_tb _ _ hK.c0 hK.c1 hl.1 hl.2 fun p hp => (encW_fixed hK hr h4 h2 p hp ?_).symm
    rw [beq_iff_eq.1 hw.2]
    have : ((List.range 32).all fun p => tb 4294967295 p) = true := by decide +kernel
    exact List.all_eq_true.1 this p (List.mem_range.2 hp)
  case false =>
    rw [hwh, cond_false] at hw
    rw [cond_false]
    have hw := beq_iff_eq.1 hw
    have hs' : (bif (shp ((k + 1 : Nat) : Int)).rd then i.rd else 0) = i.rd ∧ (bif (shp ((k + 1 : Nat) : Int)).rs1 then i.rs1 else 0) = i.rs1 ∧ (bif (shp ((k + 1 : Nat) : Int)).rs2 then i.rs2 else 0) = i.rs2 ∧ (bif (shp ((k + 1 : Nat) : Int)).csr then i.csr else 0) = i.csr ∧ (bif hasImm (shp ((k + 1 : Nat) : Int)) then i.imm else 0) = i.imm ∧ ((shp ((k + 1 : Nat) : Int)).ord && i.aq) = i.aq ∧ ((shp ((k + 1 : Nat) : Int)).ord && i.rl) = i.rl := by
      simpa only [same, only, Bool.and_eq_true, beq_iff_eq, true_and] using h4
    obtain ⟨q0, q1, q2, q3, q4, q5, q6⟩ := hs'
    have H : ∀ p, p < 32 → ∃ h, (bif (rw k).pair then rrl i.rl (raq i.aq (bits .or .u32 (rhead (rw k)) ((rw k).f7 * 134217728 % 4294967296))) else bits .or .u32 (rhead (rw k)) ((rw k).f7 * 33554432 % 4294967296)) = h ∧ (0 ≤ h ∧ h < 4294967296) ∧ tb h p = (tb (code (k + 1)) p || tb (placed (one i.aq) 26 1) p || tb (placed (one i.rl) 25 1) p) := by
      intro p hp
      refine ⟨_, rfl, ?_⟩
      cases hpr : (rw k).pair
      · rw [hpr, cond_false] at hw
        have hor : (shp ((k + 1 : Nat) : Int)).ord = false := hpr
        rw [hor, Bool.false_and] at q5 q6
        rw [cond_false, hw, ← q5, ← q6, show one false = 0 from rfl, tb_placed0 _ _ _ hp, tb_placed0 _ _ _ hp, Bool.or_false, Bool.or_false]
        exact ⟨⟨hK.c0, hK.c1⟩, rfl⟩
      · rw [hpr, cond_true] at hw
        rw [cond_true, hw]
        obtain ⟨a1, a2⟩ := tb_aq i.aq _ hK.c0 hK.c1 p hp
        obtain ⟨b1, b2⟩ := tb_rl i.rl _ a1.1 a1.2 p hp
        exact ⟨b1, by rw [b2, a2]⟩
    unfold rtail
    refine eq_of_tb _ _ (or_lt _ _).1 (or_lt _ _).2 hl.1 hl.2 fun p hp => ?_
    obtain ⟨h, e, hb, ht⟩ := H p hp
    rw [e]
    have iv := layIV_lt (shp ((k + 1 : Nat) : Int)) i.imm
    have f1 : i.rd % 4294967296 * 128 % 4294967296 = placed i.rd 7 5 := placed_small i.rd 7 5 hr.rd0 (by have := hr.rd1; show i.rd < 32; omega) (by omega) (by omega)
    have f2 : i.rs1 % 4294967296 * 32768 % 4294967296 = placed i.rs1 15 5 := placed_small i.rs1 15 5 hr.rs10 (by have := hr.rs11; show i.rs1 < 32; omega) (by omega) (by omega)
    have f3 : i.rs2 % 4294967296 * 1048576 % 4294967296 = placed i.rs2 20 5 := placed_small i.rs2 20 5 hr.rs20 (by have := hr.rs21; show i.rs2 < 32; omega) (by omega) (by omega)
    have f4 : i.csr % 4294967296 * 1048576 % 4294967296 = placed i.csr 20 12 := placed_small i.csr 20 12 hr.csr0 (by have := hr.csr1; show i.csr < 4096; omega) (by omega) (by omega)
    rw [f1, f2, f3, f4, rlayV_eq hfm i.imm m0 m1 h2]
    rw [tb_or _ _ p (or_lt _ _).1 (or_lt _ _).2 (placed_lt _ _ _).1 (placed_lt _ _ _).2, tb_or _ _ p (or_lt _ _).1 (or_lt _ _).2 (placed_lt _ _ _).1 (placed_lt _ _ _).2, tb_or _ _ p (or_lt _ _).1 (or_lt _ _).2 (placed_lt _ _ _).1 (placed_lt _ _ _).2, tb_or _ _ p (or_lt _ _).1 (or_lt _ _).2 (placed_lt _ _ _).1 (placed_lt _ _ _).2, tb_or _ _ p hb.1 hb.2 iv.1 iv.2, ht, tb_encW _ _ _ hK.c0 hK.c1 hr p hp]
    have hl : List.range 7 = [0, 1, 2, 3, 4, 5, 6] := by decide
    rw [hl]
    simp only [List.any_cons, List.any_nil, Bool.or_false, part]
    generalize tb (code (k + 1)) p = b0
    generalize tb (layIV (shp ((k + 1 : Nat) : Int)) i.imm) p = b1
    generalize tb (placed i.rd 7 5) p = b2
    generalize tb (placed i.rs1 15 5) p = b3
    generalize tb (placed i.rs2 20 5) p = b4
    generalize tb (placed i.csr 20 12) p = b5
    generalize tb (placed (one i.aq) 26 1) p = b6
    generalize tb (placed (one i.rl) 25 1) p = b7
    cases b0 <;> cases b1 <;> cases b2 <;> cases b3 <;> cases b4 <;> cases b5 <;> cases b6 <;> cases b7 <;> rfl

/-- What Decode reads by row k. -/
def rread (r : Rw) (x : Int) : I := ⟨r.op, bif r.rd then bitsOf x 7 5 else 0, bif r.rs1 then bitsOf x 15 5 else 0, bif r.rs2 then bitsOf x 20 5 else 0, bif r.csr then bitsOf x 20 12 else 0, rimm r.fm x, r.pair && (bitsOf x 26 1 == 1), r.pair && (bitsOf x 25 1 == 1)⟩
theorem rread_eq {k : Nat} (hk : k < 69) (x : Int) : rread (rw k) x = read (shp ((k + 1 : Nat) : Int)) ((k + 1 : Nat) : Int) x := by
  have hrw := List.all_eq_true.1 rwOkAll k (List.mem_range.2 hk)
  rw [rwOk, Bool.and_eq_true] at hrw
  unfold rread read only readAll
  rw [rimm_eq hrw.1]
  rfl
theorem rread_hit {k : Nat} (hk : k < 69) {x : Int} (x0 : 0 ≤ x) (x1 : x < 4294967296) : (rword (rw k) (rread (rw k) x) == x) = hit x (k + 1) := by
  have hK := ok_at (k + 1) (by omega) (by omega)
  obtain ⟨he, hr⟩ := read_ok (k := k + 1) (by omega) (by omega) x0 x1
  rw [rread_eq hk]
  have hm : 0 ≤ (read (shp ((k + 1 : Nat) : Int)) ((k + 1 : Nat) : Int) x).imm ∧ (read (shp ((k + 1 : Nat) : Int)) ((k + 1 : Nat) : Int) x).imm < 4294967296 := by
    show 0 ≤ (bif hasImm (shp ((k + 1 : Nat) : Int)) then immS (shp ((k + 1 : Nat) : Int)) x else 0) ∧ (bif hasImm (shp ((k + 1 : Nat) : Int)) then immS (shp ((k + 1 : Nat) : Int)) x else 0) < 4294967296
    cases hasImm (shp ((k + 1 : Nat) : Int))
    · rw [cond_false]; decide
    · unfold immS
      cases decide (0 < (shp ((k + 1 : Nat) : Int)).size)
      · exact imm_lt _ _
      · exact bitsOf_lt _ _ _
  rw [rword_enc hk rfl hm.1 hm.2 he]
  cases hh : hit x (k + 1)
  · rw [beq_eq_false_iff_ne]
    intro e
    obtain ⟨h1, h2, h3, h4⟩ := encE_zero he
    have hv : encV (read (shp ((k + 1 : Nat) : Int)) ((k + 1 : Nat) : Int) x) = encW (code (k + 1)) (shp ((k + 1 : Nat) : Int)) (read (shp ((k + 1 : Nat) : Int)) ((k + 1 : Nat) : Int) x) := by
      unfold encV encW
      rw [he]; rfl
    have := encW_hit hK hr h4 h2
    rw [← hv, e, hh] at this
    cases this
  · rw [beq_iff_eq]
    exact (enc_read (by omega) (by omega) x0 x1 hh).2
theorem whole_hit {k : Nat} (hk : k < 69) {x : Int} (x0 : 0 ≤ x) (x1 : x < 4294967296) (hw : ((rw k).wh != 0) = true) : (x == (rw k).wh) = hit x (k + 1) := by
  have := rread_hit hk x0 x1
  rw [rword, hw, cond_true] at this
  rw [← this, Bool.eq_iff_iff, beq_iff_eq, beq_iff_eq]
  exact eq_comm
theorem whole_read {k : Nat} (hk : k < 69) (x : Int) (hw : ((rw k).wh != 0) = true) : read (shp ((k + 1 : Nat) : Int)) ((k + 1 : Nat) : Int) x = ⟨((k + 1 : Nat) : Int), 0, 0, 0, 0, 0, false, false⟩ := by
  have : ((List.range 69).all fun k => !((rw k).wh != 0) || (!(shp ((k + 1 : Nat) : Int)).rd && !(shp ((k + 1 : Nat) : Int)).rs1 && !(shp ((k + 1 : Nat) : Int)).rs2 && !(shp ((k + 1 : Nat) : Int)).csr && !(shp ((k + 1 : Nat) : Int)).ord && !hasImm (shp ((k + 1 : Nat) : Int)))) = true := by decide +kernel
  have := List.all_eq_true.1 this k (List.mem_range.2 hk)
  rw [hw, Bool.not_true, Bool.false_or] at this
  simp only [Bool.and_eq_true, Bool.not_eq_true'] at this
  obtain ⟨⟨⟨⟨⟨a, b⟩, c⟩, d⟩, e⟩, f⟩ := this
  unfold read only readAll
  rw [a, b, c, d, e, f]
  rfl
end Go.Proofs.YteilpehekabccabGreatDoor.W

/- The numbers of the document's errors. -/
namespace Go.Proofs.YteilpehekabccabGreatDoor
/-- The document's number of an error. -/
def num : Nat → Int
  | 0 => 0
  | 1 => 102
  | 2 => 106
  | _ => 104
end Go.Proofs.YteilpehekabccabGreatDoor
