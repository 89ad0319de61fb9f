/- Texts in one: Math8, Math9, Math10, Math11, DepN0. -/
import Derived.Test.YtopehmpjfndgjaaJ26
/- Reading what was laid, and laying what was read. -/
namespace Go.Proofs.Ytopehmpjfndgjaa.W
open Go.RowKit
set_option linter.unusedVariables false
set_option linter.unusedSimpArgs false

theorem tb_zero (p : Nat) : tb 0 p = false := by simp [tb]
theorem tb_small (v : Int) (n q : Nat) (v0 : 0 ≤ v) (v1 : v < 2 ^ n) (h : n ≤ q) : tb v q = false := by
  obtain ⟨a, rfl⟩ := Int.eq_ofNat_of_zero_le v0
  have ha : a < 2 ^ n := by exact_mod_cast v1
  show a.testBit q = false
  exact Nat.testBit_lt_two_pow (Nat.lt_of_lt_of_le ha (Nat.pow_le_pow_right (by omega) h))
theorem tb_placed0 (low n : Int) (p : Nat) (hp : p < 32) : tb (placed 0 low n) p = false := by
  cases hw : within low n
  · unfold placed; rw [hw]; simp [tb]
  · have h1 : 0 ≤ low ∧ low ≤ 31 ∧ 1 ≤ n := by simpa [within] using hw
    rw [tb_placed 0 low n p (by decide) (by decide) h1.1 h1.2.1 h1.2.2 hp, tb_zero, Bool.and_false]
/-- A field of n bits from bit l on. -/
theorem tb_field (v : Int) (l n : Nat) (p : Nat) (v0 : 0 ≤ v) (v1 : v < 4294967296) (hl : l ≤ 31) (hn : 1 ≤ n) (hn2 : n ≤ 32) (hp : p < 32) : tb (placed v l n) p = (decide (l ≤ p ∧ p - l < n) && tb v (p - l)) := by
  rw [tb_placed v l n p v0 v1 (by omega) (by omega) (by omega) hp]
  simp only [Int.toNat_natCast, show min n 32 = n by omega]
theorem field_back (V v : Int) (l n : Nat) (V0 : 0 ≤ V) (V1 : V < 4294967296) (v0 : 0 ≤ v) (v1 : v < 2 ^ n) (hn : 1 ≤ n) (hl : l + n ≤ 32) (h : ∀ p, l ≤ p → p < l + n → tb V p = tb (placed v l n) p) : bitsOf V l n = v := by
  have hb := bitsOf_lt V l n
  have hv : v < 4294967296 := by
    have : (2 : Int) ^ n ≤ 2 ^ 32 := by
      have := Nat.pow_le_pow_right (show 0 < 2 by omega) (show n ≤ 32 by omega)
      exact_mod_cast this
    omega
  refine eq_of_tb _ _ hb.1 hb.2 v0 hv fun q hq => ?_
  rw [tb_bitsOf V l n q V0 V1 (by omega) (by omega) (by omega)]
  simp only [Int.toNat_natCast, show min n 32 = n by omega]
  by_cases h1 : q < n
  · rw [h (q + l) (by omega) (by omega), tb_field v l n (q + l) v0 hv (by omega) hn (by omega) (by omega)]
    have : q + l - l = q := by omega
    simp [h1, this]
  · rw [tb_small v n q v0 v1 (by omega)]
    simp [h1]
theorem one_lt (b : Bool) : 0 ≤ one b ∧ one b < 2 := by cases b <;> decide
theorem tb_one (b : Bool) : tb (one b) 0 = b := by cases b <;> decide
theorem one_eq (b : Bool) : (one b == 1) = b := by cases b <;> decide
theorem bit_eq (x : Int) (l : Nat) (x0 : 0 ≤ x) (x1 : x < 4294967296) (hl : l ≤ 31) : (bitsOf x l 1 == 1) = tb x l := by
  have h : tb (bitsOf x l 1) 0 = tb x l := by
    rw [tb_bitsOf x l 1 0 x0 x1 (by omega) (by omega) (by omega)]; simp
  have e := bitsOf_eq x l 1 x0 x1 (by omega) (by omega) (by omega)
  have hr : bitsOf x l 1 = 0 ∨ bitsOf x l 1 = 1 := by
    rw [e]; simp; omega
  rcases hr with hr | hr <;> rw [hr] at h ⊢
  · rw [← h]; decide
  · rw [← h]; decide

theorem tb_six (a b c : Int) (p : Nat) (hp : p < 32) : tb (pack hL hN (six 0 a 0 b c 0) 6) p = (tb (placed a 7 5) p || tb (placed b 15 5) p || tb (placed c 20 5) p) := by
  rw [Bool.eq_iff_iff, tb_pack]
  simp only [Bool.or_eq_true]
  constructor
  · rintro ⟨j, hj, h⟩
    match j, hj with
    | 0, _ => exact absurd h (by rw [show six 0 a 0 b c 0 0 = 0 from rfl, tb_placed0 _ _ _ hp]; decide)
    | 1, _ => exact Or.inl (Or.inl h)
    | 2, _ => exact absurd h (by rw [show six 0 a 0 b c 0 2 = 0 from rfl, tb_placed0 _ _ _ hp]; decide)
    | 3, _ => exact Or.inl (Or.inr h)
    | 4, _ => exact Or.inr h
    | 5, _ => exact absurd h (by rw [show six 0 a 0 b c 0 5 = 0 from rfl, tb_placed0 _ _ _ hp]; decide)
  · rintro ((h | h) | h)
    · exact ⟨1, by omega, h⟩
    · exact ⟨3, by omega, h⟩
    · exact ⟨4, by omega, h⟩
theorem tb_three (a b c : Int) (p : Nat) (hp : p < 32) : tb (pack gL gN (three a b c) 3) p = (tb (placed a 20 12) p || tb (placed b 26 1) p || tb (placed c 25 1) p) := by
  rw [Bool.eq_iff_iff, tb_pack]
  simp only [Bool.or_eq_true]
  constructor
  · rintro ⟨j, hj, h⟩
    match j, hj with
    | 0, _ => exact Or.inl (Or.inl h)
    | 1, _ => exact Or.inl (Or.inr h)
    | 2, _ => exact Or.inr h
  · rintro ((h | h) | h)
    · exact ⟨0, by omega, h⟩
    · exact ⟨1, by omega, h⟩
    · exact ⟨2, by omega, h⟩
theorem layV_lt (f v : Int) : 0 ≤ layV f v ∧ layV f v < 4294967296 := by
  unfold layV
  cases layB f v
  · simp
  · exact raw_lt _ _ _ _ _
theorem layIV_lt (s : Sh) (v : Int) : 0 ≤ layIV s v ∧ layIV s v < 4294967296 := by
  unfold layIV
  cases hasImm s
  · simp
  · cases decide (0 < s.size)
    · exact layV_lt _ _
    · exact pack_lt _ _ _ _
def encW (c : Int) (s : Sh) (i : I) : Int := bits .or .u32 (bits .or .u32 c (layIV s i.imm)) (layF i)
structure InR (i : I) : Prop where
  rd0 : 0 ≤ i.rd
  rd1 : i.rd ≤ 31
  rs10 : 0 ≤ i.rs1
  rs11 : i.rs1 ≤ 31
  rs20 : 0 ≤ i.rs2
  rs21 : i.rs2 ≤ 31
  csr0 : 0 ≤ i.csr
  csr1 : i.csr ≤ 4095
theorem inR_of {i : I} (h : inRange i = true) : InR i := by
  simp [inRange, fr] at h
  obtain ⟨⟨a, b⟩, ⟨c, d⟩, ⟨e, f⟩, g, k⟩ := h
  exact ⟨a, b, c, d, e, f, g, k⟩
theorem tb_encW (c : Int) (s : Sh) (i : I) (c0 : 0 ≤ c) (c1 : c < 4294967296) (hr : InR i) (p : Nat) (hp : p < 32) : tb (encW c s i) p = (tb c p || (List.range 7).any fun j => tb (part s i j) p) := by
  have h1 := or_lt c (layIV s i.imm)
  have h2 := layIV_lt s i.imm
  have h3 := pack_lt hL hN (six 0 (u32 i.rd) 0 (u32 i.rs1) (u32 i.rs2) 0) 6
  have h4 := pack_lt gL gN (three (u32 i.csr) (one i.aq) (one i.rl)) 3
  have h5 : 0 ≤ layF i ∧ layF i < 4294967296 := or_lt _ _
  have e1 : u32 i.rd = i.rd := by have := hr.rd0; have := hr.rd1; unfold u32; omega
  have e2 : u32 i.rs1 = i.rs1 := by have := hr.rs10; have := hr.rs11; unfold u32; omega
  have e3 : u32 i.rs2 = i.rs2 := by have := hr.rs20; have := hr.rs21; unfold u32; omega
  have e4 : u32 i.csr = i.csr := by have := hr.csr0; have := hr.csr1; unfold u32; omega
  unfold encW
  rw [tb_or _ _ p h1.1 h1.2 h5.1 h5.2, tb_or _ _ p c0 c1 h2.1 h2.2]
  have : tb (layF i) p = ((tb (placed i.rd 7 5) p || tb (placed i.rs1 15 5) p || tb (placed i.rs2 20 5) p) || (tb (placed i.csr 20 12) p || tb (placed (one i.aq) 26 1) p || tb (placed (one i.rl) 25 1) p)) := by
    unfold layF
    rw [tb_or _ _ p h3.1 h3.2 h4.1 h4.2, tb_six _ _ _ p hp, tb_three _ _ _ p hp, e1, e2, e3, e4]
  rw [this]
  have hl : List.range 7 = [0, 1, 2, 3, 4, 5, 6] := by decide
  rw [hl]
  simp only [List.any_cons, List.any_nil, Bool.or_false, part]
  generalize tb c p = b0
  generalize tb (layIV s i.imm) p = b1
  generalize tb (placed i.rd 7 5) p = b2
  generalize tb (placed i.rs1 15 5) p = b3
  generalize tb (placed i.rs2 20 5) p = b4
  generalize tb (placed i.csr 20 12) p = b5
  generalize tb (placed (one i.aq) 26 1) p = b6
  generalize tb (placed (one i.rl) 25 1) p = b7
  cases b0 <;> cases b1 <;> cases b2 <;> cases b3 <;> cases b4 <;> cases b5 <;> cases b6 <;> cases b7 <;> rfl
theorem okF_cases {s : Sh} (h : okF s = true) : (s.size = 0 ∧ (s.fmt = 0 ∨ isF s.fmt)) ∨ (s.fmt = 0 ∧ 0 < s.size ∧ s.size ≤ 12 ∧ 0 ≤ s.low ∧ s.low ≤ 31 ∧ s.low + s.size ≤ 32) := by
  unfold okF at h
  simp at h
  unfold isF
  omega
theorem isF_ne {f : Int} (h : isF f) : ¬ f = 0 := by unfold isF at h; omega
end Go.Proofs.Ytopehmpjfndgjaa.W

/- Reading what was laid, and laying what was read: the two ways. -/
namespace Go.Proofs.Ytopehmpjfndgjaa.W
open Go.RowKit
set_option linter.unusedVariables false
set_option linter.unusedSimpArgs false

theorem lone_placed (v low n : Int) : lone v low n = placed v low n := by
  have h := placed_lt v low n
  have := pack_succ (fun _ => low) (fun _ => n) (fun _ => v) 0 (by simp [pack]) (by simp [pack])
  unfold lone
  rw [← this]
  exact zero_or _ h.1 h.2
/-- An immediate that has room lies under its own bits. -/
theorem layV_mask (f v : Int) (hf : isF f) (hb : layB f v = true) (p : Nat) (hp : p < 32) : tb (layV f v) p = (tb (layV f v) p && tb (mask f) p) := by
  have e1 : layV f v = layw f v := by simp [layV, hb]
  have e2 : imm f (layw f v) = v := by
    have : (wid f == 0) = false ∧ imm f (layw f v) = v := by simpa [layB] using hb
    exact this.2
  have hl := raw_lt (pI f) (pW f) (pN f) v 4
  have hm := mask_lt f
  have := congrArg (fun z => tb z p) (lay_imm f (layw f v) hf hl.1 hl.2)
  rw [e2] at this
  rw [e1]
  exact this.trans (tb_and _ _ p hl.1 hl.2 hm.1 hm.2)
theorem layIB_back {s : Sh} {v : Int} (hb : layIB s v = true) (hi : hasImm s = true) : immS s (layIV s v) = v := by
  unfold layIB at hb
  rw [hi, cond_true] at hb
  unfold layIV
  rw [hi, cond_true]
  cases hz : decide (0 < s.size)
  · rw [hz, cond_false] at hb
    simp only [cond_false]
    have e1 : layV s.fmt v = layw s.fmt v := by simp [layV, hb]
    have e2 : imm s.fmt (layw s.fmt v) = v := by
      have : (wid s.fmt == 0) = false ∧ imm s.fmt (layw s.fmt v) = v := by simpa [layB] using hb
      exact this.2
    rw [e1, immS, hz]
    exact e2
  · rw [hz, cond_true] at hb
    simpa using hb

/-- Only the fields that are used are laid. -/
theorem part_cov {s : Sh} {i : I} (hf : okF s = true) (hr : InR i) (hs : same (only s i) i = true) (hb : layIB s i.imm = true) (j p : Nat) (hj : j < 7) (hp : p < 32) (h : tb (part s i j) p = true) : cov s j p = true := by
  have hs' : (bif s.rd then i.rd else 0) = i.rd ∧ (bif s.rs1 then i.rs1 else 0) = i.rs1 ∧ (bif s.rs2 then i.rs2 else 0) = i.rs2 ∧ (bif s.csr then i.csr else 0) = i.csr ∧ (bif hasImm s then i.imm else 0) = i.imm ∧ (s.ord && i.aq) = i.aq ∧ (s.ord && i.rl) = i.rl := by
    simpa [same, only] using hs
  obtain ⟨q0, q1, q2, q3, q4, q5, q6⟩ := hs'
  have hr1 := hr.rd1; have hr0 := hr.rd0; have hr2 := hr.rs10; have hr3 := hr.rs11; have hr4 := hr.rs20; have hr5 := hr.rs21; have hr6 := hr.csr0; have hr7 := hr.csr1
  match j, hj with
  | 0, _ =>
    have h' : tb (placed i.rd (7 : Nat) (5 : Nat)) p = true := h
    rw [tb_field i.rd 7 5 p hr0 (by omega) (by omega) (by omega) (by omega) hp] at h'
    simp only [Bool.and_eq_true, decide_eq_true_eq] at h'
    cases hd : s.rd
    · rw [hd, cond_false] at q0; rw [← q0, tb_zero] at h'; exact absurd h'.2 (by simp)
    · simp [cov, hd]; omega
  | 1, _ =>
    have h' : tb (placed i.rs1 (15 : Nat) (5 : Nat)) p = true := h
    rw [tb_field i.rs1 15 5 p hr2 (by omega) (by omega) (by omega) (by omega) hp] at h'
    simp only [Bool.and_eq_true, decide_eq_true_eq] at h'
    cases hd : s.rs1
    · rw [hd, cond_false] at q1; rw [← q1, tb_zero] at h'; exact absurd h'.2 (by simp)
    · simp [cov, hd]; omega
  | 2, _ =>
    have h' : tb (placed i.rs2 (20 : Nat) (5 : Nat)) p = true := h
    rw [tb_field i.rs2 20 5 p hr4 (by omega) (by omega) (by omega) (by omega) hp] at h'
    simp only [Bool.and_eq_true, decide_eq_true_eq] at h'
    cases hd : s.rs2
    · rw [hd, cond_false] at q2; rw [← q2, tb_zero] at h'; exact absurd h'.2 (by simp)
    · simp [cov, hd]; omega
  | 3, _ =>
    have h' : tb (placed i.csr (20 : Nat) (12 : Nat)) p = true := h
    rw [tb_field i.csr 20 12 p hr6 (by omega) (by omega) (by omega) (by omega) hp] at h'
    simp only [Bool.and_eq_true, decide_eq_true_eq] at h'
    cases hd : s.csr
    · rw [hd, cond_false] at q3; rw [← q3, tb_zero] at h'; exact absurd h'.2 (by simp)
    · simp [cov, hd]; omega
  | 4, _ =>
    have h' : tb (placed (one i.aq) (26 : Nat) (1 : Nat)) p = true := h
    rw [tb_field (one i.aq) 26 1 p (one_lt _).1 (by have := (one_lt i.aq).2; omega) (by omega) (by omega) (by omega) hp] at h'
    simp only [Bool.and_eq_true, decide_eq_true_eq] at h'
    cases hd : s.ord
    · rw [hd] at q5; simp at q5; rw [q5] at h'; exact absurd h'.2 (by simp [one, tb_zero])
    · simp [cov, hd]; omega
  | 5, _ =>
    have h' : tb (placed (one i.rl) (25 : Nat) (1 : Nat)) p = true := h
    rw [tb_field (one i.rl) 25 1 p (one_lt _).1 (by have := (one_lt i.rl).2; omega) (by omega) (by omega) (by omega) hp] at h'
    simp only [Bool.and_eq_true, decide_eq_true_eq] at h'
    cases hd : s.ord
    · rw [hd] at q6; simp at q6; rw [q6] at h'; exact absurd h'.2 (by simp [one, tb_zero])
    · simp [cov, hd]; omega
  | 6, _ =>
    have h' : tb (layIV s i.imm) p = true := h
    unfold layIV at h'
    unfold layIB at hb
    cases hi : hasImm s
    · rw [hi, cond_false, tb_zero] at h'; cases h'
    · rw [hi, cond_true] at h' hb
      show (bif decide (0 < s.size) then decide (s.low.toNat ≤ p ∧ p - s.low.toNat < s.size.toNat) else bif s.fmt != 0 then tb (mask s.fmt) p else false) = true
      rcases okF_cases hf with ⟨z, hfm⟩ | ⟨z, c1, c2, c3, c4, c5⟩
      · have hz : decide (0 < s.size) = false := by simp [z]
        rw [hz, cond_false] at h' hb ⊢
        have hfm : isF s.fmt := by
          rcases hfm with e | e
          · simp [hasImm, hasI, e, z] at hi
          · exact e
        have hne : (s.fmt != 0) = true := by simpa using isF_ne hfm
        rw [hne, cond_true]
        have := layV_mask s.fmt i.imm hfm hb p hp
        rw [h'] at this
        simpa using this.symm
      · have hz : decide (0 < s.size) = true := by simp [c1]
        rw [hz, cond_true] at h' ⊢
        rw [lone_placed] at h'
        by_cases hv : 0 ≤ i.imm ∧ i.imm < 4294967296
        · rw [tb_placed _ _ _ p hv.1 hv.2 c3 c4 (by omega) hp] at h'
          simp only [Bool.and_eq_true, decide_eq_true_eq] at h' ⊢
          omega
        · exfalso
          rw [hz, cond_true] at hb
          have hb' : immS s (lone i.imm s.low s.size) = i.imm := by simpa using hb
          have : 0 ≤ immS s (lone i.imm s.low s.size) ∧ immS s (lone i.imm s.low s.size) < 4294967296 := by
            unfold immS; rw [hz]; exact bitsOf_lt _ _ _
          rw [hb'] at this
          exact hv this
theorem encW_fixed {k : Nat} {i : I} (hk : Ok k) (hr : InR i) (hs : same (only (shp k) i) i = true) (hb : layIB (shp k) i.imm = true) (p : Nat) (hp : p < 32) (h : tb (shp k).fixed p = true) : tb (encW (code k) (shp k) i) p = tb (code k) p := by
  rw [tb_encW _ _ _ hk.c0 hk.c1 hr p hp]
  have ha := hk.all p hp
  rw [h, Bool.not_true] at ha
  have : ((List.range 7).any fun j => tb (part (shp k) i j) p) = false := by
    rw [List.any_eq_false] at ha ⊢
    intro j hj ht
    exact ha j hj (part_cov hk.fmt hr hs hb j p (List.mem_range.1 hj) hp ht)
  rw [this, Bool.or_false]
theorem encW_cov {k : Nat} {i : I} (hk : Ok k) (hr : InR i) (hs : same (only (shp k) i) i = true) (hb : layIB (shp k) i.imm = true) (j p : Nat) (hj : j < 7) (hp : p < 32) (h : cov (shp k) j p = true) : tb (encW (code k) (shp k) i) p = tb (part (shp k) i j) p := by
  rw [tb_encW _ _ _ hk.c0 hk.c1 hr p hp]
  have ha := hk.all p hp
  have hany : ((List.range 7).any fun j => cov (shp k) j p) = true := List.any_eq_true.2 ⟨j, List.mem_range.2 hj, h⟩
  rw [hany] at ha
  have hfx : tb (shp k).fixed p = false := by simpa using ha.symm
  have hc : tb (code k) p = false := by
    cases hc : tb (code k) p
    · rfl
    · have := hk.sub p hp hc; rw [hfx] at this; cases this
  rw [hc, Bool.false_or]
  cases ht : tb (part (shp k) i j) p
  · rw [List.any_eq_false]
    intro j' hj' ht'
    have := hk.one p j j' hp hj (List.mem_range.1 hj') h (part_cov hk.fmt hr hs hb j' p (List.mem_range.1 hj') hp ht')
    subst this
    rw [ht] at ht'; cases ht'
  · exact List.any_eq_true.2 ⟨j, List.mem_range.2 hj, ht⟩
theorem encW_lt (c : Int) (s : Sh) (i : I) : 0 ≤ encW c s i ∧ encW c s i < 4294967296 := or_lt _ _
theorem encW_hit {k : Nat} {i : I} (hk : Ok k) (hr : InR i) (hs : same (only (shp k) i) i = true) (hb : layIB (shp k) i.imm = true) : hit (encW (code k) (shp k) i) k = true := by
  have hl := encW_lt (code k) (shp k) i
  refine hit_of hk hl.1 hl.2 fun p hp => ?_
  cases h : tb (shp k).fixed p
  · cases hc : tb (code k) p
    · simp
    · have := hk.sub p hp hc; rw [h] at this; cases this
  · rw [encW_fixed hk hr hs hb p hp h]; simp
end Go.Proofs.Ytopehmpjfndgjaa.W

/- Decode of Encode is the instruction; Encode of Decode is the word. -/
namespace Go.Proofs.Ytopehmpjfndgjaa.W
open Go.RowKit
set_option linter.unusedVariables false
set_option linter.unusedSimpArgs false

theorem encE_zero {i : I} (h : encE i = 0) : known i.op = true ∧ layIB (shp i.op) i.imm = true ∧ inRange i = true ∧ same (only (shp i.op) i) i = true := by
  unfold encE at h
  cases h1 : known i.op
  · simp [h1] at h
  cases h2 : layIB (shp i.op) i.imm
  · simp [h1, h2] at h
  cases h3 : inRange i
  · simp [h1, h2, h3] at h
  cases h4 : same (only (shp i.op) i) i
  · simp [h1, h2, h3, h4] at h
  exact ⟨rfl, rfl, rfl, rfl⟩
theorem encV_none {i : I} (h : ¬ encE i = 0) : encV i = 0 := by
  unfold encV
  have : (encE i == 0) = false := by simpa using h
  rw [this]; rfl
theorem known_nat {op : Int} (h : known op = true) : ∃ k : Nat, op = k ∧ 1 ≤ k ∧ k ≤ 69 := by
  have h' : 1 ≤ op ∧ op ≤ 69 := by simpa [known, fr] using h
  exact ⟨op.toNat, by omega, by omega, by omega⟩
theorem I_ext {a b : I} (h0 : a.op = b.op) (h1 : a.rd = b.rd) (h2 : a.rs1 = b.rs1) (h3 : a.rs2 = b.rs2) (h4 : a.csr = b.csr) (h5 : a.imm = b.imm) (h6 : a.aq = b.aq) (h7 : a.rl = b.rl) : a = b := by
  cases a; cases b; simp_all

/-- Reading what was laid. -/
theorem read_enc {k : Nat} {i : I} (hk : Ok k) (ho : i.op = k) (hr : InR i) (hs : same (only (shp k) i) i = true) (hb : layIB (shp k) i.imm = true) : read (shp k) k (encW (code k) (shp k) i) = i := by
  have hl := encW_lt (code k) (shp k) i
  have hc := encW_cov hk hr hs hb
  have hs' : (bif (shp k).rd then i.rd else 0) = i.rd ∧ (bif (shp k).rs1 then i.rs1 else 0) = i.rs1 ∧ (bif (shp k).rs2 then i.rs2 else 0) = i.rs2 ∧ (bif (shp k).csr then i.csr else 0) = i.csr ∧ (bif hasImm (shp k) then i.imm else 0) = i.imm ∧ ((shp k).ord && i.aq) = i.aq ∧ ((shp k).ord && i.rl) = i.rl := by
    simpa [same, only] using hs
  obtain ⟨q0, q1, q2, q3, q4, q5, q6⟩ := hs'
  have hr1 := hr.rd1; have hr0 := hr.rd0; have hr2 := hr.rs10; have hr3 := hr.rs11; have hr4 := hr.rs20; have hr5 := hr.rs21; have hr6 := hr.csr0; have hr7 := hr.csr1
  generalize hV : encW (code k) (shp k) i = V at *
  refine I_ext (by show (k : Int) = i.op; rw [ho]) ?_ ?_ ?_ ?_ ?_ ?_ ?_
  · show (bif (shp k).rd then bitsOf V 7 5 else 0) = i.rd
    cases hd : (shp k).rd
    · rw [hd] at q0; exact q0
    · exact field_back V i.rd 7 5 hl.1 hl.2 hr0 (by show i.rd < 32; omega) (by omega) (by omega) fun p h1 h2 => hc 0 p (by omega) (by omega) (by simp [cov, hd]; omega)
  · show (bif (shp k).rs1 then bitsOf V 15 5 else 0) = i.rs1
    cases hd : (shp k).rs1
    · rw [hd] at q1; exact q1
    · exact field_back V i.rs1 15 5 hl.1 hl.2 hr2 (by show i.rs1 < 32; omega) (by omega) (by omega) fun p h1 h2 => hc 1 p (by omega) (by omega) (by simp [cov, hd]; omega)
  · show (bif (shp k).rs2 then bitsOf V 20 5 else 0) = i.rs2
    cases hd : (shp k).rs2
    · rw [hd] at q2; exact q2
    · exact field_back V i.rs2 20 5 hl.1 hl.2 hr4 (by show i.rs2 < 32; omega) (by omega) (by omega) fun p h1 h2 => hc 2 p (by omega) (by omega) (by simp [cov, hd]; omega)
  · show (bif (shp k).csr then bitsOf V 20 12 else 0) = i.csr
    cases hd : (shp k).csr
    · rw [hd] at q3; exact q3
    · exact field_back V i.csr 20 12 hl.1 hl.2 hr6 (by show i.csr < 4096; omega) (by omega) (by omega) fun p h1 h2 => hc 3 p (by omega) (by omega) (by simp [cov, hd]; omega)
  · show (bif hasImm (shp k) then immS (shp k) V else 0) = i.imm
    cases hd : hasImm (shp k)
    · rw [hd] at q4; exact q4
    · rw [cond_true]
      have hback := layIB_back hb hd
      have h6 : ∀ p, p < 32 → cov (shp k) 6 p = true → tb V p = tb (layIV (shp k) i.imm) p := fun p hp h => hc 6 p (by omega) hp h
      have hiv := layIV_lt (shp k) i.imm
      refine Eq.trans ?_ hback
      rcases okF_cases hk.fmt with ⟨z, hfm⟩ | ⟨z, c1, c2, c3, c4, c5⟩
      · have hz : decide (0 < (shp k).size) = false := by simp [z]
        have hfm : isF (shp k).fmt := by
          rcases hfm with e | e
          · simp [hasImm, hasI, e, z] at hd
          · exact e
        have hne : ((shp k).fmt != 0) = true := by simpa using isF_ne hfm
        unfold immS
        rw [hz, cond_false, cond_false]
        have ha := imm_lt (shp k).fmt V
        have hb' := imm_lt (shp k).fmt (layIV (shp k) i.imm)
        refine eq_of_tb _ _ ha.1 ha.2 hb'.1 hb'.2 fun p hp => ?_
        obtain ⟨d1, d2, d3, d4⟩ := check_at (shp k).fmt hfm p hp
        rw [tb_imm _ _ p hfm hl.1 hl.2 hp, tb_imm _ _ p hfm hiv.1 hiv.2 hp]
        refine any_congr' fun q hq => h6 q (d3 q hq).1 ?_
        show (bif decide (0 < (shp k).size) then _ else bif (shp k).fmt != 0 then tb (mask (shp k).fmt) q else false) = true
        rw [hz, hne]
        exact (d3 q hq).2
      · have hz : decide (0 < (shp k).size) = true := by simp [c1]
        unfold immS
        rw [hz, cond_true, cond_true]
        refine bitsOf_ext _ _ _ _ hl.1 hl.2 hiv.1 hiv.2 c3 c4 (by omega) fun p h1 h2 h3 => h6 p h2 ?_
        show (bif decide (0 < (shp k).size) then decide ((shp k).low.toNat ≤ p ∧ p - (shp k).low.toNat < (shp k).size.toNat) else _) = true
        rw [hz, cond_true]
        simp only [decide_eq_true_eq]
        omega
  · show ((shp k).ord && (bitsOf V 26 1 == 1)) = i.aq
    cases hd : (shp k).ord
    · rw [hd] at q5; exact q5
    · have : bitsOf V 26 1 = one i.aq := field_back V (one i.aq) 26 1 hl.1 hl.2 (one_lt _).1 (one_lt _).2 (by omega) (by omega) fun p h1 h2 => hc 4 p (by omega) (by omega) (by simp [cov, hd]; omega)
      rw [this, one_eq]; rfl
  · show ((shp k).ord && (bitsOf V 25 1 == 1)) = i.rl
    cases hd : (shp k).ord
    · rw [hd] at q6; exact q6
    · have : bitsOf V 25 1 = one i.rl := field_back V (one i.rl) 25 1 hl.1 hl.2 (one_lt _).1 (one_lt _).2 (by omega) (by omega) fun p h1 h2 => hc 5 p (by omega) (by omega) (by simp [cov, hd]; omega)
      rw [this, one_eq]; rfl
theorem dec_enc {i : I} (h : encE i = 0) : decB (encV i) = true ∧ decI (encV i) = i := by
  obtain ⟨h1, h2, h3, h4⟩ := encE_zero h
  obtain ⟨k, ho, k1, k2⟩ := known_nat h1
  have hk := ok_at k k1 k2
  rw [ho] at h2 h4
  have hr := inR_of h3
  have hv : encV i = encW (code k) (shp k) i := by
    unfold encV encW
    rw [h, ho]; rfl
  have hl := encW_lt (code k) (shp k) i
  have hd : dec (encV i) = k := by rw [hv]; exact dec_eq k1 k2 hl.1 hl.2 (encW_hit hk hr h4 h2)
  refine ⟨?_, ?_⟩
  · rw [decB, hd]; simp; omega
  · rw [decI, hd, hv]; exact read_enc hk ho hr h4 h2
theorem same_refl (i : I) : same i i = true := by simp [same]
end Go.Proofs.Ytopehmpjfndgjaa.W

/- Laying what was read. -/
namespace Go.Proofs.Ytopehmpjfndgjaa.W
open Go.RowKit
set_option linter.unusedVariables false
set_option linter.unusedSimpArgs false

theorem read_part {k : Nat} {x : Int} (hk : Ok k) (x0 : 0 ≤ x) (x1 : x < 4294967296) (j p : Nat) (hj : j < 7) (hp : p < 32) : tb (part (shp k) (read (shp k) k x) j) p = (cov (shp k) j p && tb x p) := by
  have fld : ∀ (l n : Nat) (b : Bool), l ≤ 31 → 1 ≤ n → n ≤ 32 → tb (placed (bif b then bitsOf x l n else 0) l n) p = ((b && decide (l ≤ p ∧ p - l < n)) && tb x p) := by
    intro l n b h1 h2 h3
    cases b
    · rw [cond_false, tb_placed0 _ _ _ hp]; rfl
    · have hb := bitsOf_lt x l n
      rw [cond_true, tb_field _ l n p hb.1 hb.2 h1 h2 h3 hp, tb_bitsOf x l n _ x0 x1 (by omega) (by omega) (by omega)]
      simp only [Int.toNat_natCast, show min n 32 = n by omega, Bool.true_and]
      by_cases hh : l ≤ p ∧ p - l < n
      · rw [show p - l + l = p by omega]
        simp [hh]
      · rw [decide_eq_false hh]; rfl
  have bt : ∀ (l : Nat) (b : Bool), l ≤ 31 → tb (placed (one (b && (bitsOf x l 1 == 1))) l (1 : Nat)) p = ((b && decide (p = l)) && tb x p) := by
    intro l b h1
    have ho := one_lt (b && (bitsOf x l 1 == 1))
    rw [tb_field _ l 1 p ho.1 (by omega) h1 (by omega) (by omega) hp, bit_eq x l x0 x1 h1]
    by_cases hh : p = l
    · subst hh
      simp [tb_one]
    · have : ¬ (l ≤ p ∧ p - l < 1) := by omega
      rw [decide_eq_false this, decide_eq_false hh]; simp
  match j, hj with
  | 0, _ =>
    refine (fld 7 5 (shp k).rd (by omega) (by omega) (by omega)).trans ?_
    have : decide (7 ≤ p ∧ p - 7 < 5) = decide (7 ≤ p ∧ p < 12) := decide_eq_decide.2 (by omega)
    rw [this]; rfl
  | 1, _ =>
    refine (fld 15 5 (shp k).rs1 (by omega) (by omega) (by omega)).trans ?_
    have : decide (15 ≤ p ∧ p - 15 < 5) = decide (15 ≤ p ∧ p < 20) := decide_eq_decide.2 (by omega)
    rw [this]; rfl
  | 2, _ =>
    refine (fld 20 5 (shp k).rs2 (by omega) (by omega) (by omega)).trans ?_
    have : decide (20 ≤ p ∧ p - 20 < 5) = decide (20 ≤ p ∧ p < 25) := decide_eq_decide.2 (by omega)
    rw [this]; rfl
  | 3, _ =>
    refine (fld 20 12 (shp k).csr (by omega) (by omega) (by omega)).trans ?_
    have : decide (20 ≤ p ∧ p - 20 < 12) = decide (20 ≤ p ∧ p < 32) := decide_eq_decide.2 (by omega)
    rw [this]; rfl
  | 4, _ => exact bt 26 (shp k).ord (by omega)
  | 5, _ => exact bt 25 (shp k).ord (by omega)
  | 6, _ =>
    show tb (layIV (shp k) (bif hasImm (shp k) then immS (shp k) x else 0)) p = (cov (shp k) 6 p && tb x p)
    unfold layIV
    rcases okF_cases hk.fmt with ⟨z, hfm⟩ | ⟨z, c1, c2, c3, c4, c5⟩
    · have hz : decide (0 < (shp k).size) = false := by simp [z]
      have hcov : cov (shp k) 6 p = (bif (shp k).fmt != 0 then tb (mask (shp k).fmt) p else false) := by
        show (bif decide (0 < (shp k).size) then _ else bif (shp k).fmt != 0 then tb (mask (shp k).fmt) p else false) = _
        rw [hz]; rfl
      rw [hcov]
      rcases hfm with e | e
      · have hi : hasImm (shp k) = false := by simp [hasImm, hasI, e, z]
        rw [hi, e, cond_false, tb_zero]; rfl
      · have hne : ((shp k).fmt != 0) = true := by simpa using isF_ne e
        have hi : hasImm (shp k) = true := by simp [hasImm, hasI, hne]
        have hm := mask_lt (shp k).fmt
        rw [hi, cond_true, cond_true, hz, cond_false, hne, cond_true]
        have e1 : immS (shp k) x = imm (shp k).fmt x := by unfold immS; rw [hz]; rfl
        have e2 : layV (shp k).fmt (imm (shp k).fmt x) = layw (shp k).fmt (imm (shp k).fmt x) := by unfold layV; rw [lay_back _ x e x0 x1]; rfl
        rw [e1, e2, lay_imm _ x e x0 x1, tb_and _ _ p x0 x1 hm.1 hm.2, Bool.and_comm]
    · have hz : decide (0 < (shp k).size) = true := by simp [c1]
      have hi : hasImm (shp k) = true := by simp [hasImm, hasI, c1]
      have hcov : cov (shp k) 6 p = decide ((shp k).low.toNat ≤ p ∧ p - (shp k).low.toNat < (shp k).size.toNat) := by
        show (bif decide (0 < (shp k).size) then decide ((shp k).low.toNat ≤ p ∧ p - (shp k).low.toNat < (shp k).size.toNat) else _) = _
        rw [hz]; rfl
      have e1 : immS (shp k) x = bitsOf x (shp k).low (shp k).size := by unfold immS; rw [hz]; rfl
      rw [hcov, hi, cond_true, cond_true, hz, cond_true, e1]
      have : lone (bitsOf x (shp k).low (shp k).size) (shp k).low (shp k).size = moved x (shp k).low (shp k).low (shp k).size := rfl
      rw [this, tb_moved x _ _ _ p x0 x1 c3 c4 c3 c4 (by omega) hp]
      by_cases hh : (shp k).low.toNat ≤ p ∧ p - (shp k).low.toNat < (shp k).size.toNat
      · rw [show p - (shp k).low.toNat + (shp k).low.toNat = p by omega]
      · rw [decide_eq_false hh]; rfl
theorem bits_le (x : Int) (l n : Nat) (x0 : 0 ≤ x) (x1 : x < 4294967296) (hl : l ≤ 31) (hn : 1 ≤ n) (hn2 : n ≤ 12) : 0 ≤ bitsOf x l n ∧ bitsOf x l n < 2 ^ n := by
  rw [bitsOf_eq x l n x0 x1 (by omega) (by omega) (by omega)]
  simp only [Int.toNat_natCast, show min n 32 = n by omega]
  exact ⟨Int.emod_nonneg _ (Int.ne_of_gt (Int.pow_pos (by omega))), Int.emod_lt_of_pos _ (Int.pow_pos (by omega))⟩
theorem read_ok {k : Nat} {x : Int} (k1 : 1 ≤ k) (k2 : k ≤ 69) (x0 : 0 ≤ x) (x1 : x < 4294967296) : encE (read (shp k) k x) = 0 ∧ InR (read (shp k) k x) := by
  have hk := ok_at k k1 k2
  have a1 := bits_le x 7 5 x0 x1 (by omega) (by omega) (by omega)
  have a2 := bits_le x 15 5 x0 x1 (by omega) (by omega) (by omega)
  have a3 := bits_le x 20 5 x0 x1 (by omega) (by omega) (by omega)
  have a4 := bits_le x 20 12 x0 x1 (by omega) (by omega) (by omega)
  have hr : InR (read (shp k) k x) := by
    refine ⟨?_, ?_, ?_, ?_, ?_, ?_, ?_, ?_⟩
    · show 0 ≤ (bif (shp k).rd then bitsOf x 7 5 else 0); cases (shp k).rd <;> simp; exact a1.1
    · show (bif (shp k).rd then bitsOf x 7 5 else 0) ≤ 31; have := a1.2; cases (shp k).rd <;> simp; simp at this; omega
    · show 0 ≤ (bif (shp k).rs1 then bitsOf x 15 5 else 0); cases (shp k).rs1 <;> simp; exact a2.1
    · show (bif (shp k).rs1 then bitsOf x 15 5 else 0) ≤ 31; have := a2.2; cases (shp k).rs1 <;> simp; simp at this; omega
    · show 0 ≤ (bif (shp k).rs2 then bitsOf x 20 5 else 0); cases (shp k).rs2 <;> simp; exact a3.1
    · show (bif (shp k).rs2 then bitsOf x 20 5 else 0) ≤ 31; have := a3.2; cases (shp k).rs2 <;> simp; simp at this; omega
    · show 0 ≤ (bif (shp k).csr then bitsOf x 20 12 else 0); cases (shp k).csr <;> simp; exact a4.1
    · show (bif (shp k).csr then bitsOf x 20 12 else 0) ≤ 4095; have := a4.2; cases (shp k).csr <;> simp; simp at this; omega
  have hrange : inRange (read (shp k) k x) = true := by
    simp [inRange, fr, hr.rd0, hr.rd1, hr.rs10, hr.rs11, hr.rs20, hr.rs21, hr.csr0, hr.csr1]
  have hs : same (only (shp k) (read (shp k) k x)) (read (shp k) k x) = true := by
    unfold read only same
    cases (shp k).rd <;> cases (shp k).rs1 <;> cases (shp k).rs2 <;> cases (shp k).csr <;> cases hasImm (shp k) <;> cases (shp k).ord <;> simp
  have hb : layIB (shp k) (read (shp k) k x).imm = true := by
    show layIB (shp k) (bif hasImm (shp k) then immS (shp k) x else 0) = true
    unfold layIB
    rcases okF_cases hk.fmt with ⟨z, hfm⟩ | ⟨z, c1, c2, c3, c4, c5⟩
    · have hz : decide (0 < (shp k).size) = false := by simp [z]
      rcases hfm with e | e
      · have hi : hasImm (shp k) = false := by simp [hasImm, hasI, e, z]
        rw [hi]; rfl
      · have hne : ((shp k).fmt != 0) = true := by simpa using isF_ne e
        have hi : hasImm (shp k) = true := by simp [hasImm, hasI, hne]
        have e1 : immS (shp k) x = imm (shp k).fmt x := by unfold immS; rw [hz]; rfl
        rw [hi, cond_true, cond_true, hz, cond_false, e1]
        exact lay_back _ x e x0 x1
    · have hz : decide (0 < (shp k).size) = true := by simp [c1]
      have hi : hasImm (shp k) = true := by simp [hasImm, hasI, c1]
      have e1 : ∀ y, immS (shp k) y = bitsOf y (shp k).low (shp k).size := fun y => by unfold immS; rw [hz]; rfl
      rw [hi, cond_true, cond_true, hz, cond_true, e1, e1]
      have hm := moved_lt x (shp k).low (shp k).low (shp k).size
      have : bitsOf (moved x (shp k).low (shp k).low (shp k).size) (shp k).low (shp k).size = bitsOf x (shp k).low (shp k).size := by
        refine bitsOf_ext _ _ _ _ hm.1 hm.2 x0 x1 c3 c4 (by omega) fun p h1 h2 h3 => ?_
        rw [tb_moved x _ _ _ p x0 x1 c3 c4 c3 c4 (by omega) h2]
        have hh : (shp k).low.toNat ≤ p ∧ p - (shp k).low.toNat < (shp k).size.toNat := by omega
        rw [decide_eq_true hh, show p - (shp k).low.toNat + (shp k).low.toNat = p by omega]; rfl
      show (bitsOf (moved x (shp k).low (shp k).low (shp k).size) (shp k).low (shp k).size == bitsOf x (shp k).low (shp k).size) = true
      rw [this]; simp
  have hkn : known (read (shp k) k x).op = true := by
    show known (k : Int) = true
    simp [known, fr]; omega
  have he : encE (read (shp k) k x) = 0 := by
    unfold encE
    rw [hkn]
    show (bif layIB (shp k) (read (shp k) k x).imm && inRange (read (shp k) k x) then (bif same (only (shp k) (read (shp k) k x)) (read (shp k) k x) then 0 else 3) else 2) = 0
    rw [hb, hrange, hs]; rfl
  exact ⟨he, hr⟩
theorem enc_read {k : Nat} {x : Int} (k1 : 1 ≤ k) (k2 : k ≤ 69) (x0 : 0 ≤ x) (x1 : x < 4294967296) (h : hit x k = true) : encE (read (shp k) k x) = 0 ∧ encV (read (shp k) k x) = x := by
  have hk := ok_at k k1 k2
  obtain ⟨he, hr⟩ := read_ok k1 k2 x0 x1
  refine ⟨he, ?_⟩
  have hv : encV (read (shp k) k x) = encW (code k) (shp k) (read (shp k) k x) := by
    unfold encV encW
    rw [he]; rfl
  have hl := encW_lt (code k) (shp k) (read (shp k) k x)
  rw [hv]
  refine eq_of_tb _ _ hl.1 hl.2 x0 x1 fun p hp => ?_
  rw [tb_encW _ _ _ hk.c0 hk.c1 hr p hp, hit_tb hk x0 x1 h p hp]
  have : ((List.range 7).any fun j => tb (part (shp k) (read (shp k) k x) j) p) = (!tb (shp k).fixed p && tb x p) := by
    rw [← hk.all p hp]
    have hl : List.range 7 = [0, 1, 2, 3, 4, 5, 6] := by decide
    rw [hl]
    simp only [List.any_cons, List.any_nil, Bool.or_false, read_part hk x0 x1 _ p (show 0 < 7 by omega) hp, read_part hk x0 x1 _ p (show 1 < 7 by omega) hp, read_part hk x0 x1 _ p (show 2 < 7 by omega) hp, read_part hk x0 x1 _ p (show 3 < 7 by omega) hp, read_part hk x0 x1 _ p (show 4 < 7 by omega) hp, read_part hk x0 x1 _ p (show 5 < 7 by omega) hp, read_part hk x0 x1 _ p (show 6 < 7 by omega) hp]
    generalize tb x p = b
    cases b <;> simp
  rw [this]
  cases tb x p <;> cases tb (shp k).fixed p <;> rfl
theorem enc_dec {x : Int} (x0 : 0 ≤ x) (x1 : x < 4294967296) (h : decB x = true) : encE (decI x) = 0 ∧ encV (decI x) = x := by
  obtain ⟨h1, h2, h3⟩ := dec_hit x h
  exact enc_read h1 h2 x0 x1 h3
end Go.Proofs.Ytopehmpjfndgjaa.W

/- An instruction that a word has: its registers; without any Go. -/
namespace Go.Proofs.Ytopehmpjfndgjaa.W
open Go.RowKit
set_option linter.unusedVariables false

theorem rg0 : Rg 0 := ⟨by decide, by decide⟩
theorem immS_lt (s : Sh) (x : Int) : Rg (immS s x) := by
  unfold immS
  cases decide (0 < s.size)
  · exact imm_lt _ _
  · exact bitsOf_lt _ _ _
/-- An instruction that a word has. -/
structure IOk (i : I) : Prop where
  rd0 : 0 ≤ i.rd
  rd1 : i.rd < 32
  r10 : 0 ≤ i.rs1
  r11 : i.rs1 < 32
  r20 : 0 ≤ i.rs2
  r21 : i.rs2 < 32
  imm : Rg i.imm
theorem b5 (x low : Int) (l0 : 0 ≤ low) (l1 : low ≤ 31) (x0 : 0 ≤ x) (x1 : x < 4294967296) : 0 ≤ bitsOf x low 5 ∧ bitsOf x low 5 < 32 := by
  rw [bitsOf_eq x low 5 x0 x1 l0 l1 (by decide)]
  show 0 ≤ x / 2 ^ low.toNat % 32 ∧ x / 2 ^ low.toNat % 32 < 32
  omega
theorem IOk.read (s : Sh) (op x : Int) (h : Rg x) : IOk (read s op x) := by
  have h1 := b5 x 7 (by decide) (by decide) h.1 h.2
  have h2 := b5 x 15 (by decide) (by decide) h.1 h.2
  have h3 := b5 x 20 (by decide) (by decide) h.1 h.2
  have h4 := immS_lt s x
  refine ⟨?_, ?_, ?_, ?_, ?_, ?_, ?_⟩
  · show 0 ≤ bif s.rd then bitsOf x 7 5 else 0; cases s.rd; exact (by decide : (0 : Int) ≤ 0); exact h1.1
  · show (bif s.rd then bitsOf x 7 5 else 0) < 32; cases s.rd; exact (by decide : (0 : Int) < 32); exact h1.2
  · show 0 ≤ bif s.rs1 then bitsOf x 15 5 else 0; cases s.rs1; exact (by decide : (0 : Int) ≤ 0); exact h2.1
  · show (bif s.rs1 then bitsOf x 15 5 else 0) < 32; cases s.rs1; exact (by decide : (0 : Int) < 32); exact h2.2
  · show 0 ≤ bif s.rs2 then bitsOf x 20 5 else 0; cases s.rs2; exact (by decide : (0 : Int) ≤ 0); exact h3.1
  · show (bif s.rs2 then bitsOf x 20 5 else 0) < 32; cases s.rs2; exact (by decide : (0 : Int) < 32); exact h3.2
  · show Rg (bif hasImm s then immS s x else 0); cases hasImm s; exact rg0; exact h4
theorem IOk.dec (x : Int) (h : Rg x) : IOk (decI x) := IOk.read _ _ x h
end Go.Proofs.Ytopehmpjfndgjaa.W
