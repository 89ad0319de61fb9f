/- Texts in one: Math11, Math12, OpOf, SeeW, RefA, RefD0, RefDW. -/
import Derived.Test.YtbndaiombnikfaaGreatDoorJ07
import Derived.Test.YtbndaiombnikfaaGreatDoorJ09
import Derived.Test.YtbndaiombnikfaaGreatDoorJ10
/- Laying what was read. -/
namespace Go.Proofs.YtbndaiombnikfaaGreatDoor.W
open Go.RowKit
set_option linter.unusedVariables false
set_option linter.unusedSimpArgs false

theorem read_part {k : Nat} {x : Int} (hk : Ok k) (x0 : 0 ≤ x) (x1 : x < 4294967296) (j p : Nat) (hj : j < 7) (hp : p < 32) : tb (part (shp k) (read (shp k) k x) j) p = (cov (shp k) j p && tb x p) := by
  have fld : ∀ (l n : Nat) (b : Bool), l ≤ 31 → 1 ≤ n → n ≤ 32 → tb (placed (bif b then bitsOf x l n else 0) l n) p = ((b && decide (l ≤ p ∧ p - l < n)) && tb x p) := by
    intro l n b h1 h2 h3
    cases b
    · rw [cond_false, tb_placed0 _ _ _ hp]; rfl
    · have hb := bitsOf_lt x l n
      rw [cond_true, tb_field _ l n p hb.1 hb.2 h1 h2 h3 hp, tb_bitsOf x l n _ x0 x1 (by omega) (by omega) (by omega)]
      simp only [Int.toNat_natCast, show min n 32 = n by omega, Bool.true_and]
      by_cases hh : l ≤ p ∧ p - l < n
      · rw [show p - l + l = p by omega]
        simp [hh]
      · rw [decide_eq_false hh]; rfl
  have bt : ∀ (l : Nat) (b : Bool), l ≤ 31 → tb (placed (one (b && (bitsOf x l 1 == 1))) l (1 : Nat)) p = ((b && decide (p = l)) && tb x p) := by
    intro l b h1
    have ho := one_lt (b && (bitsOf x l 1 == 1))
    rw [tb_field _ l 1 p ho.1 (by omega) h1 (by omega) (by omega) hp, bit_eq x l x0 x1 h1]
    by_cases hh : p = l
    · subst hh
      simp [tb_one]
    · have : ¬ (l ≤ p ∧ p - l < 1) := by omega
      rw [decide_eq_false this, decide_eq_false hh]; simp
  match j, hj with
  | 0, _ =>
    refine (fld 7 5 (shp k).rd (by omega) (by omega) (by omega)).trans ?_
    have : decide (7 ≤ p ∧ p - 7 < 5) = decide (7 ≤ p ∧ p < 12) := decide_eq_decide.2 (by omega)
    rw [this]; rfl
  | 1, _ =>
    refine (fld 15 5 (shp k).rs1 (by omega) (by omega) (by omega)).trans ?_
    have : decide (15 ≤ p ∧ p - 15 < 5) = decide (15 ≤ p ∧ p < 20) := decide_eq_decide.2 (by omega)
    rw [this]; rfl
  | 2, _ =>
    refine (fld 20 5 (shp k).rs2 (by omega) (by omega) (by omega)).trans ?_
    have : decide (20 ≤ p ∧ p - 20 < 5) = decide (20 ≤ p ∧ p < 25) := decide_eq_decide.2 (by omega)
    rw [this]; rfl
  | 3, _ =>
    refine (fld 20 12 (shp k).csr (by omega) (by omega) (by omega)).trans ?_
    have : decide (20 ≤ p ∧ p - 20 < 12) = decide (20 ≤ p ∧ p < 32) := decide_eq_decide.2 (by omega)
    rw [this]; rfl
  | 4, _ => exact bt 26 (shp k).ord (by omega)
  | 5, _ => exact bt 25 (shp k).ord (by omega)
  | 6, _ =>
    show tb (layIV (shp k) (bif hasImm (shp k) then immS (shp k) x else 0)) p = (cov (shp k) 6 p && tb x p)
    unfold layIV
    rcases okF_cases hk.fmt with ⟨z, hfm⟩ | ⟨z, c1, c2, c3, c4, c5⟩
    · have hz : decide (0 < (shp k).size) = false := by simp [z]
      have hcov : cov (shp k) 6 p = (bif (shp k).fmt != 0 then tb (mask (shp k).fmt) p else false) := by
        show (bif decide (0 < (shp k).size) then _ else bif (shp k).fmt != 0 then tb (mask (shp k).fmt) p else false) = _
        rw [hz]; rfl
      rw [hcov]
      rcases hfm with e | e
      · have hi : hasImm (shp k) = false := by simp [hasImm, hasI, e, z]
        rw [hi, e, cond_false, tb_zero]; rfl
      · have hne : ((shp k).fmt != 0) = true := by simpa using isF_ne e
        have hi : hasImm (shp k) = true := by simp [hasImm, hasI, hne]
        have hm := mask_lt (shp k).fmt
        rw [hi, cond_true, cond_true, hz, cond_false, hne, cond_true]
        have e1 : immS (shp k) x = imm (shp k).fmt x := by unfold immS; rw [hz]; rfl
        have e2 : layV (shp k).fmt (imm (shp k).fmt x) = layw (shp k).fmt (imm (shp k).fmt x) := by unfold layV; rw [lay_back _ x e x0 x1]; rfl
        rw [e1, e2, lay_imm _ x e x0 x1, tb_and _ _ p x0 x1 hm.1 hm.2, Bool.and_comm]
    · have hz : decide (0 < (shp k).size) = true := by simp [c1]
      have hi : hasImm (shp k) = true := by simp [hasImm, hasI, c1]
      have hcov : cov (shp k) 6 p = decide ((shp k).low.toNat ≤ p ∧ p - (shp k).low.toNat < (shp k).size.toNat) := by
        show (bif decide (0 < (shp k).size) then decide ((shp k).low.toNat ≤ p ∧ p - (shp k).low.toNat < (shp k).size.toNat) else _) = _
        rw [hz]; rfl
      have e1 : immS (shp k) x = bitsOf x (shp k).low (shp k).size := by unfold immS; rw [hz]; rfl
      rw [hcov, hi, cond_true, cond_true, hz, cond_true, e1]
      have : lone (bitsOf x (shp k).low (shp k).size) (shp k).low (shp k).size = moved x (shp k).low (shp k).low (shp k).size := rfl
      rw [this, tb_moved x _ _ _ p x0 x1 c3 c4 c3 c4 (by omega) hp]
      by_cases hh : (shp k).low.toNat ≤ p ∧ p - (shp k).low.toNat < (shp k).size.toNat
      · rw [show p - (shp k).low.toNat + (shp k).low.toNat = p by omega]
      · rw [decide_eq_false hh]; rfl
theorem bits_le (x : Int) (l n : Nat) (x0 : 0 ≤ x) (x1 : x < 4294967296) (hl : l ≤ 31) (hn : 1 ≤ n) (hn2 : n ≤ 12) : 0 ≤ bitsOf x l n ∧ bitsOf x l n < 2 ^ n := by
  rw [bitsOf_eq x l n x0 x1 (by omega) (by omega) (by omega)]
  simp only [Int.toNat_natCast, show min n 32 = n by omega]
  exact ⟨Int.emod_nonneg _ (Int.ne_of_gt (Int.pow_pos (by omega))), Int.emod_lt_of_pos _ (Int.pow_pos (by omega))⟩
theorem read_ok {k : Nat} {x : Int} (k1 : 1 ≤ k) (k2 : k ≤ 69) (x0 : 0 ≤ x) (x1 : x < 4294967296) : encE (read (shp k) k x) = 0 ∧ InR (read (shp k) k x) := by
  have hk := ok_at k k1 k2
  have a1 := bits_le x 7 5 x0 x1 (by omega) (by omega) (by omega)
  have a2 := bits_le x 15 5 x0 x1 (by omega) (by omega) (by omega)
  have a3 := bits_le x 20 5 x0 x1 (by omega) (by omega) (by omega)
  have a4 := bits_le x 20 12 x0 x1 (by omega) (by omega) (by omega)
  have hr : InR (read (shp k) k x) := by
    refine ⟨?_, ?_, ?_, ?_, ?_, ?_, ?_, ?_⟩
    · show 0 ≤ (bif (shp k).rd then bitsOf x 7 5 else 0); cases (shp k).rd <;> simp; exact a1.1
    · show (bif (shp k).rd then bitsOf x 7 5 else 0) ≤ 31; have := a1.2; cases (shp k).rd <;> simp; simp at this; omega
    · show 0 ≤ (bif (shp k).rs1 then bitsOf x 15 5 else 0); cases (shp k).rs1 <;> simp; exact a2.1
    · show (bif (shp k).rs1 then bitsOf x 15 5 else 0) ≤ 31; have := a2.2; cases (shp k).rs1 <;> simp; simp at this; omega
    · show 0 ≤ (bif (shp k).rs2 then bitsOf x 20 5 else 0); cases (shp k).rs2 <;> simp; exact a3.1
    · show (bif (shp k).rs2 then bitsOf x 20 5 else 0) ≤ 31; have := a3.2; cases (shp k).rs2 <;> simp; simp at this; omega
    · show 0 ≤ (bif (shp k).csr then bitsOf x 20 12 else 0); cases (shp k).csr <;> simp; exact a4.1
    · show (bif (shp k).csr then bitsOf x 20 12 else 0) ≤ 4095; have := a4.2; cases (shp k).csr <;> simp; simp at this; omega
  have hrange : inRange (read (shp k) k x) = true := by
    simp [inRange, fr, hr.rd0, hr.rd1, hr.rs10, hr.rs11, hr.rs20, hr.rs21, hr.csr0, hr.csr1]
  have hs : same (only (shp k) (read (shp k) k x)) (read (shp k) k x) = true := by
    unfold read only same
    cases (shp k).rd <;> cases (shp k).rs1 <;> cases (shp k).rs2 <;> cases (shp k).csr <;> cases hasImm (shp k) <;> cases (shp k).ord <;> simp
  have hb : layIB (shp k) (read (shp k) k x).imm = true := by
    show layIB (shp k) (bif hasImm (shp k) then immS (shp k) x else 0) = true
    unfold layIB
    rcases okF_cases hk.fmt with ⟨z, hfm⟩ | ⟨z, c1, c2, c3, c4, c5⟩
    · have hz : decide (0 < (shp k).size) = false := by simp [z]
      rcases hfm with e | e
      · have hi : hasImm (shp k) = false := by simp [hasImm, hasI, e, z]
        rw [hi]; rfl
      · have hne : ((shp k).fmt != 0) = true := by simpa using isF_ne e
        have hi : hasImm (shp k) = true := by simp [hasImm, hasI, hne]
        have e1 : immS (shp k) x = imm (shp k).fmt x := by unfold immS; rw [hz]; rfl
        rw [hi, cond_true, cond_true, hz, cond_false, e1]
        exact lay_back _ x e x0 x1
    · have hz : decide (0 < (shp k).size) = true := by simp [c1]
      have hi : hasImm (shp k) = true := by simp [hasImm, hasI, c1]
      have e1 : ∀ y, immS (shp k) y = bitsOf y (shp k).low (shp k).size := fun y => by unfold immS; rw [hz]; rfl
      rw [hi, cond_true, cond_true, hz, cond_true, e1, e1]
      have hm := moved_lt x (shp k).low (shp k).low (shp k).size
      have : bitsOf (moved x (shp k).low (shp k).low (shp k).size) (shp k).low (shp k).size = bitsOf x (shp k).low (shp k).size := by
        refine bitsOf_ext _ _ _ _ hm.1 hm.2 x0 x1 c3 c4 (by omega) fun p h1 h2 h3 => ?_
        rw [tb_moved x _ _ _ p x0 x1 c3 c4 c3 c4 (by omega) h2]
        have hh : (shp k).low.toNat ≤ p ∧ p - (shp k).low.toNat < (shp k).size.toNat := by omega
        rw [decide_eq_true hh, show p - (shp k).low.toNat + (shp k).low.toNat = p by omega]; rfl
      show (bitsOf (moved x (shp k).low (shp k).low (shp k).size) (shp k).low (shp k).size == bitsOf x (shp k).low (shp k).size) = true
      rw [this]; simp
  have hkn : known (read (shp k) k x).op = true := by
    show known (k : Int) = true
    simp [known, fr]; omega
  have he : encE (read (shp k) k x) = 0 := by
    unfold encE
    rw [hkn]
    show (bif layIB (shp k) (read (shp k) k x).imm && inRange (read (shp k) k x) then (bif same (only (shp k) (read (shp k) k x)) (read (shp k) k x) then 0 else 3) else 2) = 0
    rw [hb, hrange, hs]; rfl
  exact ⟨he, hr⟩
theorem enc_read {k : Nat} {x : Int} (k1 : 1 ≤ k) (k2 : k ≤ 69) (x0 : 0 ≤ x) (x1 : x < 4294967296) (h : hit x k = true) : encE (read (shp k) k x) = 0 ∧ encV (read (shp k) k x) = x := by
  have hk := ok_at k k1 k2
  obtain ⟨he, hr⟩ := read_ok k1 k2 x0 x1
  refine ⟨he, ?_⟩
  have hv : encV (read (shp k) k x) = encW (code k) (shp k) (read (shp k) k x) := by
    unfold encV encW
    rw [he]; rfl
  have hl := encW_lt (code k) (shp k) (read (shp k) k x)
  rw [hv]
  refine eq_of_tb _ _ hl.1 hl.2 x0 x1 fun p hp => ?_
  rw [tb_encW _ _ _ hk.c0 hk.c1 hr p hp, hit_tb hk x0 x1 h p hp]
  have : ((List.range 7).any fun j => tb (part (shp k) (read (shp k) k x) j) p) = (!tb (shp k).fixed p && tb x p) := by
    rw [← hk.all p hp]
    have hl : List.range 7 = [0, 1, 2, 3, 4, 5, 6] := by decide
    rw [hl]
    simp only [List.any_cons, List.any_nil, Bool.or_false, read_part hk x0 x1 _ p (show 0 < 7 by omega) hp, read_part hk x0 x1 _ p (show 1 < 7 by omega) hp, read_part hk x0 x1 _ p (show 2 < 7 by omega) hp, read_part hk x0 x1 _ p (show 3 < 7 by omega) hp, read_part hk x0 x1 _ p (show 4 < 7 by omega) hp, read_part hk x0 x1 _ p (show 5 < 7 by omega) hp, read_part hk x0 x1 _ p (show 6 < 7 by omega) hp]
    generalize tb x p = b
    cases b <;> simp
  rw [this]
  cases tb x p <;> cases tb (shp k).fixed p <;> rfl
theorem enc_dec {x : Int} (x0 : 0 ≤ x) (x1 : x < 4294967296) (h : decB x = true) : encE (decI x) = 0 ∧ encV (decI x) = x := by
  obtain ⟨h1, h2, h3⟩ := dec_hit x h
  exact enc_read h1 h2 x0 x1 h3
end Go.Proofs.YtbndaiombnikfaaGreatDoor.W

/- The document's rows against the shapes. -/
namespace Go.Proofs.YtbndaiombnikfaaGreatDoor.W
open Go.RowKit
set_option linter.unusedVariables false
set_option linter.unusedSimpArgs false

def fmOk (fm : Int) (s : Sh) : Bool := (fm == 0 && !hasImm s) || (fm == 90 && s.fmt == 0 && s.low == 20 && s.size == 5) || (fm == 67 && s.fmt == 0 && s.low == 15 && s.size == 5) || (fm == 70 && s.fmt == 0 && s.low == 20 && s.size == 8) || ((fm == 73 || fm == 83 || fm == 66 || fm == 85 || fm == 74) && s.fmt == fm && s.size == 0)
def rwOk (k : Nat) : Bool :=
  fmOk (rw k).fm (shp ((k + 1 : Nat) : Int)) && (bif (rw k).wh != 0 then ((rw k).wh == code (k + 1)) && ((shp ((k + 1 : Nat) : Int)).fixed == 4294967295) else
   (bits .or .u32 (rhead (rw k)) (bif (rw k).pair then (rw k).f7 * 134217728 % 4294967296 else (rw k).f7 * 33554432 % 4294967296) == code (k + 1)))
theorem rwOkAll : ((List.range 69).all rwOk) = true := by decide +kernel
theorem fmOk_cases {fm : Int} {s : Sh} (h : fmOk fm s = true) : (fm = 0 ∧ hasImm s = false) ∨ (fm = 90 ∧ s.fmt = 0 ∧ s.low = 20 ∧ s.size = 5) ∨ (fm = 67 ∧ s.fmt = 0 ∧ s.low = 15 ∧ s.size = 5) ∨ (fm = 70 ∧ s.fmt = 0 ∧ s.low = 20 ∧ s.size = 8) ∨ (isF fm ∧ s.fmt = fm ∧ s.size = 0) := by
  unfold fmOk at h
  simp only [Bool.or_eq_true, Bool.and_eq_true, beq_iff_eq, Bool.not_eq_true'] at h
  unfold isF
  rcases h with (((h | h) | h) | h) | h
  · exact Or.inl h
  · exact Or.inr (Or.inl ⟨h.1.1.1, h.1.1.2, h.1.2, h.2⟩)
  · exact Or.inr (Or.inr (Or.inl ⟨h.1.1.1, h.1.1.2, h.1.2, h.2⟩))
  · exact Or.inr (Or.inr (Or.inr (Or.inl ⟨h.1.1.1, h.1.1.2, h.1.2, h.2⟩)))
  · exact Or.inr (Or.inr (Or.inr (Or.inr ⟨by omega, h.1.2, h.2⟩)))

theorem pow_le_w (n : Nat) (h : n ≤ 32) : (2 : Int) ^ n ≤ 4294967296 := by
  have := Nat.pow_le_pow_right (show 0 < 2 by omega) h
  have h2 : ((2 ^ n : Nat) : Int) ≤ ((2 ^ 32 : Nat) : Int) := by exact_mod_cast this
  simpa using h2
theorem placed_small (v : Int) (l n : Nat) (v0 : 0 ≤ v) (v1 : v < 2 ^ n) (hn : 1 ≤ n) (hl : l + n ≤ 32) : v % 4294967296 * 2 ^ l % 4294967296 = placed v l n := by
  have hp := pow_le_w n (by omega)
  have hw : within (l : Int) (n : Int) = true := by simp [within]; omega
  rw [← placed_ref v l n v0 (by omega) hw, bitsOf_eq v 0 n v0 (by omega) (by omega) (by omega) (by omega)]
  simp only [Int.toNat_natCast, show min n 32 = n by omega, Int.toNat_zero, Int.pow_zero, Int.ediv_one]
  rw [Int.emod_eq_of_lt v0 (show v < 4294967296 by omega), Int.emod_eq_of_lt v0 v1]

theorem small_back (v : Int) (l n : Nat) (v0 : 0 ≤ v) (v1 : v < 4294967296) (hn : 1 ≤ n) (hn2 : n ≤ 12) (hl : l + n ≤ 32) : (bitsOf (placed v l n) l n == v) = decide (v < 2 ^ n) := by
  have hp := placed_lt v l n
  by_cases h : v < 2 ^ n
  · rw [field_back (placed v l n) v l n hp.1 hp.2 v0 h hn hl fun _ _ _ => rfl]
    simp [h]
  · have := bits_le (placed v l n) l n hp.1 hp.2 (by omega) hn hn2
    have : ¬ bitsOf (placed v l n) l n = v := by omega
    simp [h, this]

theorem immS_field {s : Sh} {l n : Int} (h1 : s.low = l) (h2 : s.size = n) (h3 : 0 < n) (y : Int) : immS s y = bitsOf y l n := by
  unfold immS
  rw [h1, h2, decide_eq_true h3]; rfl
theorem hasImm_size {s : Sh} {n : Int} (h2 : s.size = n) (h3 : 0 < n) : hasImm s = true := by
  unfold hasImm hasI
  rw [h2, decide_eq_true h3, Bool.or_true]
theorem layIB_field {s : Sh} {l n : Nat} (h1 : s.low = l) (h2 : s.size = n) (hn : 1 ≤ n) (hn2 : n ≤ 12) (hl : l + n ≤ 32) (v : Int) (v0 : 0 ≤ v) (v1 : v < 4294967296) : layIB s v = decide (v < 2 ^ n) := by
  unfold layIB
  have hz : decide (0 < s.size) = true := by rw [h2]; simp; omega
  rw [hasImm_size h2 (by omega), hz, cond_true, cond_true, lone_placed, immS_field h1 h2 (by omega), h1, h2]
  exact small_back v l n v0 v1 hn hn2 hl
theorem layIV_field {s : Sh} {l n : Nat} (h1 : s.low = l) (h2 : s.size = n) (hn : 1 ≤ n) (hl : l + n ≤ 32) (v : Int) (v0 : 0 ≤ v) (v1 : v < 2 ^ n) : layIV s v = v * 2 ^ l % 4294967296 := by
  unfold layIV
  have hz : decide (0 < s.size) = true := by rw [h2]; simp; omega
  have hp := pow_le_w n (by omega)
  rw [hasImm_size h2 (by omega), hz, cond_true, cond_true, lone_placed, h1, h2, ← placed_small v l n v0 v1 hn hl, Int.emod_eq_of_lt v0 (show v < 4294967296 by omega)]

theorem layIB_f {s : Sh} {fm : Int} (hf : isF fm) (h1 : s.fmt = fm) (h2 : s.size = 0) : hasImm s = true ∧ (∀ v, layIB s v = layB fm v) ∧ (∀ v, layIV s v = layV fm v) ∧ ∀ x, immS s x = imm fm x := by
  have hne : (s.fmt != 0) = true := by rw [h1]; simpa using isF_ne hf
  have hz : decide (0 < s.size) = false := by rw [h2]; rfl
  have hi : hasImm s = true := by unfold hasImm hasI; rw [hne, Bool.true_or]
  refine ⟨hi, fun v => ?_, fun v => ?_, fun v => ?_⟩
  · unfold layIB; rw [hi, hz, h1]; rfl
  · unfold layIV; rw [hi, hz, h1]; rfl
  · unfold immS; rw [hz, h1]; rfl
theorem isF_odd {f : Int} (h : isF f) : (f == 0) = false ∧ (f == 90) = false ∧ (f == 67) = false ∧ (f == 70) = false := by
  rcases h with rfl | rfl | rfl | rfl | rfl <;> decide

theorem rlayB_eq {fm : Int} {s : Sh} (h : fmOk fm s = true) (v : Int) (v0 : 0 ≤ v) (v1 : v < 4294967296) : layIB s v = (fm == 0 || rlayB fm v) := by
  rcases fmOk_cases h with ⟨rfl, hi⟩ | ⟨rfl, a, b, c⟩ | ⟨rfl, a, b, c⟩ | ⟨rfl, a, b, c⟩ | ⟨hf, a, b⟩
  · unfold layIB; rw [hi]; rfl
  · exact layIB_field (l := 20) (n := 5) b c (by omega) (by omega) (by omega) v v0 v1
  · exact layIB_field (l := 15) (n := 5) b c (by omega) (by omega) (by omega) v v0 v1
  · exact layIB_field (l := 20) (n := 8) b c (by omega) (by omega) (by omega) v v0 v1
  · obtain ⟨o1, o2, o3, o4⟩ := isF_odd hf
    rw [(layIB_f hf a b).2.1, rlayB, o1, o2, o3, o4]; rfl
theorem rlayV_eq {fm : Int} {s : Sh} (h : fmOk fm s = true) (v : Int) (v0 : 0 ≤ v) (v1 : v < 4294967296) (hb : layIB s v = true) : rlayV fm v = layIV s v := by
  rcases fmOk_cases h with ⟨rfl, hi⟩ | ⟨rfl, a, b, c⟩ | ⟨rfl, a, b, c⟩ | ⟨rfl, a, b, c⟩ | ⟨hf, a, b⟩
  · unfold layIV; rw [hi]; rfl
  · rw [layIB_field (l := 20) (n := 5) b c (by omega) (by omega) (by omega) v v0 v1] at hb
    exact (layIV_field (l := 20) (n := 5) b c (by omega) (by omega) v v0 (of_decide_eq_true hb)).symm
  · rw [layIB_field (l := 15) (n := 5) b c (by omega) (by omega) (by omega) v v0 v1] at hb
    exact (layIV_field (l := 15) (n := 5) b c (by omega) (by omega) v v0 (of_decide_eq_true hb)).symm
  · rw [layIB_field (l := 20) (n := 8) b c (by omega) (by omega) (by omega) v v0 v1] at hb
    exact (layIV_field (l := 20) (n := 8) b c (by omega) (by omega) v v0 (of_decide_eq_true hb)).symm
  · obtain ⟨o1, o2, o3, o4⟩ := isF_odd hf
    rw [(layIB_f hf a b).2.2.1, rlayV, o1, o2, o3, o4]; rfl
theorem rimm_eq {fm : Int} {s : Sh} (h : fmOk fm s = true) (x : Int) : rimm fm x = bif hasImm s then immS s x else 0 := by
  rcases fmOk_cases h with ⟨rfl, hi⟩ | ⟨rfl, a, b, c⟩ | ⟨rfl, a, b, c⟩ | ⟨rfl, a, b, c⟩ | ⟨hf, a, b⟩
  · rw [hi]; simp [rimm, imm, wid, sgn]
  · rw [hasImm_size c (by omega), cond_true, immS_field b c (by omega)]; rfl
  · rw [hasImm_size c (by omega), cond_true, immS_field b c (by omega)]; rfl
  · rw [hasImm_size c (by omega), cond_true, immS_field b c (by omega)]; rfl
  · obtain ⟨o1, o2, o3, o4⟩ := isF_odd hf
    rw [(layIB_f hf a b).1, cond_true, (layIB_f hf a b).2.2.2, rimm, o2, o3, o4]; rfl

theorem tb_aq (b : Bool) (h : Int) (h0 : 0 ≤ h) (h1 : h < 4294967296) (p : Nat) (hp : p < 32) : (0 ≤ raq b h ∧ raq b h < 4294967296) ∧ tb (raq b h) p = (tb h p || tb (placed (one b) 26 1) p) := by
  cases b
  · exact ⟨⟨h0, h1⟩, by rw [show one false = 0 from rfl, tb_placed0 _ _ _ hp, Bool.or_false]; rfl⟩
  · refine ⟨or_lt _ _, ?_⟩
    show tb (bits .or .u32 h 67108864) p = _
    rw [tb_or _ _ p h0 h1 (by decide) (by decide), show placed (one true) 26 1 = 67108864 from by decide +kernel]
theorem tb_rl (b : Bool) (h : Int) (h0 : 0 ≤ h) (h1 : h < 4294967296) (p : Nat) (hp : p < 32) : (0 ≤ rrl b h ∧ rrl b h < 4294967296) ∧ tb (rrl b h) p = (tb h p || tb (placed (one b) 25 1) p) := by
  cases b
  · exact ⟨⟨h0, h1⟩, by rw [show one false = 0 from rfl, tb_placed0 _ _ _ hp, Bool.or_false]; rfl⟩
  · refine ⟨or_lt _ _, ?_⟩
    show tb (bits .or .u32 h 33554432) p = _
    rw [tb_or _ _ p h0 h1 (by decide) (by decide), show placed (one true) 25 1 = 33554432 from by decide +kernel]

theorem rword_enc {k : Nat} (hk : k < 69) {i : I} (ho : i.op = ((k + 1 : Nat) : Int)) (m0 : 0 ≤ i.imm) (m1 : i.imm < 4294967296) (he : encE i = 0) : rword (rw k) i = encV i := by
  obtain ⟨h1, h2, h3, h4⟩ := encE_zero he
  rw [ho] at h2 h4
  have hr := inR_of h3
  have hK := ok_at (k + 1) (by omega) (by omega)
  have hv : encV i = encW (code (k + 1)) (shp ((k + 1 : Nat) : Int)) i := by
    unfold encV encW
    rw [he, ho]; rfl
  have hl := encW_lt (code (k + 1)) (shp ((k + 1 : Nat) : Int)) i
  have hrw := List.all_eq_true.1 rwOkAll k (List.mem_range.2 hk)
  rw [rwOk, Bool.and_eq_true] at hrw
  obtain ⟨hfm, hw⟩ := hrw
  rw [hv]
  unfold rword
  cases hwh : ((rw k).wh != 0)
  case true =>
    rw [hwh, cond_true, Bool.and_eq_true] at hw
    rw [cond_true, beq_iff_eq.1 hw.1]
    refine eq_of_tb _ _ hK.c0 hK.c1 hl.1 hl.2 fun p hp => (encW_fixed hK hr h4 h2 p hp ?_).symm
    rw [beq_iff_eq.1 hw.2]
    have : ((List.range 32).all fun p => tb 4294967295 p) = true := by decide +kernel
    exact List.all_eq_true.1 this p (List.mem_range.2 hp)
  case false =>
    rw [hwh, cond_false] at hw
    rw [cond_false]
    have hw := beq_iff_eq.1 hw
    have hs' : (bif (shp ((k + 1 : Nat) : Int)).rd then i.rd else 0) = i.rd ∧ (bif (shp ((k + 1 : Nat) : Int)).rs1 then i.rs1 else 0) = i.rs1 ∧ (bif (shp ((k + 1 : Nat) : Int)).rs2 then i.rs2 else 0) = i.rs2 ∧ (bif (shp ((k + 1 : Nat) : Int)).csr then i.csr else 0) = i.csr ∧ (bif hasImm (shp ((k + 1 : Nat) : Int)) then i.imm else 0) = i.imm ∧ ((shp ((k + 1 : Nat) : Int)).ord && i.aq) = i.aq ∧ ((shp ((k + 1 : Nat) : Int)).ord && i.rl) = i.rl := by
      simpa only [same, only, Bool.and_eq_true, beq_iff_eq, true_and] using h4
    obtain ⟨q0, q1, q2, q3, q4, q5, q6⟩ := hs'
    have H : ∀ p, p < 32 → ∃ h, (bif (rw k).pair then rrl i.rl (raq i.aq (bits .or .u32 (rhead (rw k)) ((rw k).f7 * 134217728 % 4294967296))) else bits .or .u32 (rhead (rw k)) ((rw k).f7 * 33554432 % 4294967296)) = h ∧ (0 ≤ h ∧ h < 4294967296) ∧ tb h p = (tb (code (k + 1)) p || tb (placed (one i.aq) 26 1) p || tb (placed (one i.rl) 25 1) p) := by
      intro p hp
      refine ⟨_, rfl, ?_⟩
      cases hpr : (rw k).pair
      · rw [hpr, cond_false] at hw
        have hor : (shp ((k + 1 : Nat) : Int)).ord = false := hpr
        rw [hor, Bool.false_and] at q5 q6
        rw [cond_false, hw, ← q5, ← q6, show one false = 0 from rfl, tb_placed0 _ _ _ hp, tb_placed0 _ _ _ hp, Bool.or_false, Bool.or_false]
        exact ⟨⟨hK.c0, hK.c1⟩, rfl⟩
      · rw [hpr, cond_true] at hw
        rw [cond_true, hw]
        obtain ⟨a1, a2⟩ := tb_aq i.aq _ hK.c0 hK.c1 p hp
        obtain ⟨b1, b2⟩ := tb_rl i.rl _ a1.1 a1.2 p hp
        exact ⟨b1, by rw [b2, a2]⟩
    unfold rtail
    refine eq_of_tb _ _ (or_lt _ _).1 (or_lt _ _).2 hl.1 hl.2 fun p hp => ?_
    obtain ⟨h, e, hb, ht⟩ := H p hp
    rw [e]
    have iv := layIV_lt (shp ((k + 1 : Nat) : Int)) i.imm
    have f1 : i.rd % 4294967296 * 128 % 4294967296 = placed i.rd 7 5 := placed_small i.rd 7 5 hr.rd0 (by have := hr.rd1; show i.rd < 32; omega) (by omega) (by omega)
    have f2 : i.rs1 % 4294967296 * 32768 % 4294967296 = placed i.rs1 15 5 := placed_small i.rs1 15 5 hr.rs10 (by have := hr.rs11; show i.rs1 < 32; omega) (by omega) (by omega)
    have f3 : i.rs2 % 4294967296 * 1048576 % 4294967296 = placed i.rs2 20 5 := placed_small i.rs2 20 5 hr.rs20 (by have := hr.rs21; show i.rs2 < 32; omega) (by omega) (by omega)
    have f4 : i.csr % 4294967296 * 1048576 % 4294967296 = placed i.csr 20 12 := placed_small i.csr 20 12 hr.csr0 (by have := hr.csr1; show i.csr < 4096; omega) (by omega) (by omega)
    rw [f1, f2, f3, f4, rlayV_eq hfm i.imm m0 m1 h2]
    rw [tb_or _ _ p (or_lt _ _).1 (or_lt _ _).2 (placed_lt _ _ _).1 (placed_lt _ _ _).2, tb_or _ _ p (or_lt _ _).1 (or_lt _ _).2 (placed_lt _ _ _).1 (placed_lt _ _ _).2, tb_or _ _ p (or_lt _ _).1 (or_lt _ _).2 (placed_lt _ _ _).1 (placed_lt _ _ _).2, tb_or _ _ p (or_lt _ _).1 (or_lt _ _).2 (placed_lt _ _ _).1 (placed_lt _ _ _).2, tb_or _ _ p hb.1 hb.2 iv.1 iv.2, ht, tb_encW _ _ _ hK.c0 hK.c1 hr p hp]
    have hl : List.range 7 = [0, 1, 2, 3, 4, 5, 6] := by decide
    rw [hl]
    simp only [List.any_cons, List.any_nil, Bool.or_false, part]
    generalize tb (code (k + 1)) p = b0
    generalize tb (layIV (shp ((k + 1 : Nat) : Int)) i.imm) p = b1
    generalize tb (placed i.rd 7 5) p = b2
    generalize tb (placed i.rs1 15 5) p = b3
    generalize tb (placed i.rs2 20 5) p = b4
    generalize tb (placed i.csr 20 12) p = b5
    generalize tb (placed (one i.aq) 26 1) p = b6
    generalize tb (placed (one i.rl) 25 1) p = b7
    cases b0 <;> cases b1 <;> cases b2 <;> cases b3 <;> cases b4 <;> cases b5 <;> cases b6 <;> cases b7 <;> rfl

/-- What Decode reads by row k. -/
def rread (r : Rw) (x : Int) : I := ⟨r.op, bif r.rd then bitsOf x 7 5 else 0, bif r.rs1 then bitsOf x 15 5 else 0, bif r.rs2 then bitsOf x 20 5 else 0, bif r.csr then bitsOf x 20 12 else 0, rimm r.fm x, r.pair && (bitsOf x 26 1 == 1), r.pair && (bitsOf x 25 1 == 1)⟩
theorem rread_eq {k : Nat} (hk : k < 69) (x : Int) : rread (rw k) x = read (shp ((k + 1 : Nat) : Int)) ((k + 1 : Nat) : Int) x := by
  have hrw := List.all_eq_true.1 rwOkAll k (List.mem_range.2 hk)
  rw [rwOk, Bool.and_eq_true] at hrw
  unfold rread read only readAll
  rw [rimm_eq hrw.1]
  rfl
theorem rread_hit {k : Nat} (hk : k < 69) {x : Int} (x0 : 0 ≤ x) (x1 : x < 4294967296) : (rword (rw k) (rread (rw k) x) == x) = hit x (k + 1) := by
  have hK := ok_at (k + 1) (by omega) (by omega)
  obtain ⟨he, hr⟩ := read_ok (k := k + 1) (by omega) (by omega) x0 x1
  rw [rread_eq hk]
  have hm : 0 ≤ (read (shp ((k + 1 : Nat) : Int)) ((k + 1 : Nat) : Int) x).imm ∧ (read (shp ((k + 1 : Nat) : Int)) ((k + 1 : Nat) : Int) x).imm < 4294967296 := by
    show 0 ≤ (bif hasImm (shp ((k + 1 : Nat) : Int)) then immS (shp ((k + 1 : Nat) : Int)) x else 0) ∧ (bif hasImm (shp ((k + 1 : Nat) : Int)) then immS (shp ((k + 1 : Nat) : Int)) x else 0) < 4294967296
    cases hasImm (shp ((k + 1 : Nat) : Int))
    · rw [cond_false]; decide
    · unfold immS
      cases decide (0 < (shp ((k + 1 : Nat) : Int)).size)
      · exact imm_lt _ _
      · exact bitsOf_lt _ _ _
  rw [rword_enc hk rfl hm.1 hm.2 he]
  cases hh : hit x (k + 1)
  · rw [beq_eq_false_iff_ne]
    intro e
    obtain ⟨h1, h2, h3, h4⟩ := encE_zero he
    have hv : encV (read (shp ((k + 1 : Nat) : Int)) ((k + 1 : Nat) : Int) x) = encW (code (k + 1)) (shp ((k + 1 : Nat) : Int)) (read (shp ((k + 1 : Nat) : Int)) ((k + 1 : Nat) : Int) x) := by
      unfold encV encW
      rw [he]; rfl
    have := encW_hit hK hr h4 h2
    rw [← hv, e, hh] at this
    cases this
  · rw [beq_iff_eq]
    exact (enc_read (by omega) (by omega) x0 x1 hh).2
theorem whole_hit {k : Nat} (hk : k < 69) {x : Int} (x0 : 0 ≤ x) (x1 : x < 4294967296) (hw : ((rw k).wh != 0) = true) : (x == (rw k).wh) = hit x (k + 1) := by
  have := rread_hit hk x0 x1
  rw [rword, hw, cond_true] at this
  rw [← this, Bool.eq_iff_iff, beq_iff_eq, beq_iff_eq]
  exact eq_comm
theorem whole_read {k : Nat} (hk : k < 69) (x : Int) (hw : ((rw k).wh != 0) = true) : read (shp ((k + 1 : Nat) : Int)) ((k + 1 : Nat) : Int) x = ⟨((k + 1 : Nat) : Int), 0, 0, 0, 0, 0, false, false⟩ := by
  have : ((List.range 69).all fun k => !((rw k).wh != 0) || (!(shp ((k + 1 : Nat) : Int)).rd && !(shp ((k + 1 : Nat) : Int)).rs1 && !(shp ((k + 1 : Nat) : Int)).rs2 && !(shp ((k + 1 : Nat) : Int)).csr && !(shp ((k + 1 : Nat) : Int)).ord && !hasImm (shp ((k + 1 : Nat) : Int)))) = true := by decide +kernel
  have := List.all_eq_true.1 this k (List.mem_range.2 hk)
  rw [hw, Bool.not_true, Bool.false_or] at this
  simp only [Bool.and_eq_true, Bool.not_eq_true'] at this
  obtain ⟨⟨⟨⟨⟨a, b⟩, c⟩, d⟩, e⟩, f⟩ := this
  unfold read only readAll
  rw [a, b, c, d, e, f]
  rfl
end Go.Proofs.YtbndaiombnikfaaGreatDoor.W

/- What slices.Index and Op answer. -/
namespace Go.Proofs.YtbndaiombnikfaaGreatDoor
open Go.ChangeShapes Go.WideShapes Go.ChangeAt Go.RowKit
set_option linter.unusedVariables false
set_option linter.unusedSimpArgs false

namespace W
/-- The first name from the k-th on that is L; -1: none. -/
def fidx (L : List UInt8) : Nat → Nat → Int
  | _, 0 => -1
  | k, n + 1 => bif L == nameAt k then (k : Int) else fidx L (k + 1) n
theorem fidx_step {L : List UInt8} {k : Nat} (hk : k < 70) : fidx L k (70 - k) = bif L == nameAt k then (k : Int) else fidx L (k + 1) (70 - (k + 1)) := by
  have : 70 - k = (70 - (k + 1)) + 1 := by omega
  rw [this, fidx]
end W
/-- The names lie in block g. -/
structure Nt (g : Nat) (wc : World) : Prop where
  lt : g < wc.heap.size
  cells : ∀ k, k < 70 → wc.cell? ⟨g, k, none⟩ = some (.string ⟨(W.nameAt k).toArray⟩)

set_option maxRecDepth 100000 in
set_option maxHeartbeats 1600000 in
theorem index_any (L : List UInt8) (g : Nat) (w : World) (hN : Nt g w) : Calls Tryz.prog 97 #[.slice (some ⟨g, 0, none⟩) 70 70, .string ⟨L.toArray⟩] w fun e w' => e = .returned (.int .i64 (W.fidx L 0 70)) ∧ w = w' := by
  have HN : Hid (Nt g w) := hN
  clear hN
  go_enter Tryz.func97, Tryz.ntmps97
  go_wp2
  go_loopw [8] (fun i wr => ∃ k : Nat, k ≤ 70 ∧ i = .int .i64 k ∧ wr = w ∧ W.fidx L 0 70 = W.fidx L k (70 - k)) (fun i _ => (70 - intOf i).toNat)
  case atStart => exact ⟨0, by omega, rfl, rfl, rfl⟩
  case round =>
    obtain ⟨k, hk, rfl, rfl, hD⟩ := hrel
    have HD : Hid (W.fidx L 0 70 = W.fidx L k (70 - k)) := hD
    clear hD
    by_cases hlt : k < 70
    · have c := HN.out.cells k hlt
      have hl0 : (0 : Int) ≤ (k : Int) := by omega
      have hl1 : (k : Int) < 70 := by omega
      have hst := W.fidx_step (L := L) hlt
      cases ht : (L == W.nameAt k)
      · have H2 : Hid (W.fidx L 0 70 = W.fidx L (k + 1) (70 - (k + 1))) := (by rw [HD.out, hst, ht]; rfl : W.fidx L 0 70 = _)
        clear hst
        generalize W.nameAt k = nk at *
        go_wp2
        go_roundw
        case rel => exact ⟨k + 1, by omega, by go_num, trivial, H2.out⟩
        case measure => simp [intOf]; omega
      · have H2 : Hid (W.fidx L 0 70 = (k : Int)) := (by rw [HD.out, hst, ht]; rfl : W.fidx L 0 70 = _)
        clear hst
        generalize W.nameAt k = nk at *
        go_wp2
        go_ret
        exact ⟨ret_int H2.out.symm, rfl⟩
    · obtain rfl : k = 70 := by omega
      go_wp2
      go_ret
      exact ⟨ret_int HD.out.symm, rfl⟩

set_option maxRecDepth 100000 in
set_option maxHeartbeats 1600000 in
theorem op_any (L : List UInt8) (w : World) : Calls Tryz.prog 65 #[.string ⟨L.toArray⟩] w fun e w' => e = .returned (.int .i64 (max 0 (W.fidx L 0 70))) ∧ Below w.heap.size w w' := by
  have hst : ∀ w : World, (storeCells ⟨w.heap.size, 0, none⟩ namesA.toList 0).run Tryz.prog (w.alloc (.cells Tryz.zeroCells128 128)) = .ok () (w.alloc (.cells namesA 128)) := fun w =>
    run_storeCells_new w 128 _ _ (by kernel_rfl) (by kernel_rfl) (by kernel_rfl)
  have hb : Below w.heap.size w w := Below.refl _ _
  have hn : namesA.size = 70 := by kernel_rfl
  generalize hI : W.fidx L 0 70 = I
  have HI : Hid (W.fidx L 0 70 = I) := hI
  clear hI
  go_enter Tryz.func65, Tryz.ntmps65
  go_wp2_with (first
    | (go_at_call 86; refine (from_ (names_any _) hb).mono ?_; clear hb; rintro e w1 ⟨rfl, hb⟩)
    | (go_at_call 97; refine (index_any L w1.heap.size _ ⟨by simp, fun k hk => (cell_of_row _ _ k namesA 128 (0, 0) (heap_alloc_last w1 _)).trans (namesA_at k hk)⟩).mono ?_; rintro e w' ⟨rfl, rfl⟩; rw [HI.out]))
  all_goals
    go_ret
    exact ⟨ret_int (by omega), hb.alloc hb.size _⟩
end Go.Proofs.YtbndaiombnikfaaGreatDoor

/- The look at any of the errors. -/
namespace Go.Proofs.YtbndaiombnikfaaGreatDoor
open Go.ChangeShapes Go.WideShapes Go.ChangeAt Go.RowKit
set_option linter.unusedVariables false
set_option linter.unusedSimpArgs false

set_option maxHeartbeats 1600000 in
theorem is_at (A : Nat → Addr) (p : Nat) (hk : p < 11) (c : Int) (w : World) (hS : Sent A w) :
    Calls Tryz.prog 14 #[ptr A (perm p), .int .i64 c] w fun e w' => e = .returned (.bool ((101 + (p : Int)) == c)) ∧ Below w.heap.size w w' := by
  have same : ∀ w : World, Sent A w → Calls Tryz.prog 19 #[ptr A (perm p), .agg #[.int .i64 c, .slice none 0 0]] w fun e w' => e = .returned (.bool ((101 + (p : Int)) == c)) ∧ Below w.heap.size w w' := by
    intro w hS
    have HS : Hid (Sent A w) := hS
    have Hk : Hid (p < 11) := hk
    clear hS hk
    generalize hv : ptr A (perm p) = v
    have HV : Hid (v = ptr A (perm p)) := hv.symm
    clear hv
    go_enter Tryz.func19, Tryz.ntmps19
    go_wp2_with (first
      | (go_at_call 43; rw [HV.out]; refine (faultOf_some A p Hk.out _ (HS.out.below ((Below.refl _ _).alloc (Nat.le_refl _) _))).mono ?_; rintro e w1 ⟨rfl, hb1⟩; have hlt : w.heap.size < w1.heap.size := (by have := hb1.size; simp at this; omega); have x0 := hb1.cell (p := ⟨w.heap.size, 0, none⟩) (by simp); have x1 := hb1.cell (p := ⟨w.heap.size, 1, none⟩) (by simp); simp [go_sem] at x0 x1; have hb : Below w.heap.size w w1 := ((Below.refl _ _).alloc (Nat.le_refl _) _).trans (hb1.mono (by simp)); clear hb1)
      | (go_at_call 44; refine (sameFault_any _ _ _).mono ?_; rintro e w2 ⟨rfl, hb2⟩; have hq := hb.trans ((((Below.refl _ _).alloc (Nat.le_refl _) _).trans (hb2.mono (by simp))).mono hb.size)))
    go_ret
    exact ⟨rfl, hq⟩
  generalize hv : ptr A (perm p) = v at same ⊢
  have HV : Hid (v = ptr A (perm p)) := hv.symm
  have HS : Hid (Sent A w) := hS
  have Sm : Hid (∀ w : World, Sent A w → Calls Tryz.prog 19 #[v, .agg #[.int .i64 c, .slice none 0 0]] w fun e w' => e = .returned (.bool ((101 + (p : Int)) == c)) ∧ Below w.heap.size w w') := same
  clear hv hS same hk
  go_enter Tryz.func14, Tryz.ntmps14
  go_wp2_with (first
    | (go_at_call 39; refine (bare_any _ _).mono ?_; rintro e w1 ⟨rfl, hb1⟩)
    | (go_at_call 19; refine (Sm.out _ (HS.out.below hb1)).mono ?_; rintro e w2 ⟨rfl, hb2⟩))
  go_ret
  exact ⟨rfl, hb1.trans (hb2.mono hb1.size)⟩


theorem is_word (A : Nat → Addr) (c : Int) (w : World) (hS : Sent A w) : Calls Tryz.prog 14 #[errV A 6, .int .i64 c] w fun e w' => e = .returned (.bool ((105 : Int) == c)) ∧ Below w.heap.size w w' :=
  is_at A 4 (by omega) c w hS
end Go.Proofs.YtbndaiombnikfaaGreatDoor

/- What the document's Encode returns. -/
namespace Go.Proofs.YtbndaiombnikfaaGreatDoor
open Go.ChangeShapes Go.WideShapes Go.ChangeAt Go.RowKit
set_option linter.unusedVariables false
set_option linter.unusedSimpArgs false

theorem renc_kind (i : W.I) (w : World) (h : ¬ (1 ≤ i.op ∧ i.op ≤ 69)) : Calls Tryz.prog 10 #[inV i] w fun e w' => e = .returned (.tuple #[.int .u32 0, .int .i64 102]) ∧ Below w.heap.size w w' := by
  unfold inV
  have H : Hid (¬ (1 ≤ i.op ∧ i.op ≤ 69)) := h
  clear h
  go_enter Tryz.func10, Tryz.ntmps10
  go_wp2_with (go_at_call 27; refine (of_none _ H.out _).mono ?_; rintro e w1 ⟨rfl, hm⟩; have hb : Hid (Below w.heap.size w w1) := ((Below.refl _ _).alloc (Nat.le_refl _) _).trans (hm.mono (by simp)); clear hm)
  exact bodyPost_ret (v := .tuple #[.int .u32 0, .int .i64 102]) (by simp [results, Tryz.results10, go_sem]) rfl ⟨rfl, by repeat (first | exact hb.out | exact hb.out.alloc hb.out.size _)⟩

/-- A row lies in block g. -/
def RwAt (g : Nat) (r : W.Rw) (wc : World) : Prop :=
  wc.cell? ⟨g, 0, none⟩ = some (.int .i64 r.op) ∧ wc.cell? ⟨g, 1, none⟩ = some (.string ⟨r.name.toArray⟩) ∧ wc.cell? ⟨g, 2, none⟩ = some (.int .u32 r.oc) ∧ wc.cell? ⟨g, 3, none⟩ = some (.int .u32 r.f3) ∧ wc.cell? ⟨g, 4, none⟩ = some (.int .u32 r.f7) ∧ wc.cell? ⟨g, 5, none⟩ = some (.bool r.h3) ∧ wc.cell? ⟨g, 6, none⟩ = some (.bool r.h7) ∧ wc.cell? ⟨g, 7, none⟩ = some (.int .u8 r.fm) ∧ wc.cell? ⟨g, 8, none⟩ = some (.bool r.rd) ∧ wc.cell? ⟨g, 9, none⟩ = some (.bool r.rs1) ∧ wc.cell? ⟨g, 10, none⟩ = some (.bool r.rs2) ∧ wc.cell? ⟨g, 11, none⟩ = some (.bool r.csr) ∧ wc.cell? ⟨g, 12, none⟩ = some (.int .u32 r.wh) ∧ wc.cell? ⟨g, 13, none⟩ = some (.bool r.pair)
theorem RwAt.below {g : Nat} {r : W.Rw} {a b : World} (h : RwAt g r a) (hm : Below a.heap.size a b) : RwAt g r b := by
  have hg := World.block_lt_of_cell? _ _ h.1
  have q : ∀ j, b.cell? ⟨g, j, none⟩ = a.cell? ⟨g, j, none⟩ := fun j => hm.cell hg
  unfold RwAt
  simp only [q]
  exact h
theorem RwAt.start (w : World) (r : W.Rw) (t : TypeId) : RwAt w.heap.size r (w.alloc (.cells (rwA r) t)) := by
  unfold RwAt rwA; simp [go_sem]

namespace W
/-- Are only fields told that the row has? -/
def shOk (r : Rw) (i : I) : Bool := (r.rd || i.rd == 0) && ((r.rs1 || i.rs1 == 0) && ((r.rs2 || i.rs2 == 0) && ((r.csr || i.csr == 0) && ((!(r.fm == 0) || i.imm == 0) && (r.pair || (!i.aq && !i.rl))))))
end W

end Go.Proofs.YtbndaiombnikfaaGreatDoor

/- What the document's Decode returns. -/
namespace Go.Proofs.YtbndaiombnikfaaGreatDoor
open Go.ChangeShapes Go.WideShapes Go.ChangeAt Go.RowKit
set_option linter.unusedVariables false
set_option linter.unusedSimpArgs false

theorem rows_tb2 (w : World) : Calls Tryz.prog 36 #[] w fun e w' => ∃ g, e = .returned (.slice (some ⟨g, 0, none⟩) 69 69) ∧ Tb g w' ∧ w.heap.size ≤ g ∧ Below w.heap.size w w' :=
  (rows_any w).mono fun e w' ⟨w1, hb, he, hw⟩ => ⟨w1.heap.size, he, by rw [hw]; exact Tb.start w1 _, hb.size, by rw [hw]; exact hb.alloc hb.size _⟩

/-- What holds at each row: the table, the room for the answer, no row behind that fits. -/
structure Dc (x : Int) (g : Nat) (w : World) (j : Nat) (wr : World) : Prop where
  bel : Below w.heap.size w wr
  tab : Tb g wr
  lt : w.heap.size < g
  room : Room w.heap.size 8 wr
  none : ∀ m, m < j → W.hit x (m + 1) = false
theorem Dc.below {x : Int} {g : Nat} {w a b : World} {j : Nat} (h : Dc x g w j a) (hm : Below a.heap.size a b) : Dc x g w j b :=
  ⟨h.bel.trans (hm.mono h.bel.size), h.tab.below hm, h.lt, h.room.below hm (Nat.lt_trans h.lt h.tab.lt), h.none⟩
theorem Dc.step {x : Int} {g : Nat} {w a : World} {j : Nat} (h : Dc x g w j a) (hh : W.hit x (j + 1) = false) : Dc x g w (j + 1) a :=
  ⟨h.bel, h.tab, h.lt, h.room, fun m hm => by rcases Nat.lt_succ_iff_lt_or_eq.1 hm with h1 | h1; exact h.none m h1; rw [h1]; exact hh⟩

theorem rdec_hit {x : Int} {j : Nat} (x0 : 0 ≤ x) (x1 : x < 4294967296) (hj : j < 69) (h : W.hit x (j + 1) = true) : W.decI x = W.rread (W.rw j) x ∧ W.decB x = true := by
  have hd : W.dec x = j + 1 := W.dec_eq (by omega) (by omega) x0 x1 h
  rw [W.decI, W.decB, hd, W.rread_eq hj]
  exact ⟨rfl, by simp⟩
theorem rdec_none {x : Int} (h : ∀ m, m < 69 → W.hit x (m + 1) = false) : W.decI x = ⟨0, 0, 0, 0, 0, 0, false, false⟩ ∧ W.decB x = false := by
  have hd : W.dec x = 0 := by
    rcases W.decFrom_hit x 69 1 with h1 | h1
    · exact h1
    · exfalso
      have := h (W.decFrom x 1 69 - 1) (by omega)
      rw [show W.decFrom x 1 69 - 1 + 1 = W.decFrom x 1 69 by omega, h1.2.2] at this
      cases this
  rw [W.decI, W.decB, hd]
  exact ⟨rfl, rfl⟩

theorem rimm_lt (f x : Int) : 0 ≤ W.rimm f x ∧ W.rimm f x < 4294967296 := by
  unfold W.rimm
  cases (f == 90) <;> cases (f == 67) <;> cases (f == 70) <;> simp only [cond_true, cond_false] <;> first | exact W.bitsOf_lt _ _ _ | exact W.imm_lt _ _

theorem word_rd (r : W.Rw) (x V : Int) (w : World) (hV : W.rword r (W.rread r x) = V) : Calls Tryz.prog 30 #[rwV r, inV (W.rread r x)] w fun e w' => e = .returned (.int .u32 V) ∧ Below w.heap.size w w' := by
  rw [← hV]
  exact word_any r (W.rread r x) w (rimm_lt _ _).1 (rimm_lt _ _).2

/-- The first loop of a text. -/
def loopIn : Code → Option Code
  | .loop c => some c
  | .seq a b => (loopIn a).or (loopIn b)
  | .block _ c => loopIn c
  | .scope c => loopIn c
  | .cond _ a b => (loopIn a).or (loopIn b)
  | _ => none
noncomputable def decBody : Code := (Tryz.f18.body.bind loopIn).getD .skip

set_option maxRecDepth 1000000 in
/-- The slots at the loop's head. -/
def decFr (x : Int) (b g : Nat) (u : Nat → Value) (v : Value) : Act := ⟨#[.int .u32 x, undef, .pointer (some ⟨b, 0, none⟩), u 3, .slice (some ⟨g, 0, none⟩) 69 69, v, u 6, u 7, .slice (some ⟨g, 0, none⟩) 69 69, u 9, u 10, u 11, u 12, u 13, u 14, u 15, u 16, u 17, u 18, u 19, u 20, u 21, u 22, u 23, u 24, u 25, u 26, u 27, u 28, u 29, u 30, u 31, u 32, u 33, u 34, u 35, u 36, u 37, u 38, u 39, u 40, u 41, u 42, u 43, u 44, u 45, u 46, u 47, u 48, u 49, u 50, u 51, u 52, u 53, u 54, u 55, u 56, u 57, u 58, u 59, u 60, u 61, u 62, u 63, u 64, u 65, u 66, u 67, u 68, u 69, u 70, u 71, u 72, u 73, u 74, u 75, u 76, undef], []⟩
def DI (x : Int) (g : Nat) (w : World) (a : Act) (w' : World) : Prop := ∃ j : Nat, j ≤ 69 ∧ a = decFr x w.heap.size g (fun n => a.tmps.getD n undef) (.int .i64 j) ∧ Dc x g w j w'
def Dmu (a : Act) (_ : World) : Nat := (69 - intOf (a.tmps.getD 5 undef)).toNat

abbrev DQ (x : Int) (w : World) : Exit → Act → World → Prop := bodyPost Tryz.prog Tryz.f18 fun e w' => e = .returned (.tuple #[inV (W.decI x), .bool (W.decB x)]) ∧ Below w.heap.size w w'

end Go.Proofs.YtbndaiombnikfaaGreatDoor

/- What the document's Decode returns: whole words. -/
namespace Go.Proofs.YtbndaiombnikfaaGreatDoor
open Go.ChangeShapes Go.WideShapes Go.ChangeAt Go.RowKit
set_option linter.unusedVariables false
set_option linter.unusedSimpArgs false

set_option maxRecDepth 100000 in
set_option maxHeartbeats 6400000 in
theorem dec_whole (x : Int) (g : Nat) (w wr : World) (j : Nat) (u : Nat → Value) (Q0 : Exit → Act → World → Prop) (X : Hid (0 ≤ x ∧ x < 4294967296)) (HD : Hid (Dc x g w j wr)) (hj1 : (j : Int) < 69) (hret : Hid (∀ a w', DQ x w .ret a w' → Q0 .ret a w')) (ro : Int) (nm : List UInt8) (oc f3 f7 : Int) (h3 h7 : Bool) (fm : Int) (rd rs1 rs2 csr : Bool) (wh : Int) (pair : Bool) (HR : Hid (W.rw j = ⟨ro, nm, oc, f3, f7, h3, h7, fm, rd, rs1, rs2, csr, wh, pair⟩)) (hw : (wh != 0) = true) : Code.wp Tryz.prog decBody (Exit.then (fun a' w' => DI x g w a' w' ∧ Dmu a' w' < Dmu (decFr x w.heap.size g u (.int .i64 j)) wr) Q0) (decFr x w.heap.size g u (.int .i64 j)) wr := by
  have hg : g < wr.heap.size := HD.out.tab.lt
  have hlw : w.heap.size < g := HD.out.lt
  have hj0 : (0 : Int) ≤ (j : Int) := by omega
  have hlt : w.heap.size < wr.heap.size := Nat.lt_trans hlw hg
  obtain ⟨r, hr, ho, c0, c1, c2, c3, c4, c5, c6, c7, c8, c9, c10, c11, c12, c13⟩ := HD.out.tab.at j (by omega)
  obtain rfl := hr.symm.trans HR.out
  clear hr ho
  dsimp only at c0 c1 c2 c3 c4 c5 c6 c7 c8 c9 c10 c11 c12 c13
  obtain ⟨v0, v1, v2, v3, v4, v5, v6, v7, r0, r1, r2, r3, r4, r5, r6, r7, r8⟩ := HD.out.room.eight
  have hit : Hid ((x == wh) = W.hit x (j + 1)) := by
    have := W.whole_hit (k := j) (by omega) X.out.1 X.out.2 (by rw [HR.out]; exact hw)
    rw [HR.out] at this
    exact this
  have hin : Hid (W.rread (W.rw j) x = ⟨ro, 0, 0, 0, 0, 0, false, false⟩) := by
    have h1 := W.rread_eq (k := j) (by omega) x
    rw [W.whole_read (k := j) (by omega) x (by rw [HR.out]; exact hw)] at h1
    have h2 : (W.rw j).op = ro := congrArg W.Rw.op HR.out
    have h3 : (W.rw j).op = ((j + 1 : Nat) : Int) := by simp [W.rw]
    rw [← h3, h2] at h1
    exact h1
  cases hx : (x == wh)
  · unfold decFr
    conv => arg 2; whnf
    go_wp2
    refine ⟨⟨j + 1, by omega, rfl, (HD.out.below ((Below.refl _ _).alloc (Nat.le_refl _) _)).step (by rw [← hit.out, hx])⟩, ?_⟩
    simp [Dmu, intOf]
    omega
  · have hx' : Hid ((x == wh) = true) := hx
    unfold decFr
    conv => arg 2; whnf
    go_wp2
    have hd := rdec_hit X.out.1 X.out.2 (show j < 69 by omega) (by rw [← hit.out, hx'.out])
    refine hret.out _ _ (bodyPost_ret (v := .tuple #[inV ⟨ro, 0, 0, 0, 0, 0, false, false⟩, .bool true]) ?_ rfl ⟨by rw [hd.1, hd.2, hin.out], ?_⟩)
    · simp [results, Tryz.results18, go_sem, inV, r0, r1, r2, r3, r4, r5, r6, r7, hlt]
    · refine Below.alloc ?_ ?_ _
      · exact (((((((((HD.out.bel.setCell (Nat.le_refl _) _).setCell (Nat.le_refl _) _).setCell (Nat.le_refl _) _).setCell (Nat.le_refl _) _).setCell (Nat.le_refl _) _).setCell (Nat.le_refl _) _).setCell (Nat.le_refl _) _).setCell (Nat.le_refl _) _))
      · have := HD.out.bel.size
        simp
        omega

end Go.Proofs.YtbndaiombnikfaaGreatDoor
