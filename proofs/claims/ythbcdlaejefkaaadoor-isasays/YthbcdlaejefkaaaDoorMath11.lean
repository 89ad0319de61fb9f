/- Laying what was read. -/
import Derived.Test.YthbcdlaejefkaaaDoorMath10
namespace Go.Proofs.YthbcdlaejefkaaaDoor.W
open Go.RowKit
set_option linter.unusedVariables false
set_option linter.unusedSimpArgs false

theorem read_part {k : Nat} {x : Int} (hk : Ok k) (x0 : 0 ≤ x) (x1 : x < 4294967296) (j p : Nat) (hj : j < 7) (hp : p < 32) : tb (part (shp k) (read (shp k) k x) j) p = (cov (shp k) j p && tb x p) := by
  have fld : ∀ (l n : Nat) (b : Bool), l ≤ 31 → 1 ≤ n → n ≤ 32 → tb (placed (bif b then bitsOf x l n else 0) l n) p = ((b && decide (l ≤ p ∧ p - l < n)) && tb x p) := by
    intro l n b h1 h2 h3
    cases b
    · rw [cond_false, tb_placed0 _ _ _ hp]; rfl
    · have hb := bitsOf_lt x l n
      rw [cond_true, tb_field _ l n p hb.1 hb.2 h1 h2 h3 hp, tb_bitsOf x l n _ x0 x1 (by omega) (by omega) (by omega)]
      simp only [Int.toNat_natCast, show min n 32 = n by omega, Bool.true_and]
      by_cases hh : l ≤ p ∧ p - l < n
      · rw [show p - l + l = p by omega]
        simp [hh]
      · rw [decide_eq_false hh]; rfl
  have bt : ∀ (l : Nat) (b : Bool), l ≤ 31 → tb (placed (one (b && (bitsOf x l 1 == 1))) l (1 : Nat)) p = ((b && decide (p = l)) && tb x p) := by
    intro l b h1
    have ho := one_lt (b && (bitsOf x l 1 == 1))
    rw [tb_field _ l 1 p ho.1 (by omega) h1 (by omega) (by omega) hp, bit_eq x l x0 x1 h1]
    by_cases hh : p = l
    · subst hh
      simp [tb_one]
    · have : ¬ (l ≤ p ∧ p - l < 1) := by omega
      rw [decide_eq_false this, decide_eq_false hh]; simp
  match j, hj with
  | 0, _ =>
    refine (fld 7 5 (shp k).rd (by omega) (by omega) (by omega)).trans ?_
    have : decide (7 ≤ p ∧ p - 7 < 5) = decide (7 ≤ p ∧ p < 12) := decide_eq_decide.2 (by omega)
    rw [this]; rfl
  | 1, _ =>
    refine (fld 15 5 (shp k).rs1 (by omega) (by omega) (by omega)).trans ?_
    have : decide (15 ≤ p ∧ p - 15 < 5) = decide (15 ≤ p ∧ p < 20) := decide_eq_decide.2 (by omega)
    rw [this]; rfl
  | 2, _ =>
    refine (fld 20 5 (shp k).rs2 (by omega) (by omega) (by omega)).trans ?_
    have : decide (20 ≤ p ∧ p - 20 < 5) = decide (20 ≤ p ∧ p < 25) := decide_eq_decide.2 (by omega)
    rw [this]; rfl
  | 3, _ =>
    refine (fld 20 12 (shp k).csr (by omega) (by omega) (by omega)).trans ?_
    have : decide (20 ≤ p ∧ p - 20 < 12) = decide (20 ≤ p ∧ p < 32) := decide_eq_decide.2 (by omega)
    rw [this]; rfl
  | 4, _ => exact bt 26 (shp k).ord (by omega)
  | 5, _ => exact bt 25 (shp k).ord (by omega)
  | 6, _ =>
    show tb (layIV (shp k) (bif hasImm (shp k) then immS (shp k) x else 0)) p = (cov (shp k) 6 p && tb x p)
    unfold layIV
    rcases okF_cases hk.fmt with ⟨z, hfm⟩ | ⟨z, c1, c2, c3, c4, c5⟩
    · have hz : decide (0 < (shp k).size) = false := by simp [z]
      have hcov : cov (shp k) 6 p = (bif (shp k).fmt != 0 then tb (mask (shp k).fmt) p else false) := by
        show (bif decide (0 < (shp k).size) then _ else bif (shp k).fmt != 0 then tb (mask (shp k).fmt) p else false) = _
        rw [hz]; rfl
      rw [hcov]
      rcases hfm with e | e
      · have hi : hasImm (shp k) = false := by simp [hasImm, hasI, e, z]
        rw [hi, e, cond_false, tb_zero]; rfl
      · have hne : ((shp k).fmt != 0) = true := by simpa using isF_ne e
        have hi : hasImm (shp k) = true := by simp [hasImm, hasI, hne]
        have hm := mask_lt (shp k).fmt
        rw [hi, cond_true, cond_true, hz, cond_false, hne, cond_true]
        have e1 : immS (shp k) x = imm (shp k).fmt x := by unfold immS; rw [hz]; rfl
        have e2 : layV (shp k).fmt (imm (shp k).fmt x) = layw (shp k).fmt (imm (shp k).fmt x) := by unfold layV; rw [lay_back _ x e x0 x1]; rfl
        rw [e1, e2, lay_imm _ x e x0 x1, tb_and _ _ p x0 x1 hm.1 hm.2, Bool.and_comm]
    · have hz : decide (0 < (shp k).size) = true := by simp [c1]
      have hi : hasImm (shp k) = true := by simp [hasImm, hasI, c1]
      have hcov : cov (shp k) 6 p = decide ((shp k).low.toNat ≤ p ∧ p - (shp k).low.toNat < (shp k).size.toNat) := by
        show (bif decide (0 < (shp k).size) then decide ((shp k).low.toNat ≤ p ∧ p - (shp k).low.toNat < (shp k).size.toNat) else _) = _
        rw [hz]; rfl
      have e1 : immS (shp k) x = bitsOf x (shp k).low (shp k).size := by unfold immS; rw [hz]; rfl
      rw [hcov, hi, cond_true, cond_true, hz, cond_true, e1]
      have : lone (bitsOf x (shp k).low (shp k).size) (shp k).low (shp k).size = moved x (shp k).low (shp k).low (shp k).size := rfl
      rw [this, tb_moved x _ _ _ p x0 x1 c3 c4 c3 c4 (by omega) hp]
      by_cases hh : (shp k).low.toNat ≤ p ∧ p - (shp k).low.toNat < (shp k).size.toNat
      · rw [show p - (shp k).low.toNat + (shp k).low.toNat = p by omega]
      · rw [decide_eq_false hh]; rfl
theorem bits_le (x : Int) (l n : Nat) (x0 : 0 ≤ x) (x1 : x < 4294967296) (hl : l ≤ 31) (hn : 1 ≤ n) (hn2 : n ≤ 12) : 0 ≤ bitsOf x l n ∧ bitsOf x l n < 2 ^ n := by
  rw [bitsOf_eq x l n x0 x1 (by omega) (by omega) (by omega)]
  simp only [Int.toNat_natCast, show min n 32 = n by omega]
  exact ⟨Int.emod_nonneg _ (Int.ne_of_gt (Int.pow_pos (by omega))), Int.emod_lt_of_pos _ (Int.pow_pos (by omega))⟩
theorem read_ok {k : Nat} {x : Int} (k1 : 1 ≤ k) (k2 : k ≤ 69) (x0 : 0 ≤ x) (x1 : x < 4294967296) : encE (read (shp k) k x) = 0 ∧ InR (read (shp k) k x) := by
  have hk := ok_at k k1 k2
  have a1 := bits_le x 7 5 x0 x1 (by omega) (by omega) (by omega)
  have a2 := bits_le x 15 5 x0 x1 (by omega) (by omega) (by omega)
  have a3 := bits_le x 20 5 x0 x1 (by omega) (by omega) (by omega)
  have a4 := bits_le x 20 12 x0 x1 (by omega) (by omega) (by omega)
  have hr : InR (read (shp k) k x) := by
    refine ⟨?_, ?_, ?_, ?_, ?_, ?_, ?_, ?_⟩
    · show 0 ≤ (bif (shp k).rd then bitsOf x 7 5 else 0); cases (shp k).rd <;> simp; exact a1.1
    · show (bif (shp k).rd then bitsOf x 7 5 else 0) ≤ 31; have := a1.2; cases (shp k).rd <;> simp; simp at this; omega
    · show 0 ≤ (bif (shp k).rs1 then bitsOf x 15 5 else 0); cases (shp k).rs1 <;> simp; exact a2.1
    · show (bif (shp k).rs1 then bitsOf x 15 5 else 0) ≤ 31; have := a2.2; cases (shp k).rs1 <;> simp; simp at this; omega
    · show 0 ≤ (bif (shp k).rs2 then bitsOf x 20 5 else 0); cases (shp k).rs2 <;> simp; exact a3.1
    · show (bif (shp k).rs2 then bitsOf x 20 5 else 0) ≤ 31; have := a3.2; cases (shp k).rs2 <;> simp; simp at this; omega
    · show 0 ≤ (bif (shp k).csr then bitsOf x 20 12 else 0); cases (shp k).csr <;> simp; exact a4.1
    · show (bif (shp k).csr then bitsOf x 20 12 else 0) ≤ 4095; have := a4.2; cases (shp k).csr <;> simp; simp at this; omega
  have hrange : inRange (read (shp k) k x) = true := by
    simp [inRange, fr, hr.rd0, hr.rd1, hr.rs10, hr.rs11, hr.rs20, hr.rs21, hr.csr0, hr.csr1]
  have hs : same (only (shp k) (read (shp k) k x)) (read (shp k) k x) = true := by
    unfold read only same
    cases (shp k).rd <;> cases (shp k).rs1 <;> cases (shp k).rs2 <;> cases (shp k).csr <;> cases hasImm (shp k) <;> cases (shp k).ord <;> simp
  have hb : layIB (shp k) (read (shp k) k x).imm = true := by
    show layIB (shp k) (bif hasImm (shp k) then immS (shp k) x else 0) = true
    unfold layIB
    rcases okF_cases hk.fmt with ⟨z, hfm⟩ | ⟨z, c1, c2, c3, c4, c5⟩
    · have hz : decide (0 < (shp k).size) = false := by simp [z]
      rcases hfm with e | e
      · have hi : hasImm (shp k) = false := by simp [hasImm, hasI, e, z]
        rw [hi]; rfl
      · have hne : ((shp k).fmt != 0) = true := by simpa using isF_ne e
        have hi : hasImm (shp k) = true := by simp [hasImm, hasI, hne]
        have e1 : immS (shp k) x = imm (shp k).fmt x := by unfold immS; rw [hz]; rfl
        rw [hi, cond_true, cond_true, hz, cond_false, e1]
        exact lay_back _ x e x0 x1
    · have hz : decide (0 < (shp k).size) = true := by simp [c1]
      have hi : hasImm (shp k) = true := by simp [hasImm, hasI, c1]
      have e1 : ∀ y, immS (shp k) y = bitsOf y (shp k).low (shp k).size := fun y => by unfold immS; rw [hz]; rfl
      rw [hi, cond_true, cond_true, hz, cond_true, e1, e1]
      have hm := moved_lt x (shp k).low (shp k).low (shp k).size
      have : bitsOf (moved x (shp k).low (shp k).low (shp k).size) (shp k).low (shp k).size = bitsOf x (shp k).low (shp k).size := by
        refine bitsOf_ext _ _ _ _ hm.1 hm.2 x0 x1 c3 c4 (by omega) fun p h1 h2 h3 => ?_
        rw [tb_moved x _ _ _ p x0 x1 c3 c4 c3 c4 (by omega) h2]
        have hh : (shp k).low.toNat ≤ p ∧ p - (shp k).low.toNat < (shp k).size.toNat := by omega
        rw [decide_eq_true hh, show p - (shp k).low.toNat + (shp k).low.toNat = p by omega]; rfl
      show (bitsOf (moved x (shp k).low (shp k).low (shp k).size) (shp k).low (shp k).size == bitsOf x (shp k).low (shp k).size) = true
      rw [this]; simp
  have hkn : known (read (shp k) k x).op = true := by
    show known (k : Int) = true
    simp [known, fr]; omega
  have he : encE (read (shp k) k x) = 0 := by
    unfold encE
    rw [hkn]
    show (bif layIB (shp k) (read (shp k) k x).imm && inRange (read (shp k) k x) then (bif same (only (shp k) (read (shp k) k x)) (read (shp k) k x) then 0 else 3) else 2) = 0
    rw [hb, hrange, hs]; rfl
  exact ⟨he, hr⟩
theorem enc_read {k : Nat} {x : Int} (k1 : 1 ≤ k) (k2 : k ≤ 69) (x0 : 0 ≤ x) (x1 : x < 4294967296) (h : hit x k = true) : encE (read (shp k) k x) = 0 ∧ encV (read (shp k) k x) = x := by
  have hk := ok_at k k1 k2
  obtain ⟨he, hr⟩ := read_ok k1 k2 x0 x1
  refine ⟨he, ?_⟩
  have hv : encV (read (shp k) k x) = encW (code k) (shp k) (read (shp k) k x) := by
    unfold encV encW
    rw [he]; rfl
  have hl := encW_lt (code k) (shp k) (read (shp k) k x)
  rw [hv]
  refine eq_of_tb _ _ hl.1 hl.2 x0 x1 fun p hp => ?_
  rw [tb_encW _ _ _ hk.c0 hk.c1 hr p hp, hit_tb hk x0 x1 h p hp]
  have : ((List.range 7).any fun j => tb (part (shp k) (read (shp k) k x) j) p) = (!tb (shp k).fixed p && tb x p) := by
    rw [← hk.all p hp]
    have hl : List.range 7 = [0, 1, 2, 3, 4, 5, 6] := by decide
    rw [hl]
    simp only [List.any_cons, List.any_nil, Bool.or_false, read_part hk x0 x1 _ p (show 0 < 7 by omega) hp, read_part hk x0 x1 _ p (show 1 < 7 by omega) hp, read_part hk x0 x1 _ p (show 2 < 7 by omega) hp, read_part hk x0 x1 _ p (show 3 < 7 by omega) hp, read_part hk x0 x1 _ p (show 4 < 7 by omega) hp, read_part hk x0 x1 _ p (show 5 < 7 by omega) hp, read_part hk x0 x1 _ p (show 6 < 7 by omega) hp]
    generalize tb x p = b
    cases b <;> simp
  rw [this]
  cases tb x p <;> cases tb (shp k).fixed p <;> rfl
theorem enc_dec {x : Int} (x0 : 0 ≤ x) (x1 : x < 4294967296) (h : decB x = true) : encE (decI x) = 0 ∧ encV (decI x) = x := by
  obtain ⟨h1, h2, h3⟩ := dec_hit x h
  exact enc_read h1 h2 x0 x1 h3
end Go.Proofs.YthbcdlaejefkaaaDoor.W
