/- Laws of entries: what may be used; what is made. -/
import Derived.Test.YtkcdkjmkgncihaaPteB
namespace Go.Proofs.Ytkcdkjmkgncihaa.W
open Go.RowKit
set_option linter.unusedVariables false

theorem may_parts {e a m : Int} (h : may e a m = true) : leaf e = true ∧ bad e = false ∧ (bits .and .u32 e (asked a) != 0) = true ∧ opn e m = true := by
  unfold may at h
  cases h1 : leaf e <;> cases h2 : bad e <;> cases h3 : (bits .and .u32 e (asked a) != 0) <;> cases h4 : opn e m <;> simp_all
theorem may_one {e a : Int} (h : may e a 0 = true) : may e a 3 = false := by
  have h1 := (may_parts h).2.2.2
  have h2 : opn e 3 = false := by simp [opn] at h1 ⊢; exact h1
  unfold may
  rw [h2]
  simp
theorem may_store {e m : Int} (h : may e 3 m = true) : may e 2 m = true := by
  obtain ⟨h1, h2, h3, h4⟩ := may_parts h
  unfold may
  rw [h1, h2, h4]
  have h3' : (bits .and .u32 e 4 != 0) = true := h3
  unfold bad at h2
  rw [h3'] at h2
  show (true && (!false && ((bits .and .u32 e 2 != 0) && true))) = true
  cases h5 : (bits .and .u32 e 2 == 0)
  · simp [bne, h5]
  · rw [h5] at h2; simp at h2
theorem no_v (e : Int) (e0 : 0 ≤ e) (e1 : e < 4294967296) : bits .and .u32 (bits .andNot .u32 e 1) 1 = 0 := by
  rw [u32_andNot e 1 e0 e1 (by decide) (by decide)]
  have hle : e.toNat &&& (4294967295 - (1 : Int).toNat) ≤ e.toNat := Nat.and_le_left
  rw [u32_and _ 1 (by omega) (by omega) (by decide) (by decide), Int.toNat_natCast, Nat.and_assoc]
  show ((e.toNat &&& 0 : Nat) : Int) = 0
  rw [Nat.and_zero]
  rfl
theorem may_no_v (e a m : Int) (e0 : 0 ≤ e) (e1 : e < 4294967296) : may (bits .andNot .u32 e 1) a m = false := by
  have : bad (bits .andNot .u32 e 1) = true := by unfold bad; rw [no_v e e0 e1]; rfl
  unfold may
  rw [this]
  simp
theorem xor_lt (x y : Int) : 0 ≤ bits .xor .u32 x y ∧ bits .xor .u32 x y < 4294967296 := by
  unfold bits
  rw [IntKind.wrap_u32']
  omega
theorem xor_and (e M : Int) (m0 : 0 ≤ M) (m1 : M < 4294967296) (hM : 16 &&& M.toNat = 0) (e0 : 0 ≤ e) (e1 : e < 4294967296) : bits .and .u32 (bits .xor .u32 e 16) M = bits .and .u32 e M := by
  have hb := xor_lt e 16
  rw [u32_and _ M hb.1 hb.2 m0 m1, u32_and e M e0 e1 m0 m1, u32_xor e 16 e0 e1 (by decide) (by decide), Int.toNat_natCast, Nat.and_xor_distrib_right]
  rw [show (16 : Int).toNat = 16 from rfl, hM, Nat.xor_zero]
theorem xor_flag (e : Int) (e0 : 0 ≤ e) (e1 : e < 4294967296) : (bits .and .u32 (bits .xor .u32 e 16) 16 != 0) = (bits .and .u32 e 16 == 0) := by
  have hb := xor_lt e 16
  rw [u32_and _ 16 hb.1 hb.2 (by decide) (by decide), u32_and e 16 e0 e1 (by decide) (by decide), u32_xor e 16 e0 e1 (by decide) (by decide), Int.toNat_natCast, Nat.and_xor_distrib_right]
  rw [show (16 : Int).toNat = 16 from rfl, Nat.and_self]
  have h : e.toNat &&& 16 = 0 ∨ e.toNat &&& 16 = 16 := by
    cases hq : e.toNat.testBit 4
    · left
      apply Nat.eq_of_testBit_eq
      intro i
      rw [Nat.testBit_and, show (16 : Nat) = 2 ^ 4 from rfl, Nat.testBit_two_pow]
      by_cases hi : 4 = i
      · subst hi; simp [hq]
      · simp [hi]
    · right
      apply Nat.eq_of_testBit_eq
      intro i
      rw [Nat.testBit_and, show (16 : Nat) = 2 ^ 4 from rfl, Nat.testBit_two_pow]
      by_cases hi : 4 = i
      · subst hi; simp [hq]
      · simp [hi]
  rcases h with h | h <;> rw [h] <;> rfl
theorem asked_cases (a : Int) : asked a = 8 ∨ asked a = 2 ∨ asked a = 4 ∨ asked a = 0 := by
  unfold asked
  split
  · exact Or.inl rfl
  · split
    · exact Or.inr (Or.inl rfl)
    · split
      · exact Or.inr (Or.inr (Or.inl rfl))
      · exact Or.inr (Or.inr (Or.inr rfl))
theorem may_flip (e a : Int) (e0 : 0 ≤ e) (e1 : e < 4294967296) : may (bits .xor .u32 e 16) a 0 = may e a 3 := by
  have hl : leaf (bits .xor .u32 e 16) = leaf e := by unfold leaf; rw [xor_and e 10 (by decide) (by decide) (by decide) e0 e1]
  have ha : bits .and .u32 (bits .xor .u32 e 16) (asked a) = bits .and .u32 e (asked a) := by
    rcases asked_cases a with h | h | h | h <;> rw [h] <;> exact xor_and e _ (by decide) (by decide) (by decide) e0 e1
  have ho : opn (bits .xor .u32 e 16) 0 = opn e 3 := by
    show (bits .and .u32 (bits .xor .u32 e 16) 16 != 0) = (bits .and .u32 e 16 == 0)
    exact xor_flag e e0 e1
  unfold may
  rw [hl, ha, ho]
  cases h : leaf e
  · rfl
  · have hb : bad (bits .xor .u32 e 16) = bad e := by
      unfold bad
      rw [hl, h, xor_and e 1 (by decide) (by decide) (by decide) e0 e1, xor_and e 2 (by decide) (by decide) (by decide) e0 e1, xor_and e 4 (by decide) (by decide) (by decide) e0 e1]
      simp
    rw [hb]

theorem needs_lt (e a : Int) : 0 ≤ needs e a ∧ needs e a < 4294967296 := by
  unfold needs
  split <;> exact or_lt _ _
/-- The flags that a needs. -/
def nd (a : Int) : Int := if a = 3 then 192 else 64
theorem needs_or (e a : Int) (e0 : 0 ≤ e) (e1 : e < 4294967296) : needs e a = bits .or .u32 e (nd a) := by
  unfold needs nd
  split
  · exact or_two e e0 e1
  · rfl
theorem nd_cases (a : Int) : nd a = 192 ∨ nd a = 64 := by
  unfold nd
  split
  · exact Or.inl rfl
  · exact Or.inr rfl
theorem needs_again (e a : Int) (e0 : 0 ≤ e) (e1 : e < 4294967296) : needs (needs e a) a = needs e a := by
  have hn := needs_lt e a
  rw [needs_or (needs e a) a hn.1 hn.2, needs_or e a e0 e1]
  have hb := or_lt e (nd a)
  have hd : 0 ≤ nd a ∧ nd a < 4294967296 := by rcases nd_cases a with h | h <;> rw [h] <;> decide
  rw [u32_or _ (nd a) hb.1 hb.2 hd.1 hd.2, u32_or e (nd a) e0 e1 hd.1 hd.2, Int.toNat_natCast, Nat.or_assoc, Nat.or_self]
theorem needs_page (e a : Int) (e0 : 0 ≤ e) (e1 : e < 4294967296) : needs e a / 1024 = e / 1024 := by
  have hd : 0 ≤ nd a ∧ nd a < 4294967296 := by rcases nd_cases a with h | h <;> rw [h] <;> decide
  rw [needs_or e a e0 e1, u32_or e (nd a) e0 e1 hd.1 hd.2]
  have h : (e.toNat ||| (nd a).toNat) / 2 ^ 10 = e.toNat / 2 ^ 10 ||| (nd a).toNat / 2 ^ 10 := by rw [← Nat.shiftRight_eq_div_pow, ← Nat.shiftRight_eq_div_pow, ← Nat.shiftRight_eq_div_pow, Nat.shiftRight_or_distrib]
  have hz : (nd a).toNat / 2 ^ 10 = 0 := by rcases nd_cases a with h | h <;> rw [h] <;> decide
  rw [hz, Nat.or_zero] at h
  omega
theorem needs_new (e a : Int) (e0 : 0 ≤ e) (e1 : e < 4294967296) : bits .andNot .u32 (bits .andNot .u32 (needs e a) e) 192 = 0 := by
  have hd : 0 ≤ nd a ∧ nd a < 4294967296 := by rcases nd_cases a with h | h <;> rw [h] <;> decide
  rw [needs_or e a e0 e1]
  have hb := or_lt e (nd a)
  rw [u32_andNot _ e hb.1 hb.2 e0 e1, u32_or e (nd a) e0 e1 hd.1 hd.2, Int.toNat_natCast]
  rw [u32_or e (nd a) e0 e1 hd.1 hd.2] at hb
  have hle : (e.toNat ||| (nd a).toNat) &&& (4294967295 - e.toNat) ≤ e.toNat ||| (nd a).toNat := Nat.and_le_left
  rw [u32_andNot _ 192 (by omega) (by omega) (by decide) (by decide), Int.toNat_natCast]
  have hz : ((e.toNat ||| (nd a).toNat) &&& (4294967295 - e.toNat)) &&& (4294967295 - (192 : Int).toNat) = 0 := by
    apply Nat.eq_of_testBit_eq
    intro i
    have e2 : (4294967295 - e.toNat).testBit i = (decide (i < 32) && !e.toNat.testBit i) := by
      have := Nat.testBit_two_pow_sub_succ (x := e.toNat) (n := 32) (by omega) i
      rw [show 2 ^ 32 - (e.toNat + 1) = 4294967295 - e.toNat by omega] at this
      exact this
    have e3 : (nd a).toNat.testBit i = true → (4294967295 - (192 : Int).toNat).testBit i = false := by
      intro h
      have hi : i < 8 := by
        by_cases hi : i < 8
        · exact hi
        · have : (nd a).toNat.testBit i = false := Nat.testBit_lt_two_pow (Nat.lt_of_lt_of_le (show (nd a).toNat < 2 ^ 8 by rcases nd_cases a with h | h <;> rw [h] <;> decide) (Nat.pow_le_pow_right (by omega) (by omega)))
          rw [this] at h; cases h
      have hall : ((List.range 8).all fun i => ((!(192 : Nat).testBit i) && !(64 : Nat).testBit i) || !(4294967295 - (192 : Int).toNat).testBit i) = true := by decide +kernel
      have h2 := List.all_eq_true.mp hall i (by simp; exact hi)
      rcases nd_cases a with hq | hq <;> rw [hq] at h
      · have h' : (192 : Nat).testBit i = true := h
        rw [h'] at h2; simpa using h2
      · have h' : (64 : Nat).testBit i = true := h
        rw [h'] at h2; simpa using h2
    rw [Nat.testBit_and, Nat.testBit_and, Nat.testBit_or, e2, Nat.zero_testBit]
    cases h1 : e.toNat.testBit i
    · cases h2 : (nd a).toNat.testBit i
      · simp
      · rw [e3 h2]; simp
    · simp
  rw [hz]
  rfl
theorem mk_page (page all : Int) (p0 : 0 ≤ page) (p1 : page < 4294967296) : bitsOf (mk page all) 10 22 = bits .and .u32 page 4194303 := by
  have hm := mk_lt page all
  rw [page_eq _ hm.1 hm.2]
  have := low_and page 22 (by decide) p0 p1
  rw [show ((2 : Int) ^ 22 - 1) = 4194303 from rfl, show ((2 : Int) ^ 22) = 4194304 from rfl] at this
  rw [this]
  unfold mk
  omega
theorem mk_flags (page all : Int) (a0 : 0 ≤ all) (a1 : all < 4294967296) : bits .and .u32 (mk page all) 1023 = bits .and .u32 all 1023 := by
  have hm := mk_lt page all
  have h1 := low_and all 10 (by decide) a0 a1
  have h2 := low_and (mk page all) 10 (by decide) hm.1 hm.2
  rw [show ((2 : Int) ^ 10 - 1) = 1023 from rfl, show ((2 : Int) ^ 10) = 1024 from rfl] at h1 h2
  rw [h1, h2]
  unfold mk
  omega
theorem mk_low (page f : Int) (f0 : 0 ≤ f) (f1 : f < 256) : mk page f % 256 = f := by unfold mk; omega
theorem mk_leaf (page f : Int) (f0 : 0 ≤ f) (f1 : f < 256) : leaf (mk page f) = leaf f := by
  have hm := mk_lt page f
  rw [leaf_low _ hm.1 hm.2, mk_low page f f0 f1]
theorem mk_bad (page f : Int) (f0 : 0 ≤ f) (f1 : f < 256) : bad (mk page f) = bad f := by
  have hm := mk_lt page f
  rw [bad_low _ hm.1 hm.2, mk_low page f f0 f1]
theorem mk_may (page f a m : Int) (f0 : 0 ≤ f) (f1 : f < 256) : may (mk page f) a m = may f a m := by
  have hm := mk_lt page f
  unfold may opn
  rw [mk_leaf page f f0 f1, mk_bad page f f0 f1, and_low8 _ 16 (by decide) (by decide) hm.1 hm.2, mk_low page f f0 f1]
  have ha : bits .and .u32 (mk page f) (asked a) = bits .and .u32 f (asked a) := by
    rw [and_low8 _ (asked a) (by rcases asked_cases a with h | h | h | h <;> rw [h] <;> decide) (by rcases asked_cases a with h | h | h | h <;> rw [h] <;> decide) hm.1 hm.2, mk_low page f f0 f1]
  rw [ha]
end Go.Proofs.Ytkcdkjmkgncihaa.W
