/- The entries that WalkPages makes. -/
import Derived.Test.YtkcdkjmkgncihaaWalkP
namespace Go.Proofs.Ytkcdkjmkgncihaa.W
open Go.RowKit
set_option linter.unusedVariables false
set_option linter.unusedSimpArgs false

theorem nat_or_of_and {e m : Nat} (h : e &&& m = m) : e ||| m = e := by
  apply Nat.eq_of_testBit_eq
  intro i
  have h2 : (e &&& m).testBit i = m.testBit i := by rw [h]
  rw [Nat.testBit_and] at h2
  rw [Nat.testBit_or]
  cases hm : m.testBit i
  · simp
  · rw [hm] at h2; simp at h2; simp [h2]
theorem needs_full (e a : Int) (e0 : 0 ≤ e) (e1 : e < 4294967296) (h : bits .and .u32 e 192 = 192) : needs e a = e := by
  rw [u32_and e 192 e0 e1 (by decide) (by decide)] at h
  have h1 : e.toNat &&& (192 : Int).toNat = 192 := by
    generalize e.toNat &&& (192 : Int).toNat = q at h ⊢
    omega
  replace h1 : e.toNat &&& 192 = 192 := h1
  have hd : 0 ≤ nd a ∧ nd a < 4294967296 := by rcases nd_cases a with h | h <;> rw [h] <;> decide
  rw [needs_or e a e0 e1, u32_or e (nd a) e0 e1 hd.1 hd.2]
  have h3 : e.toNat ||| (nd a).toNat = e.toNat := by
    apply nat_or_of_and
    rcases nd_cases a with hq | hq <;> rw [hq]
    · exact h1
    · show e.toNat &&& 64 = 64
      have : e.toNat &&& 64 = (e.toNat &&& 192) &&& 64 := by rw [Nat.and_assoc]; rfl
      rw [this, h1]; rfl
  rw [h3]; omega

/-- The flags of WalkPages: V, A, D are there. -/
def pgOk (f : Nat) : Bool :=
  (bits .and .u32 (f : Int) 192 == 192) && (bad (f : Int) == ((((bits .and .u32 (f : Int) 4 != 0) && (bits .and .u32 (f : Int) 2 == 0))) || !(leaf (f : Int)))) || (leaf (f : Int) == false)
def pgB (f : Nat) (k : Int) : Bool :=
  !(leaf (f : Int)) || ((leaf (f : Int) && (!(bad (f : Int)) && ((bits .and .u32 (f : Int) k != 0) && opn (f : Int) 0))) == ((bits .and .u32 (f : Int) 16 != 0) && ((bits .and .u32 (f : Int) k != 0) && !((bits .and .u32 (f : Int) 4 != 0) && (bits .and .u32 (f : Int) 2 == 0)))))
theorem pg_full : ((List.range 256).all fun f => !(f &&& 193 == 193) || (bits .and .u32 (f : Int) 192 == 192)) = true := by decide +kernel
theorem pg_all : ((List.range 256).all fun f => !(f &&& 193 == 193) || (pgB f 8 && (pgB f 2 && (pgB f 4 && pgB f 0)))) = true := by decide +kernel
theorem pg_may (f : Nat) (hf : f < 256) (h : f &&& 193 = 193) (hl : leaf (f : Int) = true) (a : Int) :
    may (f : Int) a 0 = ((bits .and .u32 (f : Int) 16 != 0) && ((bits .and .u32 (f : Int) (asked a) != 0) && !((bits .and .u32 (f : Int) 4 != 0) && (bits .and .u32 (f : Int) 2 == 0)))) := by
  have h1 := List.all_eq_true.mp pg_all f (by simp; exact hf)
  rw [h] at h1
  simp only [beq_self_eq_true, Bool.not_true, Bool.false_or, Bool.and_eq_true] at h1
  obtain ⟨h8, h2, h4, h0⟩ := h1
  unfold may
  rcases asked_cases a with hq | hq | hq | hq <;> rw [hq]
  · unfold pgB at h8; rw [hl] at h8 ⊢; simpa using h8
  · unfold pgB at h2; rw [hl] at h2 ⊢; simpa using h2
  · unfold pgB at h4; rw [hl] at h4 ⊢; simpa using h4
  · unfold pgB at h0; rw [hl] at h0 ⊢; simpa using h0
theorem mk_full (P : Int) (f : Nat) (p0 : 0 ≤ P) (p1 : P < 1048576) (hf : f < 256) (h : f &&& 193 = 193) (a : Int) : needs (mk P f) a = mk P f := by
  have hm := mk_lt P f
  refine needs_full _ a hm.1 hm.2 ?_
  rw [and_low8 _ 192 (by decide) (by decide) hm.1 hm.2, mk_low P f (by omega) (by omega)]
  have h1 := List.all_eq_true.mp pg_full f (by simp; exact hf)
  rw [h] at h1
  simpa using h1
theorem mk_pg (P : Int) (f : Nat) (p0 : 0 ≤ P) (p1 : P < 1048576) (hf : f < 256) : mk P f / 1024 = P := by unfold mk; omega

theorem flags_pg (flags : Int) (h0 : 0 ≤ flags) (h1 : flags < 4294967296) : ∃ f : Nat, f < 256 ∧ f &&& 193 = 193 ∧ bits .or .u32 (bits .or .u32 (bits .or .u32 (bits .and .u32 flags 62) 1) 64) 128 = f := by
  have hle : flags.toNat &&& 62 ≤ 62 := Nat.and_le_right
  have b1 : (flags.toNat &&& 62) ||| 1 < 2 ^ 8 := Nat.or_lt_two_pow (n := 8) (by omega) (by decide)
  have b2 : ((flags.toNat &&& 62) ||| 1) ||| 64 < 2 ^ 8 := Nat.or_lt_two_pow (n := 8) b1 (by decide)
  have b3 : (((flags.toNat &&& 62) ||| 1) ||| 64) ||| 128 < 2 ^ 8 := Nat.or_lt_two_pow (n := 8) b2 (by decide)
  refine ⟨(((flags.toNat &&& 62) ||| 1) ||| 64) ||| 128, b3, ?_, ?_⟩
  · rw [Nat.or_assoc, Nat.or_assoc, Nat.and_or_distrib_right, Nat.and_assoc, show (62 &&& 193 : Nat) = 0 from rfl, Nat.and_zero]
    rfl
  · rw [u32_and flags 62 h0 h1 (by decide) (by decide)]
    have c0 : flags.toNat &&& (62 : Int).toNat = flags.toNat &&& 62 := rfl
    rw [c0, u32_or _ 1 (by omega) (by omega) (by decide) (by decide), Int.toNat_natCast, show ((1 : Int).toNat) = 1 from rfl, u32_or _ 64 (by omega) (by omega) (by decide) (by decide), Int.toNat_natCast, show ((64 : Int).toNat) = 64 from rfl, u32_or _ 128 (by omega) (by omega) (by decide) (by decide), Int.toNat_natCast]
    rfl

/-- What comes of a page: one great leaf; two levels. -/
theorem pg_step (va a ad P : Int) (f : Nat) (g : Bool) (v0 : 0 ≤ va) (v1 : va < 4294967296) (p0 : 0 ≤ P) (p1 : P < 1048576) (hf : f < 256) (h : f &&& 193 = 193) (hl : leaf (f : Int) = true) (hg : g = true → P % 1024 = 0) :
    (bif bad (mk P f) then fltS a true else leafS ad (mk P f) va a 0 g) = bif may (f : Int) a 0 then hereS (P * 4096 + offv va g) else fltS a true := by
  have hmay := mk_may P f a 0 (by omega) (by omega)
  cases hb : bad (mk P f)
  · rw [cond_false]
    cases hm : may (f : Int) a 0
    · rw [leaf_no _ _ _ _ _ _ (by rw [hmay, hm])]; rfl
    · have ho := offv_lt va g
      have hfit : fitsB (mk P f) g = true := by
        cases g
        · rfl
        · show (mk P f / 1024 % 1024 == 0) = true
          rw [mk_pg P f p0 p1 hf, hg rfl]; rfl
      rw [leaf_here _ _ _ _ _ _ (by rw [hmay, hm]) hfit (mk_full P f p0 p1 hf h a) ?_, mk_pg P f p0 p1 hf]
      · rfl
      · rw [mk_pg P f p0 p1 hf]
        cases g
        · have : offv va false = va % 4096 := rfl
          omega
        · have := hg rfl
          omega
  · rw [cond_true]
    have : may (f : Int) a 0 = false := by
      rw [← hmay]
      unfold may
      rw [hb]; simp
    rw [this]; rfl
theorem pg_one (va a a1 P : Int) (f : Nat) (v0 : 0 ≤ va) (v1 : va < 4294967296) (p0 : 0 ≤ P) (p1 : P < 1048576) (hf : f < 256) (h : f &&& 193 = 193) (hl : leaf (f : Int) = true) (hg : P % 1024 = 0) (ha1 : a1 = 4096 + 4 * (va / 4194304)) :
    nextS 2147483649 0 va a 65536 1 (fun _ => a1) (fun _ => mk P f) = bif may (f : Int) a 0 then hereS (P * 4096 + va % 4194304) else fltS a true := by
  have hs := pg_step va a a1 P f true v0 v1 p0 p1 hf h hl (fun _ => hg)
  rw [show offv va true = va % 4194304 from rfl] at hs
  rw [← hs]
  cases hb : bad (mk P f)
  · rw [one_leaf va a a1 _ v0 v1 ha1 hb (by rw [mk_leaf P f (by omega) (by omega), hl])]; rfl
  · rw [one_bad va a a1 _ v0 v1 ha1 hb]; rfl
theorem pg_two (va a P : Int) (f : Nat) (v0 : 0 ≤ va) (v1 : va < 4294967296) (p0 : 0 ≤ P) (p1 : P < 1048576) (hf : f < 256) (h : f &&& 193 = 193) (hl : leaf (f : Int) = true) :
    nextS 2147483649 0 va a 65536 2 (two (4096 + 4 * (va / 4194304)) (8192 + 4 * (va / 4096 % 1024))) (two 2049 (mk P f)) = bif may (f : Int) a 0 then hereS (P * 4096 + va % 4096) else fltS a true := by
  have hs := pg_step va a (8192 + 4 * (va / 4096 % 1024)) P f false v0 v1 p0 p1 hf h hl (fun h => by cases h)
  rw [show offv va false = va % 4096 from rfl] at hs
  rw [← hs]
  cases hb : bad (mk P f)
  · rw [two_leaf va a _ _ _ v0 v1 rfl rfl hb (by rw [mk_leaf P f (by omega) (by omega), hl]) (two _ _) (two 2049 (mk P f)) rfl rfl rfl rfl]; rfl
  · rw [two_bad va a _ _ _ v0 v1 rfl rfl hb (two _ _) (two 2049 (mk P f)) rfl rfl rfl rfl]; rfl
theorem andNot_1023 (page : Int) (p0 : 0 ≤ page) (p1 : page < 4294967296) : bits .andNot .u32 (bits .and .u32 page 1048575) 1023 = page % 1048576 / 1024 * 1024 := by
  have hp := low_and page 20 (by decide) p0 p1
  rw [show ((2 : Int) ^ 20 - 1) = 1048575 from rfl, show ((2 : Int) ^ 20) = 1048576 from rfl] at hp
  rw [hp, u32_andNot _ 1023 (by omega) (by omega) (by decide) (by decide)]
  have h : (page % 1048576).toNat &&& (4294967295 - (1023 : Int).toNat) = (page % 1048576).toNat / 1024 * 1024 := by
    apply Nat.eq_of_testBit_eq
    intro i
    have e2 : (4294967295 - (1023 : Int).toNat).testBit i = (decide (i < 32) && !(1023 : Nat).testBit i) := by
      have := Nat.testBit_two_pow_sub_succ (x := 1023) (n := 32) (by omega) i
      exact this
    have e3 : (1023 : Nat).testBit i = decide (i < 10) := by
      have := Nat.testBit_two_pow_sub_one 10 i
      exact this
    rw [Nat.testBit_and, e2, e3, show (page % 1048576).toNat / 1024 * 1024 = (page % 1048576).toNat / 2 ^ 10 * 2 ^ 10 from rfl, Nat.testBit_mul_two_pow, ← Nat.shiftRight_eq_div_pow, Nat.testBit_shiftRight]
    by_cases hi : i < 10
    · have h0 : ¬ 10 ≤ i := by omega
      simp [hi, h0]
    · have h1 : 10 ≤ i := by omega
      rw [show 10 + (i - 10) = i by omega]
      by_cases h2 : i < 32
      · simp [h1, hi, h2]
      · have : (page % 1048576).toNat.testBit i = false := Nat.testBit_lt_two_pow (Nat.lt_of_lt_of_le (show (page % 1048576).toNat < 2 ^ 32 by omega) (Nat.pow_le_pow_right (by omega) (by omega)))
        simp [this]
  rw [h]
  omega
theorem or_hi (x y : Int) (m : Nat) (x0 : 0 ≤ x) (x1 : x < 4294967296) (y0 : 0 ≤ y) (y1 : y < 2 ^ m) (y2 : y < 4294967296) (hm : m ≤ 32) (hx : x % 2 ^ m = 0) : bits .or .u32 x y = x + y := by
  rw [u32_or x y x0 x1 y0 y2, Nat.or_comm]
  have := or_join x y m x0 x1 y0 y1 hm hx
  rw [u32_or y x y0 y2 x0 x1] at this
  exact this
end Go.Proofs.Ytkcdkjmkgncihaa.W
