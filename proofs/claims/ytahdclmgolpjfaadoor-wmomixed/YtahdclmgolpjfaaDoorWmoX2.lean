/- WmoMixed's law: what Check says. -/
import Derived.Test.YtahdclmgolpjfaaDoorWmoX1
namespace Go.Proofs.YtahdclmgolpjfaaDoor
open Go.RowKit
set_option linter.unusedVariables false
set_option linter.unusedSimpArgs false

namespace W
variable {n : Nat} {sz ad vl : Nat → Int} {got : Int}
theorem mxW_cov (q : Nat → StR) (h0 : ∀ a, wrA (q 0).o a = false) (a : Int) : ∀ p, mxW q (fun i => i) p a = 0 ∨ ∃ t : Nat, 0 < t ∧ t < p ∧ mxW q (fun i => i) p a = (t : Int) ∧ wrA (q t).o a = true
  | 0 => Or.inl rfl
  | p + 1 => by
    have ih := mxW_cov q h0 a p
    have hl := mxW_le q p a
    unfold mxW
    by_cases hw : wrA (q p).o a = true
    · rw [if_pos hw]
      have hp : p ≠ 0 := fun e => by
        subst e
        rw [h0 a] at hw
        cases hw
      exact Or.inr ⟨p, by omega, by omega, by omega, hw⟩
    · rw [if_neg hw]
      rcases ih with ih | ⟨t, t0, t1, t2, t3⟩
      · exact Or.inl ih
      · exact Or.inr ⟨t, t0, by omega, t2, t3⟩
theorem qX_0 (H : Nat) : qX n sz ad vl got H 0 = zSt := by unfold qX; rw [if_neg (by omega)]
theorem qX_w (i : Nat) (hi : i < n) : qX n sz ad vl got (n + 1) (i + 1) = ⟨oWx (sz i) (ad i) (vl i), S3.nil, (i : Int), 0, fun _ => 0⟩ := by
  unfold qX
  rw [if_pos (by omega), show i + 1 - 1 = i by omega, xX_w i hi]
theorem qX_r : qX n sz ad vl got (n + 1) (n + 1) = ⟨oRx got, S3.nil, (n : Int), 0, fun _ => 0⟩ := by
  unfold qX
  rw [if_pos (by omega), show n + 1 - 1 = n by omega, xX_r n (by omega)]
theorem qX_h0 (a : Int) : wrA (qX n sz ad vl got (n + 1) 0).o a = false := by rw [qX_0]; rfl
/-- The bytes as the law keeps them. -/
def mX (sz ad vl : Nat → Int) : Nat → Int → Int
  | 0, _ => 0
  | i + 1, a => if ad i ≤ a ∧ a < ad i + sz i then bta (vl i) (a - ad i).toNat else mX sz ad vl i a
theorem wrX (i : Nat) (hi : i < n) (hs : SzX (sz i) (ad i) (vl i)) (a : Int) : wrA (qX n sz ad vl got (n + 1) (i + 1)).o a = true ↔ (ad i ≤ a ∧ a < ad i + sz i) := by
  rw [qX_w i hi]
  unfold wrA
  show (wrs 2 && decide (ad i ≤ a) && decide (a < ad i + ((sz i).toNat : Int))) = true ↔ _
  have h1 : ((sz i).toNat : Int) = sz i := by have := hs.1; omega
  rw [h1]
  have h2 : wrs 2 = true := rfl
  rw [h2]
  simp
theorem memX (hs : ∀ h, h < n → SzX (sz h) (ad h) (vl h)) (a : Int) : ∀ i, i ≤ n → memB (qX n sz ad vl got (n + 1)) (i + 1) a = mX sz ad vl i a
  | 0, _ => by
    show (if wrA (qX n sz ad vl got (n + 1) 0).o a = true then _ else memB _ 0 a) = _
    rw [qX_h0, if_neg (by decide)]
    rfl
  | i + 1, hi => by
    have ih := memX hs a i (by omega)
    have hw := wrX (n := n) (got := got) i (by omega) (hs i (by omega)) a
    show (if wrA (qX n sz ad vl got (n + 1) (i + 1)).o a = true then bta (qX n sz ad vl got (n + 1) (i + 1)).o.vl (a - (qX n sz ad vl got (n + 1) (i + 1)).o.ad).toNat else memB _ (i + 1) a) = if ad i ≤ a ∧ a < ad i + sz i then bta (vl i) (a - ad i).toNat else mX sz ad vl i a
    by_cases e : ad i ≤ a ∧ a < ad i + sz i
    · rw [if_pos (hw.2 e), if_pos e, qX_w i (by omega)]
      rfl
    · rw [if_neg (fun h => e (hw.1 h)), if_neg e, ih]
/-- The word that the law puts together. -/
def gX (sz ad vl : Nat → Int) (n : Nat) : Int := mX sz ad vl n 0 + mX sz ad vl n 1 * 256 + mX sz ad vl n 2 * 65536 + mX sz ad vl n 3 * 16777216
def stX (n : Nat) (sz ad vl : Nat → Int) (got : Int) : Nat → StR := stp (xX n sz ad vl got) sX (fun _ => 1) (plc rX (n + 1)) (n + 1) (n + 1)
theorem stX_eq : stX n sz ad vl got = (fol (qX n sz ad vl got (n + 1)) (fun p => p) (n + 2)).2 := by
  unfold stX stp
  rw [stsX (n + 1) (Nat.le_refl _)]
theorem stX_o (p : Nat) : (stX n sz ad vl got p).o = (qX n sz ad vl got (n + 1) p).o := by rw [stX_eq, fol_o]
theorem stX_at (p : Nat) (hp : p < n + 2) : stX n sz ad vl got p = frW (qX n sz ad vl got (n + 1)) (fun i => i) p (qX n sz ad vl got (n + 1) p) := by
  rw [stX_eq]
  exact fol_at (qX n sz ad vl got (n + 1)) (fun i => i) p (n + 2) hp (fun t _ ht => ht)
theorem rdsX (p : Nat) (hp : p < n + 2) (h : rds (stX n sz ad vl got p).o.k = true) : p = n + 1 := by
  rw [stX_o] at h
  match p with
  | 0 => rw [qX_0] at h; cases h
  | i + 1 =>
    by_cases hi : i < n
    · rw [qX_w i hi] at h
      cases h
    · omega
theorem qfrX (p k : Nat) : (qX n sz ad vl got (n + 1) p).fr k = 0 := by
  unfold qX
  split <;> rfl
theorem qlrX (p : Nat) : (qX n sz ad vl got (n + 1) p).lr = 0 := by
  unfold qX
  split <;> rfl
theorem lrX (p : Nat) (hp : p < n + 2) : (stX n sz ad vl got p).lr = 0 := by
  rw [stX_at p hp]
  show (qX n sz ad vl got (n + 1) p).lr = 0
  exact qlrX p
theorem frX (hs : ∀ h, h < n → SzX (sz h) (ad h) (vl h)) (p : Nat) (hp : p < n + 2) (hr : rds (stX n sz ad vl got p).o.k = true) (k : Nat) (hk : k < (stX n sz ad vl got p).o.sz.toNat) : FrO (stX n sz ad vl got) (n + 2) ((stX n sz ad vl got p).fr k) ((stX n sz ad vl got p).o.ad + k) := by
  have e := rdsX p hp hr
  subst e
  rw [stX_o, qX_r] at hk ⊢
  have hk4 : k < 4 := hk
  have ef : (stX n sz ad vl got (n + 1)).fr k = mxW (qX n sz ad vl got (n + 1)) (fun i => i) (n + 1) (0 + (k : Int)) := by
    rw [stX_at (n + 1) (by omega)]
    unfold frW
    show (if rds (qX n sz ad vl got (n + 1) (n + 1)).o.k = true ∧ k < (qX n sz ad vl got (n + 1) (n + 1)).o.sz.toNat then max ((qX n sz ad vl got (n + 1) (n + 1)).fr k) (mxW (qX n sz ad vl got (n + 1)) (fun i => i) (n + 1) ((qX n sz ad vl got (n + 1) (n + 1)).o.ad + k)) else (qX n sz ad vl got (n + 1) (n + 1)).fr k) = _
    rw [qfrX, qX_r, if_pos ⟨rfl, hk4⟩]
    have := mxW_le (qX n sz ad vl got (n + 1)) (n + 1) (0 + (k : Int))
    show max 0 (mxW _ _ (n + 1) (0 + (k : Int))) = _
    omega
  rw [ef]
  show FrO _ _ (mxW (qX n sz ad vl got (n + 1)) (fun i => i) (n + 1) (0 + (k : Int))) (0 + (k : Int))
  rcases mxW_cov (qX n sz ad vl got (n + 1)) qX_h0 (0 + (k : Int)) (n + 1) with h | ⟨t, t0, t1, t2, t3⟩
  · exact Or.inl h
  · right
    obtain ⟨i, rfl⟩ : ∃ i, t = i + 1 := ⟨t - 1, by omega⟩
    have hi : i < n := by omega
    have hw := (wrX (got := got) i hi (hs i hi) _).1 t3
    have hz := hs i hi
    rw [t2, Int.toNat_natCast, stX_o, qX_w i hi]
    refine ⟨by omega, by omega, ?_, hw.1, ?_, hz.2⟩
    · show 0 ≤ ad i
      have := hz.1
      omega
    · show 0 + (k : Int) < ad i + 4
      have := hz.1
      omega
theorem rdX (hs : ∀ h, h < n → SzX (sz h) (ad h) (vl h)) : rdV (stX n sz ad vl got) (n + 1) 4 = gX sz ad vl n := by
  have h := rdV_mem (qX n sz ad vl got (n + 1)) qX_h0 (n + 2) (n + 1) (by omega) (by rw [qX_r]; rfl) (fun k hk => by rw [qfrX]; exact (mxW_le _ _ _).1) 4 (by rw [qX_r]; show 4 ≤ 4; omega)
  rw [← stX_eq] at h
  rw [h]
  show (((0 + memB _ (n + 1) _ * 2 ^ (8 * 0)) + memB _ (n + 1) _ * 2 ^ (8 * 1)) + memB _ (n + 1) _ * 2 ^ (8 * 2)) + memB _ (n + 1) _ * 2 ^ (8 * 3) = _
  rw [memX hs _ n (Nat.le_refl _), memX hs _ n (Nat.le_refl _), memX hs _ n (Nat.le_refl _), memX hs _ n (Nat.le_refl _), qX_r]
  unfold gX
  show 0 + mX sz ad vl n (0 + ((0 : Nat) : Int)) * 1 + mX sz ad vl n (0 + ((1 : Nat) : Int)) * 256 + mX sz ad vl n (0 + ((2 : Nat) : Int)) * 65536 + mX sz ad vl n (0 + ((3 : Nat) : Int)) * 16777216 = _
  simp
theorem okRX (hs : ∀ h, h < n → SzX (sz h) (ad h) (vl h)) (p : Nat) (hp : p < n + 1) : okR (stX n sz ad vl got) p := fun h => by
  have := rdsX p (by omega) h
  omega
theorem okRX_r (hs : ∀ h, h < n → SzX (sz h) (ad h) (vl h)) : okR (stX n sz ad vl got) (n + 1) ↔ got = gX sz ad vl n := by
  unfold okR
  rw [stX_o, qX_r]
  show ((true = true) → got = rdV (stX n sz ad vl got) (n + 1) 4) ↔ _
  rw [rdX hs]
  simp
theorem okPX (p : Nat) (hp : p < n + 2) : okP (stX n sz ad vl got) p := fun h => by
  rw [lrX p hp] at h
  cases h
end W
end Go.Proofs.YtahdclmgolpjfaaDoor
