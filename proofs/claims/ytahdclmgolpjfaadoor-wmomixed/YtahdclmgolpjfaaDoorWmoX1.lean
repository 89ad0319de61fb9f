/- WmoMixed's law: writes one after the other, then a read; without any Go. -/
import Derived.Test.YtahdclmgolpjfaaDoorWmoX0
import Derived.Test.YtahdclmgolpjfaaDoorWmoS
namespace Go.Proofs.YtahdclmgolpjfaaDoor
open Go.RowKit
set_option linter.unusedVariables false
set_option linter.unusedSimpArgs false

namespace W
def oWx (sz ad vl : Int) : Opr := ⟨2, sz, ad, vl, 0, false, false, false, 0, 0⟩
def oRx (gt : Int) : Opr := ⟨1, 4, 0, 0, gt, false, false, false, 0, 0⟩
def xX (n : Nat) (sz ad vl : Nat → Int) (got : Int) (h : Nat) : Nat → Oz := fun _ => oz0 (if h < n then oWx (sz h) (ad h) (vl h) else oRx got)
def rX (j : Nat) : Nat × Nat := (j, 0)
def sX : Nat → Nat → S3 := fun _ _ => S3.nil
theorem plcX : ∀ N h i, plc rX N h i = if h < N ∧ i = 0 then (h : Int) + 1 else 0
  | 0, h, i => by rw [if_neg (by omega)]; rfl
  | N + 1, h, i => by
    show (if h = N ∧ i = 0 then (N : Int) + 1 else plc rX N h i) = _
    rw [plcX N h i]
    by_cases e : h = N ∧ i = 0
    · rw [if_pos e, if_pos ⟨by omega, e.2⟩, e.1]
    · rw [if_neg e]
      by_cases e2 : h < N ∧ i = 0
      · rw [if_pos e2, if_pos ⟨by omega, e2.2⟩]
      · rw [if_neg e2, if_neg (by omega)]
theorem totX (f : Nat → Nat) (hf : ∀ h, f h = 1) : ∀ k, tot f k = k
  | 0 => rfl
  | k + 1 => by
    show tot f k + f k = _
    rw [totX f hf k, hf]
/-- Sizes and places such as the law makes them. -/
def SzX (sz ad vl : Int) : Prop := ((sz = 1 ∧ 0 ≤ ad ∧ ad < 4) ∨ (sz = 2 ∧ (ad = 0 ∨ ad = 2)) ∨ (sz = 4 ∧ ad = 0)) ∧ 0 ≤ vl ∧ vl < 4294967296
variable {n : Nat} {sz ad vl : Nat → Int} {got : Int}
theorem xX_w (h : Nat) (hh : h < n) (i : Nat) : (xX n sz ad vl got h i).o = oWx (sz h) (ad h) (vl h) := by
  show (if h < n then _ else _) = _
  rw [if_pos hh]
theorem xX_r (h : Nat) (hh : ¬ h < n) (i : Nat) : (xX n sz ad vl got h i).o = oRx got := by
  show (if h < n then _ else _) = _
  rw [if_neg hh]
theorem pairX (h : Nat) : pairO (xX n sz ad vl got h) 0 = -1 := by
  unfold pairO
  have : (xX n sz ad vl got h 0).o.pr = false := by
    by_cases hh : h < n
    · rw [xX_w h hh]; rfl
    · rw [xX_r h hh]; rfl
  rw [this]
  rfl
theorem cntX (h : Nat) : cnt (xX n sz ad vl got h) 1 = 1 := by
  show (bif (xX n sz ad vl got h 0).o.k != 4 then cnt _ 0 + 1 else cnt _ 0) = 1
  have : ((xX n sz ad vl got h 0).o.k != 4) = true := by
    by_cases hh : h < n
    · rw [xX_w h hh]; rfl
    · rw [xX_r h hh]; rfl
  rw [this]
  rfl
theorem vdX (hn : n ≤ 12) (hs : ∀ h, h < n → SzX (sz h) (ad h) (vl h)) : Vd (n + 1) (fun _ => 1) (xX n sz ad vl got) := by
  refine ⟨by omega, by rw [totX _ (fun _ => rfl)]; omega, fun h hh => ?_⟩
  have key : ∀ j, FitB (xX n sz ad vl got h j).o ∧ 0 ≤ (xX n sz ad vl got h j).o.ad ∧ (xX n sz ad vl got h j).o.ad < 4294967296 ∧ (xX n sz ad vl got h j).o.pr = false := fun j => by
    by_cases hh : h < n
    · rw [xX_w h hh]
      have := (hs h hh).1
      refine ⟨Or.inl ⟨Or.inr rfl, ?_⟩, ?_, ?_, rfl⟩
      · show sz h = 1 ∨ sz h = 2 ∧ ad h % 2 = 0 ∨ sz h = 4 ∧ ad h % 4 = 0
        omega
      · show 0 ≤ ad h
        omega
      · show ad h < 4294967296
        omega
    · rw [xX_r h hh]
      exact ⟨Or.inl ⟨Or.inl rfl, Or.inr (Or.inr ⟨rfl, rfl⟩)⟩, Int.le_refl _, (by decide : (0 : Int) < 4294967296), rfl⟩
  exact ⟨fun j _ => (key j).1, fun j _ => (key j).2.1, fun j _ => (key j).2.2.1, fun j _ d hd => absurd hd (by simp [xX, oz0]), fun j _ d hd => absurd hd (by simp [xX, oz0]), fun j _ d hd => absurd hd (by simp [xX, oz0]), fun j _ hp => by rw [(key j).2.2.2] at hp; cases hp⟩
theorem orX : Or (n + 1) (fun _ => 1) (xX n sz ad vl got) (n + 1) rX := by
  refine ⟨fun j hj => hj, fun j hj => Nat.one_pos, fun j hj => ?_, fun j hj => ?_, totX _ (fun h => cntX h) _⟩
  · show (xX n sz ad vl got j 0).o.k ≠ 4
    by_cases hh : j < n
    · rw [xX_w j hh]; show (2 : Int) ≠ 4; decide
    · rw [xX_r j hh]; show (1 : Int) ≠ 4; decide
  · show plc rX j j 0 = 0
    rw [plcX, if_neg (by omega)]
theorem itX (h : Nat) : InT (plc rX (n + 1) h) 1 := fun j hj => by
  obtain rfl : j = 0 := by omega
  right
  show (0 : Int) ≤ _
  exact (plc_bd rX (n + 1) h 0).1
/-- The steps ahead of the last way along the order. -/
def qX (n : Nat) (sz ad vl : Nat → Int) (got : Int) (H p : Nat) : StR := if 1 ≤ p ∧ p ≤ H then ⟨(xX n sz ad vl got (p - 1) 0).o, S3.nil, ((p - 1 : Nat) : Int), 0, fun _ => 0⟩ else zSt
theorem stsX : ∀ H, H ≤ n + 1 → sts (xX n sz ad vl got) sX (fun _ => 1) (plc rX (n + 1)) H = qX n sz ad vl got H
  | 0, _ => by
    funext p
    unfold qX
    rw [if_neg (by omega)]
    rfl
  | H + 1, hH => by
    have ih := stsX H (by omega)
    have hp : plc rX (n + 1) H 0 = (H : Int) + 1 := by rw [plcX, if_pos ⟨by omega, rfl⟩]
    have ei : innS (xX n sz ad vl got H) (sX H) (plc rX (n + 1) H) (H : Int) (qX n sz ad vl got H) 1 = qX n sz ad vl got (H + 1) := by
      show (if plc rX (n + 1) H 0 = 0 then _ else updQ (qX n sz ad vl got H) (plc rX (n + 1) H 0).toNat ⟨(xX n sz ad vl got H 0).o, sX H 0, (H : Int), lrO (xX n sz ad vl got H) (plc rX (n + 1) H) 0, fun _ => 0⟩) = _
      rw [hp, if_neg (by omega)]
      have el : lrO (xX n sz ad vl got H) (plc rX (n + 1) H) 0 = 0 := by
        unfold lrO
        rw [pairX, if_neg (by decide)]
      rw [el]
      funext p
      unfold updQ qX
      by_cases e : p = ((H : Int) + 1).toNat
      · have e' : p = H + 1 := by omega
        subst e'
        rw [if_pos (by omega), if_pos (by omega)]
        rfl
      · rw [if_neg e]
        by_cases e2 : 1 ≤ p ∧ p ≤ H
        · rw [if_pos e2, if_pos (by omega)]
        · rw [if_neg e2, if_neg (by omega)]
    show (fol (innS (xX n sz ad vl got H) (sX H) (plc rX (n + 1) H) (H : Int) (sts (xX n sz ad vl got) sX (fun _ => 1) (plc rX (n + 1)) H) 1) (fun i => (plc rX (n + 1) H i).toNat) 1).2 = _
    rw [ih, ei]
    have h0 : (plc rX (n + 1) H 0).toNat = H + 1 := by rw [hp]; omega
    funext p
    by_cases e : p = H + 1
    · subst e
      have := fol_at (qX n sz ad vl got (H + 1)) (fun i => (plc rX (n + 1) H i).toNat) 0 1 (by omega) (fun t ht ht' => by omega)
      rw [h0] at this
      rw [this]
      unfold frW qX
      rw [if_pos (by omega)]
      congr 1
      funext k
      show (if _ then max (0 : Int) 0 else 0) = 0
      split <;> rfl
    · exact fol_not _ _ p 1 (fun i hi => by
        obtain rfl : i = 0 := by omega
        show (plc rX (n + 1) H 0).toNat ≠ p
        omega)
end W
end Go.Proofs.YtahdclmgolpjfaaDoor
