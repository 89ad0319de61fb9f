/- What follow comes to, along any line; without any Go. -/
import Derived.Test.YtahdclmgolpjfaaDoorWmoL
namespace Go.Proofs.YtahdclmgolpjfaaDoor
open Go.RowKit
set_option linter.unusedVariables false
set_option linter.unusedSimpArgs false

namespace W
/-- Does an operation write there? -/
def wrA (o : Opr) (a : Int) : Bool := wrs o.k && decide (o.ad ≤ a) && decide (a < o.ad + o.sz.toNat)
theorem folO_1 (o : Opr) (p : Int) (L : Int → Int) (f : Nat → Int) : ∀ k a, (folO o p L f k).1 a = if wrs o.k = true ∧ o.ad ≤ a ∧ a < o.ad + (k : Int) then max (L a) p else L a
  | 0, a => by
    rw [if_neg (by omega)]
    rfl
  | k + 1, a => by
    have ih := folO_1 o p L f k
    unfold folO
    cases hw : wrs o.k
    · show (folO o p L f k).1 a = _
      rw [ih, hw]
      simp
    · show updL (folO o p L f k).1 (o.ad + k) (max ((folO o p L f k).1 (o.ad + k)) p) a = _
      unfold updL
      rw [ih, ih, hw]
      by_cases e : a = o.ad + k
      · rw [if_pos e, if_neg (by omega), if_pos ⟨rfl, by omega, by omega⟩, e]
      · rw [if_neg e]
        by_cases e2 : o.ad ≤ a ∧ a < o.ad + (k : Int)
        · rw [if_pos ⟨rfl, e2⟩, if_pos ⟨rfl, by omega, by omega⟩]
        · rw [if_neg (fun h => e2 h.2), if_neg (by omega)]
theorem folO_2 (o : Opr) (p : Int) (L : Int → Int) (f : Nat → Int) : ∀ k i, (folO o p L f k).2 i = if rds o.k = true ∧ i < k then max (f i) (L (o.ad + i)) else f i
  | 0, i => by
    rw [if_neg (by omega)]
    rfl
  | k + 1, i => by
    have ih := folO_2 o p L f k
    have i1 := folO_1 o p L f k (o.ad + k)
    rw [if_neg (by omega)] at i1
    unfold folO
    cases hr : rds o.k
    · show (folO o p L f k).2 i = _
      rw [ih, hr]
      simp
    · show updF (folO o p L f k).2 k (max ((folO o p L f k).2 k) ((folO o p L f k).1 (o.ad + k))) i = _
      unfold updF
      rw [i1, ih, ih, hr]
      by_cases e : i = k
      · subst e
        rw [if_pos rfl, if_neg (by omega), if_pos ⟨rfl, by omega⟩]
      · rw [if_neg e]
        by_cases e2 : i < k
        · rw [if_pos ⟨rfl, e2⟩, if_pos ⟨rfl, by omega⟩]
        · rw [if_neg (fun h => e2 h.2), if_neg (by omega)]
/-- The last place, along a line, that wrote there. -/
def mxW (q : Nat → StR) (ln : Nat → Nat) : Nat → Int → Int
  | 0, _ => 0
  | j + 1, a => if wrA (q (ln j)).o a = true then max (mxW q ln j a) (ln j) else mxW q ln j a
theorem fol_L (q : Nat → StR) (ln : Nat → Nat) : ∀ j a, (fol q ln j).1 a = mxW q ln j a
  | 0, a => rfl
  | j + 1, a => by
    have ih := fol_L q ln j
    have ho := fol_o q ln j (ln j)
    unfold fol mxW
    show (folO ((fol q ln j).2 (ln j)).o (ln j : Int) (fol q ln j).1 ((fol q ln j).2 (ln j)).fr ((fol q ln j).2 (ln j)).o.sz.toNat).1 a = _
    rw [folO_1, ho, ih]
    unfold wrA
    by_cases h : wrs (q (ln j)).o.k = true ∧ (q (ln j)).o.ad ≤ a ∧ a < (q (ln j)).o.ad + ((q (ln j)).o.sz.toNat : Int)
    · rw [if_pos h, if_pos (by rw [h.1, decide_eq_true h.2.1, decide_eq_true h.2.2]; rfl)]
    · rw [if_neg h, if_neg (fun e => h (by
        simp only [Bool.and_eq_true, decide_eq_true_eq] at e
        exact ⟨e.1.1, e.1.2, e.2⟩))]
/-- What a step reads, gone by at place i of the line. -/
def frW (q : Nat → StR) (ln : Nat → Nat) (i : Nat) (z : StR) : StR := { z with fr := fun k => if rds z.o.k = true ∧ k < z.o.sz.toNat then max (z.fr k) (mxW q ln i (z.o.ad + k)) else z.fr k }
theorem fol_not (q : Nat → StR) (ln : Nat → Nat) (p : Nat) : ∀ j, (∀ i, i < j → ln i ≠ p) → (fol q ln j).2 p = q p
  | 0, _ => rfl
  | j + 1, h => by
    have ih := fol_not q ln p j (fun i hi => h i (by omega))
    unfold fol
    show updQ (fol q ln j).2 (ln j) _ p = _
    unfold updQ
    rw [if_neg (fun e => h j (by omega) e.symm)]
    exact ih
theorem fol_at (q : Nat → StR) (ln : Nat → Nat) (i : Nat) : ∀ j, i < j → (∀ t, t < j → t ≠ i → ln t ≠ ln i) → (fol q ln j).2 (ln i) = frW q ln i (q (ln i))
  | 0, h, _ => by omega
  | j + 1, h, hu => by
    by_cases e : i = j
    · subst e
      have hn := fol_not q ln (ln i) i (fun t ht => hu t (by omega) (by omega))
      unfold fol
      show updQ (fol q ln i).2 (ln i) _ (ln i) = _
      rw [updQ_same]
      unfold frW
      rw [hn]
      congr 1
      funext k
      rw [folO_2]
      by_cases h2 : rds (q (ln i)).o.k = true ∧ k < (q (ln i)).o.sz.toNat
      · rw [if_pos h2, if_pos h2, fol_L]
      · rw [if_neg h2, if_neg h2]
    · have ih := fol_at q ln i j (by omega) (fun t ht => hu t (by omega))
      unfold fol
      show updQ (fol q ln j).2 (ln j) _ (ln i) = _
      unfold updQ
      rw [if_neg (fun x => hu j (by omega) (fun y => e y.symm) x.symm)]
      exact ih
/-- The byte that lies there behind the first p steps, of a memory of noughts. -/
def memB (q : Nat → StR) : Nat → Int → Int
  | 0, _ => 0
  | p + 1, a => if wrA (q p).o a = true then bta (q p).o.vl (a - (q p).o.ad).toNat else memB q p a
theorem mxW_le (q : Nat → StR) : ∀ p a, 0 ≤ mxW q (fun i => i) p a ∧ mxW q (fun i => i) p a ≤ (p : Int)
  | 0, a => ⟨Int.le_refl _, Int.le_refl _⟩
  | p + 1, a => by
    have := mxW_le q p a
    unfold mxW
    split
    · omega
    · omega
theorem byR_mx (q q' : Nat → StR) (ho : ∀ p, (q' p).o = (q p).o) (h0 : ∀ a, wrA (q 0).o a = false) (a : Int) : ∀ p, byR q' (mxW q (fun i => i) p a) a = memB q p a
  | 0 => rfl
  | p + 1 => by
    have ih := byR_mx q q' ho h0 a p
    have hl := mxW_le q p a
    unfold mxW memB
    by_cases hw : wrA (q p).o a = true
    · rw [if_pos hw, if_pos hw]
      have hp : p ≠ 0 := fun e => by
        subst e
        rw [h0 a] at hw
        cases hw
      have e : max (mxW q (fun i => i) p a) ((p : Nat) : Int) = (p : Int) := by omega
      rw [e]
      unfold byR
      rw [if_neg (by omega), Int.toNat_natCast, ho]
    · rw [if_neg hw, if_neg hw]
      exact ih
/-- What a step reads where all is as it was written last. -/
def rdM (q : Nat → StR) (p : Nat) : Nat → Int
  | 0 => 0
  | k + 1 => rdM q p k + memB q p ((q p).o.ad + k) * 2 ^ (8 * k)
theorem rdV_mem (q : Nat → StR) (h0 : ∀ a, wrA (q 0).o a = false) (J p : Nat) (hp : p < J) (hr : rds (q p).o.k = true) (hf : ∀ k, k < (q p).o.sz.toNat → (q p).fr k ≤ mxW q (fun i => i) p ((q p).o.ad + k)) : ∀ m, m ≤ (q p).o.sz.toNat → rdV (fol q (fun i => i) J).2 p m = rdM q p m
  | 0, _ => rfl
  | m + 1, hm => by
    have ih := rdV_mem q h0 J p hp hr hf m (by omega)
    have ha := fol_at q (fun i => i) p J hp (fun t _ ht => ht)
    have ho := fun t => fol_o q (fun i => i) J t
    unfold rdV rdM
    rw [ih, ho]
    congr 2
    have e : ((fol q (fun i => i) J).2 p).fr m = mxW q (fun i => i) p ((q p).o.ad + m) := by
      rw [ha]
      unfold frW
      show (if rds (q p).o.k = true ∧ m < (q p).o.sz.toNat then max ((q p).fr m) (mxW q (fun i => i) p ((q p).o.ad + m)) else (q p).fr m) = _
      rw [if_pos ⟨hr, by omega⟩]
      have := hf m (by omega)
      omega
    rw [e]
    exact byR_mx q _ ho h0 _ p
end W
end Go.Proofs.YtahdclmgolpjfaaDoor
