/- Barriers between, and pairs; without any Go. -/
import Derived.Test.YtbppeehhohdfiaaPpoW0
namespace Go.Proofs.Ytbppeehhohdfiaa
open Go.RowKit
set_option linter.unusedVariables false
set_option linter.unusedSimpArgs false

namespace W
theorem led_nil (x : Nat → Oz) (h : ∀ m, (x m).a = []) (b j : Nat) : led x b j = false := by
  unfold led
  rw [List.any_eq_false]
  intro m _
  rw [h m]
  simp
theorem acts_nil (x : Nat → Oz) (h : ∀ m, (x m).a = []) (b j : Nat) : acts x b j = actO (x j).o := by
  unfold acts ldA
  rw [led_nil x h]
  rfl
theorem hang_none (t : Int) (o : Opr) : hang0 t (-1) (oz0 o) = fun _ => 0 := by
  unfold hang0 oz0
  rw [note_neg]
  simp only [note_nil']
  cases (a8 t 2 != 0) <;> rfl
/-- PpoPairs' list. -/
def prO (ks : Nat → Bool) (j : Nat) : Opr := ⟨bif ks j then 2 else 1, 4, 4 * (j : Int), 0, 0, true, false, false, 0, 0⟩
def prX (ks : Nat → Bool) (j : Nat) : Oz := oz0 (prO ks j)
def lastG (ks : Nat → Bool) : Nat → Int
  | 0 => -1
  | n + 1 => bif ks n then -1 else (n : Int)
def wantG (ks : Nat → Bool) (j : Nat) : Int := bif ks j then lastG ks j else -1
theorem lastG_rg (ks : Nat → Bool) (n : Nat) : -1 ≤ lastG ks n ∧ lastG ks n < (n : Int) := by
  cases n with
  | zero => exact ⟨Int.le_refl _, by show (-1 : Int) < 0; decide⟩
  | succ n =>
    show -1 ≤ (bif ks n then -1 else (n : Int)) ∧ (bif ks n then -1 else (n : Int)) < _
    cases ks n
    · show -1 ≤ (n : Int) ∧ (n : Int) < _; omega
    · show -1 ≤ (-1 : Int) ∧ (-1 : Int) < _; omega
theorem wantG_rg (ks : Nat → Bool) (n : Nat) : -1 ≤ wantG ks n ∧ wantG ks n < (n : Int) := by
  unfold wantG
  have := lastG_rg ks n
  cases ks n
  · show -1 ≤ (-1 : Int) ∧ (-1 : Int) < _; omega
  · exact this
theorem pr_pair (ks : Nat → Bool) (n : Nat) : pairO (prX ks) n = wantG ks n := by
  cases n with
  | zero =>
    unfold pairO wantG
    show (bif true && _ && decide (0 ≤ (-1 : Int)) && _ then _ else _) = _
    have : decide (0 ≤ (-1 : Int)) = false := by decide
    rw [this]
    simp
    cases ks 0 <;> rfl
  | succ n =>
    have hl : lastP (prX ks) (n + 1) = (n : Int) := rfl
    unfold pairO wantG
    rw [hl, Int.toNat_natCast]
    have h0 : decide (0 ≤ (n : Int)) = true := by simp
    rw [h0]
    show (bif true && ((bif ks (n + 1) then (2 : Int) else 1) == 2) && true && ((bif ks n then (2 : Int) else 1) == 1) then (n : Int) else -1) = bif ks (n + 1) then (bif ks n then -1 else (n : Int)) else -1
    cases ks (n + 1) <;> cases ks n <;> rfl
theorem pr_act (ks : Nat → Bool) (j : Nat) : actO (prX ks j).o = ⟨⟨4 * (j : Int), 4⟩, bif ks j then 26 else 9⟩ := by
  unfold prX oz0 prO
  dsimp only
  cases ks j <;> rfl
theorem pr_why (ks : Nat → Bool) (i : Nat) (hi : i < 100) (h : 0 ≤ wantG ks i) : whyO (prX ks) (wantG ks i).toNat i = 8 := by
  cases i with
  | zero =>
    exfalso
    unfold wantG lastG at h
    cases ks 0
    · rw [show (bif ks 0 then (-1 : Int) else -1) = -1 by cases ks 0 <;> rfl] at h; omega
    · rw [show (bif ks 0 then (-1 : Int) else -1) = -1 by cases ks 0 <;> rfl] at h; omega
  | succ n =>
    have hk : ks (n + 1) = true ∧ ks n = false := by
      have h' : 0 ≤ (bif ks (n + 1) then (bif ks n then -1 else (n : Int)) else -1) := h
      revert h'
      cases ks (n + 1) <;> cases ks n <;> simp
    have hw : wantG ks (n + 1) = (n : Int) := by
      show (bif ks (n + 1) then (bif ks n then -1 else (n : Int)) else -1) = _
      rw [hk.1, hk.2]
      rfl
    rw [hw, Int.toNat_natCast]
    have hA : ∀ j, acts (prX ks) (n + 1) j = ⟨⟨4 * (j : Int), 4⟩, bif ks j then 26 else 9⟩ := fun j => by
      rw [acts_nil _ (fun _ => rfl), pr_act]
    rw [why_plain _ n (n + 1) (by omega) (by rw [hA, hk.1]; dsimp only; decide +kernel) (fun j hj => ⟨by rw [hA]; dsimp only; cases ks j <;> decide +kernel, by rw [hA, hA]; exact apart j (n + 1) (by omega) (by omega) (by omega)⟩) (by rw [hA, hA, hk.1, hk.2]; dsimp only; decide +kernel), pr_pair, hw, hA, hk.1]
    have hq : ∀ f : Nat → Int, hang0 (bif true then 26 else 9) (n : Int) (prX ks (n + 1)) = note 8 [(n : Int)] fun _ => 0 := fun _ => by
      unfold hang0 prX oz0
      simp only [note_nil']
      cases (a8 (bif true then 26 else 9) 2 != 0) <;> rfl
    show hang0 (bif true then 26 else 9) (n : Int) (prX ks (n + 1)) n = 8
    rw [hq (fun _ => 0)]
    unfold note
    simp
/-- PpoFences' lists. -/
def fbO (ks : Nat → Bool) (j : Nat) : Opr := op3 (bif ks j then 2 else 1) 4 (4 * (j : Int))
def ffO (ks : Nat → Bool) (p s : Nat) (j : Nat) : Opr := if j % 2 = 0 then fbO ks (j / 2) else opB (p : Int) (s : Int)
def fbX (ks : Nat → Bool) (j : Nat) : Oz := oz0 (fbO ks j)
def ffX (ks : Nat → Bool) (p s : Nat) (j : Nat) : Oz := oz0 (ffO ks p s j)
theorem fb_act (ks : Nat → Bool) (j : Nat) : actO (fbO ks j) = ⟨⟨4 * (j : Int), 4⟩, bif ks j then 10 else 9⟩ := by
  unfold fbO
  cases ks j <;> rfl
theorem fb_why (ks : Nat → Bool) (i k : Nat) (hik : i < k) (hk : k < 100) : whyO (fbX ks) i k = 0 := by
  have hA : ∀ j, acts (fbX ks) k j = ⟨⟨4 * (j : Int), 4⟩, bif ks j then 10 else 9⟩ := fun j => by
    rw [acts_nil _ (fun _ => rfl)]
    exact fb_act ks j
  rw [why_plain _ i k hik (by rw [hA]; dsimp only; cases ks k <;> decide +kernel) (fun j hj => ⟨by rw [hA]; dsimp only; cases ks j <;> decide +kernel, by rw [hA, hA]; exact apart j k (by omega) (by omega) (by omega)⟩) (by rw [hA, hA]; dsimp only; cases ks k <;> cases ks i <;> decide +kernel), pair_none _ _ rfl]
  show hang0 _ (-1) (oz0 (fbO ks k)) i = 0
  rw [hang_none]
def fenK (t p s k : Int) : Int := bif a8 (a8 t (s % 256)) 3 != 0 then o8 k (a8 (p % 256) 3) else k
theorem fence_eq (b : Act) (p s : Int) (st : St) : fence b (oz0 (opB p s)) st = ⟨fenK b.t p s st.k, st.h, st.g⟩ := by
  unfold fence fenK oz0 opB
  dsimp only
  cases (a8 (a8 b.t (s % 256)) 3 != 0) <;> rfl
def tk4 (b : Bool) : Int := bif b then 10 else 9
theorem fenK_idem (u : Bool) (p s : Nat) (hp : p < 4) (hs : s < 4) : fenK (tk4 u) p s (fenK (tk4 u) p s (keep0 (tk4 u))) = fenK (tk4 u) p s (keep0 (tk4 u)) := by
  have : ((List.range 4).all fun p => (List.range 4).all fun s => [false, true].all fun u => fenK (tk4 u) (p : Int) (s : Int) (fenK (tk4 u) (p : Int) (s : Int) (keep0 (tk4 u))) == fenK (tk4 u) (p : Int) (s : Int) (keep0 (tk4 u))) = true := by decide +kernel
  have h1 := List.all_eq_true.1 this p (List.mem_range.2 hp)
  have h2 := List.all_eq_true.1 h1 s (List.mem_range.2 hs)
  have h3 := List.all_eq_true.1 h2 u (by cases u <;> simp)
  simpa using h3
/-- What the chapter says of a barrier. -/
def fcW (ci ck : Bool) (p s : Nat) : Int := bif (bits .and .i64 (p : Int) (bif ci then 2 else 1) != 0) && (bits .and .i64 (s : Int) (bif ck then 2 else 1) != 0) then 4 else 0
theorem fcW_eq (ci ck : Bool) (p s : Nat) (hp : p < 4) (hs : s < 4) : (bif (a8 (tk4 ci) (fenK (tk4 ck) p s (keep0 (tk4 ck))) != 0) || ((0 : Int) != 0) then whyK (a8 (tk4 ci) (fenK (tk4 ck) p s (keep0 (tk4 ck)))) 0 else 0) = fcW ci ck p s := by
  have : ((List.range 4).all fun p => (List.range 4).all fun s => [false, true].all fun ci => [false, true].all fun ck => (bif (a8 (tk4 ci) (fenK (tk4 ck) (p : Int) (s : Int) (keep0 (tk4 ck))) != 0) || ((0 : Int) != 0) then whyK (a8 (tk4 ci) (fenK (tk4 ck) (p : Int) (s : Int) (keep0 (tk4 ck)))) 0 else 0) == fcW ci ck p s) = true := by decide +kernel
  have h1 := List.all_eq_true.1 this p (List.mem_range.2 hp)
  have h2 := List.all_eq_true.1 h1 s (List.mem_range.2 hs)
  have h3 := List.all_eq_true.1 h2 ci (by cases ci <;> simp)
  have h4 := List.all_eq_true.1 h3 ck (by cases ck <;> simp)
  simpa using h4
theorem ff_even (ks : Nat → Bool) (p s i : Nat) : ffO ks p s (2 * i) = fbO ks i := by
  unfold ffO
  rw [if_pos (by omega), show 2 * i / 2 = i by omega]
theorem ff_odd (ks : Nat → Bool) (p s j : Nat) (h : j % 2 = 1) : ffO ks p s j = opB p s := by
  unfold ffO
  rw [if_neg (by omega)]
theorem ff_acts (ks : Nat → Bool) (p s b j : Nat) : acts (ffX ks p s) b j = actO (ffO ks p s j) := acts_nil _ (fun _ => rfl) b j
theorem bk_succ (A : Nat → Act) (x : Nat → Oz) (b : Nat) (pb : Int) (i : Nat) : bk A x b pb (i + 1) = step (A b) (A (b - 1 - i)) (x (b - 1 - i)) ((bk A x b pb i).g (b - 1 - i)) (bk A x b pb i) := rfl
theorem ff_bk (ks : Nat → Bool) (p s k : Nat) (hp : p < 4) (hs : s < 4) (hk : k < 100) : ∀ i, i < 2 * k → bk (acts (ffX ks p s) (2 * k)) (ffX ks p s) (2 * k) (-1) (i + 1) = ⟨fenK (tk4 (ks k)) p s (keep0 (tk4 (ks k))), [], fun _ => 0⟩
  | 0, h => by
    have e : 2 * k - 1 - 0 = 2 * k - 1 := rfl
    have ho : ffO ks p s (2 * k - 1) = opB p s := ff_odd ks p s _ (by omega)
    have hb : acts (ffX ks p s) (2 * k) (2 * k) = ⟨⟨4 * (k : Int), 4⟩, tk4 (ks k)⟩ := by rw [ff_acts, ff_even, fb_act]; unfold tk4; rfl
    have hx : acts (ffX ks p s) (2 * k) (2 * k - 1) = ⟨⟨0, 0⟩, 4⟩ := by rw [ff_acts, ho]; rfl
    rw [bk_succ, e, hb, hx]
    unfold step
    rw [show (a8 (4 : Int) 4 != 0) = true by decide +kernel, cond_true]
    have hX : ffX ks p s (2 * k - 1) = oz0 (opB p s) := by show oz0 (ffO ks p s (2 * k - 1)) = _; rw [ho]
    have hB : bk (acts (ffX ks p s) (2 * k)) (ffX ks p s) (2 * k) (-1) 0 = ⟨keep0 (tk4 (ks k)), [], fun _ => 0⟩ := by
      show beg (acts (ffX ks p s) (2 * k) (2 * k)) (-1) (oz0 (ffO ks p s (2 * k))) = _
      unfold beg
      rw [hang_none, hb]
    rw [hX, hB, fence_eq]
  | i + 1, h => by
    have ih := ff_bk ks p s k hp hs hk i (by omega)
    have hb : acts (ffX ks p s) (2 * k) (2 * k) = ⟨⟨4 * (k : Int), 4⟩, tk4 (ks k)⟩ := by rw [ff_acts, ff_even, fb_act]; unfold tk4; rfl
    rw [bk_succ, ih, hb]
    by_cases ev : i % 2 = 0
    · obtain ⟨m, hm⟩ : ∃ m, 2 * k - 1 - (i + 1) = 2 * m := ⟨(2 * k - 1 - (i + 1)) / 2, by omega⟩
      rw [hm]
      have hx : acts (ffX ks p s) (2 * k) (2 * m) = ⟨⟨4 * (m : Int), 4⟩, tk4 (ks m)⟩ := by rw [ff_acts, ff_even, fb_act]; unfold tk4; rfl
      have s4 : (a8 (tk4 (ks m)) 4 != 0) = false := by unfold tk4; cases ks m <;> decide +kernel
      have sm := apart m k (by omega) (by omega) (by omega)
      rw [hx, step_apart ⟨⟨4 * (k : Int), 4⟩, tk4 (ks k)⟩ ⟨⟨4 * (m : Int), 4⟩, tk4 (ks m)⟩ _ _ _ s4 sm]
    · have ho : ffO ks p s (2 * k - 1 - (i + 1)) = opB p s := ff_odd ks p s _ (by omega)
      have hx : acts (ffX ks p s) (2 * k) (2 * k - 1 - (i + 1)) = ⟨⟨0, 0⟩, 4⟩ := by rw [ff_acts, ho]; rfl
      rw [hx]
      unfold step
      rw [show (a8 (4 : Int) 4 != 0) = true by decide +kernel, cond_true]
      have hX : ffX ks p s (2 * k - 1 - (i + 1)) = oz0 (opB p s) := by show oz0 (ffO ks p s (2 * k - 1 - (i + 1))) = _; rw [ho]
      rw [hX, fence_eq]
      dsimp only
      rw [fenK_idem _ _ _ hp hs]
theorem ff_why (ks : Nat → Bool) (p s i k : Nat) (hp : p < 4) (hs : s < 4) (hik : i < k) (hk : k < 100) : whyO (ffX ks p s) (2 * i) (2 * k) = fcW (ks i) (ks k) p s := by
  have hb : acts (ffX ks p s) (2 * k) (2 * k) = ⟨⟨4 * (k : Int), 4⟩, tk4 (ks k)⟩ := by rw [ff_acts, ff_even, fb_act]; unfold tk4; rfl
  have hx : acts (ffX ks p s) (2 * k) (2 * i) = ⟨⟨4 * (i : Int), 4⟩, tk4 (ks i)⟩ := by rw [ff_acts, ff_even, fb_act]; unfold tk4; rfl
  have hpr : pairO (ffX ks p s) (2 * k) = -1 := pair_none _ _ (by show (ffO ks p s (2 * k)).pr = false; rw [ff_even]; rfl)
  unfold whyO
  rw [hb, show (a8 (tk4 (ks k)) 4 != 0) = false by unfold tk4; cases ks k <;> decide +kernel, cond_false, hpr]
  unfold rulA
  obtain ⟨m, hm⟩ : ∃ m, 2 * k - 1 - 2 * i = m + 1 := ⟨2 * k - 1 - 2 * i - 1, by omega⟩
  have s4 : (a8 (tk4 (ks i)) 4 != 0) = false := by unfold tk4; cases ks i <;> decide +kernel
  have sm := apart i k (by omega) (by omega) (by omega)
  rw [hm, ff_bk ks p s k hp hs hk m (by omega), hb, hx, rul_apart ⟨⟨4 * (k : Int), 4⟩, tk4 (ks k)⟩ ⟨⟨4 * (i : Int), 4⟩, tk4 (ks i)⟩ _ _ s4 sm]
  exact fcW_eq (ks i) (ks k) p s hp hs
end W
end Go.Proofs.Ytbppeehhohdfiaa
