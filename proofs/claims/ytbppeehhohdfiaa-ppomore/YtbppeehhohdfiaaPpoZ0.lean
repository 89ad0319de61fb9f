/- More to hang on, more marks: no less stays in order. Bits; without any Go. -/
import Derived.Test.YtbppeehhohdfiaaPpoT0
namespace Go.Proofs.Ytbppeehhohdfiaa
open Go.RowKit
set_option linter.unusedVariables false
set_option linter.unusedSimpArgs false

namespace W
def nb (u : Int) : BitVec 8 := BitVec.ofInt 8 u
/-- Each bit of u is one of v. -/
def Sb (u v : Int) : Prop := ∀ p, (nb u).getLsbD p = true → (nb v).getLsbD p = true
theorem a8_val (u v : Int) : a8 u v = ((nb u &&& nb v).toNat : Int) := by
  have h : ((nb u &&& nb v).toNat : Int) < 256 := by
    have := (nb u &&& nb v).isLt
    omega
  show IntKind.u8.wrap ((BitVec.ofInt 8 u &&& BitVec.ofInt 8 v : BitVec 8).toNat : Int) = _
  show ((nb u &&& nb v).toNat : Int) % 256 = _
  omega
theorem o8_val (u v : Int) : o8 u v = ((nb u ||| nb v).toNat : Int) := by
  have h : ((nb u ||| nb v).toNat : Int) < 256 := by
    have := (nb u ||| nb v).isLt
    omega
  show IntKind.u8.wrap ((BitVec.ofInt 8 u ||| BitVec.ofInt 8 v : BitVec 8).toNat : Int) = _
  show ((nb u ||| nb v).toNat : Int) % 256 = _
  omega
theorem nb_nat (x : BitVec 8) : nb (x.toNat : Int) = x := by
  unfold nb
  rw [BitVec.ofInt_natCast]
  simp
theorem nb_a8 (u v : Int) : nb (a8 u v) = nb u &&& nb v := by rw [a8_val, nb_nat]
theorem nb_o8 (u v : Int) : nb (o8 u v) = nb u ||| nb v := by rw [o8_val, nb_nat]
theorem a8_ne (u v : Int) : (a8 u v != 0) = true ↔ ∃ p, (nb u).getLsbD p = true ∧ (nb v).getLsbD p = true := by
  rw [a8_val]
  constructor
  · intro h
    have h1 : (nb u &&& nb v) ≠ 0#8 := fun e => by
      rw [e] at h
      simp at h
    by_cases hx : ∃ p, (nb u).getLsbD p = true ∧ (nb v).getLsbD p = true
    · exact hx
    · exfalso
      apply h1
      apply BitVec.eq_of_getLsbD_eq
      intro i hi
      rw [BitVec.getLsbD_and]
      have : ¬ ((nb u).getLsbD i = true ∧ (nb v).getLsbD i = true) := fun e => hx ⟨i, e⟩
      cases h2 : (nb u).getLsbD i <;> cases h3 : (nb v).getLsbD i <;> simp_all
  · rintro ⟨p, h1, h2⟩
    have h3 : (nb u &&& nb v).getLsbD p = true := by rw [BitVec.getLsbD_and, h1, h2]; rfl
    have h4 : (nb u &&& nb v).toNat ≠ 0 := fun e => by
      have : nb u &&& nb v = 0#8 := BitVec.eq_of_toNat_eq (by simpa using e)
      rw [this] at h3
      simp at h3
    exact bne_iff_ne.2 (by omega)
theorem Sb.refl (u : Int) : Sb u u := fun _ h => h
theorem Sb.trans {u v x : Int} (h : Sb u v) (k : Sb v x) : Sb u x := fun p q => k p (h p q)
theorem Sb.ne {u v k l : Int} (h : Sb u v) (g : Sb k l) (e : (a8 u k != 0) = true) : (a8 v l != 0) = true := by
  obtain ⟨p, h1, h2⟩ := (a8_ne u k).1 e
  exact (a8_ne v l).2 ⟨p, h p h1, g p h2⟩
theorem Sb.and {u v k l : Int} (h : Sb u v) (g : Sb k l) : Sb (a8 u k) (a8 v l) := fun p e => by
  rw [nb_a8, BitVec.getLsbD_and] at e ⊢
  rw [Bool.and_eq_true] at e
  rw [h p e.1, g p e.2]
  rfl
theorem Sb.or {u v k l : Int} (h : Sb u v) (g : Sb k l) : Sb (o8 u k) (o8 v l) := fun p e => by
  rw [nb_o8, BitVec.getLsbD_or] at e ⊢
  rw [Bool.or_eq_true] at e
  rcases e with e | e
  · rw [h p e]; rfl
  · rw [g p e]; simp
theorem Sb.inl (u k : Int) : Sb u (o8 u k) := fun p e => by
  rw [nb_o8, BitVec.getLsbD_or, e]
  rfl
/-- With a bit more, where it is set. -/
theorem Sb.bif {k l m : Int} {b c : Bool} (h : Sb k l) (hb : b = true → c = true) : Sb (bif b then o8 k m else k) (bif c then o8 l m else l) := by
  cases b
  · cases c
    · exact h
    · exact h.trans (Sb.inl l m)
  · rw [hb rfl]
    exact h.or (Sb.refl m)
theorem keep0_sb {t u : Int} (h : Sb t u) : Sb (keep0 t) (keep0 u) := by
  unfold keep0
  exact Sb.bif (Sb.bif (Sb.bif (Sb.refl 32) (h.ne (Sb.refl 64))) (h.ne (Sb.refl 96))) (h.ne (Sb.refl 2))
theorem note_ne {r : Int} (hr : r ≠ 0) {l m : List Int} {h g : Nat → Int} (hl : ∀ x ∈ l, x ∈ m) (hh : ∀ j, h j ≠ 0 → g j ≠ 0) (j : Nat) (e : note r l h j ≠ 0) : note r m g j ≠ 0 := by
  unfold note at e ⊢
  by_cases h0 : h j = 0
  · cases hc : l.contains (j : Int)
    · rw [hc, Bool.and_false] at e
      exact absurd h0 e
    · have hm : m.contains (j : Int) = true := by
        rw [List.contains_iff_mem] at hc ⊢
        exact hl _ hc
      rw [hm, Bool.and_true]
      by_cases g0 : g j = 0
      · have : (g j == 0) = true := by simpa using g0
        rw [this]
        exact hr
      · have : (g j == 0) = false := by simpa using g0
        rw [this]
        exact g0
  · have g0 := hh j h0
    have : (g j == 0) = false := by simpa using g0
    rw [this, Bool.false_and]
    exact g0
end W
end Go.Proofs.Ytbppeehhohdfiaa
