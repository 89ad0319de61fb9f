/- PpoMore: what its ways share. -/
import Derived.Test.YtbppeehhohdfiaaPpoCd
import Derived.Test.YtbppeehhohdfiaaPpoFi
import Derived.Test.YtbppeehhohdfiaaPpoZ1
import Derived.Test.YtbppeehhohdfiaaPpoY
import Derived.ArgAppend
namespace Go.Proofs.Ytbppeehhohdfiaa
open Go.ChangeShapes Go.WideShapes Go.ChangeAt Go.RowKit
set_option linter.unusedVariables false
set_option linter.unusedSimpArgs false

theorem W.Mo.refl (x : W.Oz) : W.Mo x x := ⟨rfl, rfl, rfl, rfl, fun h => h, fun h => h, W.Sb.refl _, fun t u h e => ((h.and (W.Sb.refl _)).ne (W.Sb.refl _)) e, fun _ h => h, fun _ h => h, fun _ h => h⟩
theorem W.mo_upd (x : Nat → W.Oz) (P : Nat) (z : W.Oz) (h : W.Mo (x P) z) (j : Nat) : W.Mo (x j) (updX x P z j) := by
  unfold updX
  by_cases e : j = P
  · subst e; rw [if_pos rfl]; exact h
  · rw [if_neg e]; exact W.Mo.refl _
theorem W.mo_fence (x : W.Oz) : W.Mo x { x with o := { x.o with pd := 3, sc := 3 } } := by
  refine ⟨rfl, rfl, rfl, rfl, fun h => h, fun h => h, ?_, fun t u h e => ?_, fun _ h => h, fun _ h => h, fun _ h => h⟩
  · intro p hp
    rw [W.nb_a8, BitVec.getLsbD_and, Bool.and_eq_true] at hp ⊢
    exact ⟨hp.2, hp.2⟩
  · obtain ⟨p, h1, h2⟩ := (W.a8_ne _ _).1 e
    rw [W.nb_a8, BitVec.getLsbD_and, Bool.and_eq_true] at h1
    refine (W.a8_ne _ _).2 ⟨p, ?_, h2⟩
    rw [W.nb_a8, BitVec.getLsbD_and, Bool.and_eq_true]
    exact ⟨h p h1.1, h2⟩
theorem W.whyI_at (x : Nat → W.Oz) (n i k : Nat) (h1 : i < k) (h2 : k < n) : W.whyI x n (i : Int) (k : Int) = W.whyO x i k := by
  unfold W.whyI
  rw [if_pos ⟨by omega, by omega, by omega⟩, Int.toNat_natCast, Int.toNat_natCast]
theorem Rs.ol {a : Option Addr} {n c : Nat} {o : Nat → W.Opr} {S : Nat → S3} {A D C : Nat → Nat → Int} {w : World} (h : Rs a n c o S A D C w) (hF : Few n S) : Ol a n (fun j => ozR (o j) (S j) (A j) (D j) (C j)) w :=
  ⟨fun h0 => by
    obtain ⟨g, off, e, _, hx⟩ := h.at_ h0
    exact ⟨g, off, e, fun j hj => (hx j hj).oz (by have := hF.l j hj; omega) (by have := hF.l j hj; omega) (by have := hF.l j hj; omega)⟩⟩
theorem Rs.ok {a : Option Addr} {n c : Nat} {o : Nat → W.Opr} {S : Nat → S3} {A D C : Nat → Nat → Int} {w : World} (h : Rs a n c o S A D C w) (j : Nat) (hj : j < n) : W.OzOk (ozR (o j) (S j) (A j) (D j) (C j)) := by
  obtain ⟨g, off, e, _, hx⟩ := h.at_ (by omega)
  exact ⟨(hx j hj).z0, (hx j hj).z1, (hx j hj).a0, (hx j hj).a1⟩
/-- What the loops want: both lists in memory, the one with no less than the other. -/
structure Two (a : Option Addr) (n c G : Nat) (x y : Nat → W.Oz) (w : World) : Prop where
  l : Ol a n x w
  m : Ol (some ⟨G, 0, none⟩) n y w
  lo : ∀ j, j < n → W.OzOk (x j)
  mo : ∀ j, j < n → W.OzOk (y j)
  nc : n ≤ c
  n0 : n ≤ 40
  le : ∀ j, W.Mo (x j) (y j)
theorem Two.whyL {a : Option Addr} {n c G : Nat} {x y : Nat → W.Oz} {w : World} (h : Two a n c G x y w) (W' : World) (hb : Below w.heap.size w W') (i k : Nat) (h1 : i < k) (h2 : k < n) : Calls Try.prog 12 #[.slice a n c, .int .i64 (i : Int), .int .i64 (k : Int)] W' fun e w' => e = .returned (.int .i64 (W.whyO x i k)) ∧ Below W'.heap.size W' w' := by
  have q := whyI_any a n c x W' (h.l.below hb) (by have := h.n0; omega) h.nc h.lo (i : Int) (k : Int) (by have := h.n0; omega) (by have := h.n0; omega) (by have := h.n0; omega) (by have := h.n0; omega)
  rw [W.whyI_at x n i k h1 h2] at q
  exact q
theorem Two.whyM {a : Option Addr} {n c G : Nat} {x y : Nat → W.Oz} {w : World} (h : Two a n c G x y w) (W' : World) (hb : Below w.heap.size w W') (i k : Nat) (h1 : i < k) (h2 : k < n) : Calls Try.prog 12 #[.slice (some ⟨G, 0, none⟩) n n, .int .i64 (i : Int), .int .i64 (k : Int)] W' fun e w' => e = .returned (.int .i64 (W.whyO y i k)) ∧ Below W'.heap.size W' w' := by
  have q := whyI_any _ n n y W' (h.m.below hb) (by have := h.n0; omega) (Nat.le_refl _) h.mo (i : Int) (k : Int) (by have := h.n0; omega) (by have := h.n0; omega) (by have := h.n0; omega) (by have := h.n0; omega)
  rw [W.whyI_at y n i k h1 h2] at q
  exact q
theorem Ow.of {G n : Nat} {x : Nat → W.Oz} {S : Nat → S3} {w : World} (hb : Bc G (n * 13) (opF x S) w) (hf : ∀ j, j < n → Fl3 G (S j) (x j) w) : Ow G n x S w := ⟨hb, fun j hj => (hf j hj).a, fun j hj => (hf j hj).d, fun j hj => (hf j hj).c⟩
theorem ok_upd {n : Nat} {x : Nat → W.Oz} {P : Nat} {z : W.Oz} (h : ∀ j, j < n → W.OzOk (x j)) (hz : W.OzOk z) (j : Nat) (hj : j < n) : W.OzOk (updX x P z j) := by
  unfold updX
  split
  · exact hz
  · exact h j hj
theorem updX_self (x : Nat → W.Oz) (P j : Nat) : x j = updX x P (x P) j := by
  unfold updX
  by_cases e : j = P
  · rw [if_pos e, e]
  · rw [if_neg e]
end Go.Proofs.Ytbppeehhohdfiaa
