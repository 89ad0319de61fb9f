/- What the document's Decode returns. -/
import Derived.Test.YthbcdlaejefkaaaDoorRefA
namespace Go.Proofs.YthbcdlaejefkaaaDoor
open Go.ChangeShapes Go.WideShapes Go.ChangeAt Go.RowKit
set_option linter.unusedVariables false
set_option linter.unusedSimpArgs false

theorem rows_tb2 (w : World) : Calls Tryd.prog 21 #[] w fun e w' => ∃ g, e = .returned (.slice (some ⟨g, 0, none⟩) 69 69) ∧ Tb g w' ∧ w.heap.size ≤ g ∧ Below w.heap.size w w' :=
  (rows_any w).mono fun e w' ⟨w1, hb, he, hw⟩ => ⟨w1.heap.size, he, by rw [hw]; exact Tb.start w1 _, hb.size, by rw [hw]; exact hb.alloc hb.size _⟩

/-- What holds at each row: the table, the room for the answer, no row behind that fits. -/
structure Dc (x : Int) (g : Nat) (w : World) (j : Nat) (wr : World) : Prop where
  bel : Below w.heap.size w wr
  tab : Tb g wr
  lt : w.heap.size < g
  room : Room w.heap.size 8 wr
  none : ∀ m, m < j → W.hit x (m + 1) = false
theorem Dc.below {x : Int} {g : Nat} {w a b : World} {j : Nat} (h : Dc x g w j a) (hm : Below a.heap.size a b) : Dc x g w j b :=
  ⟨h.bel.trans (hm.mono h.bel.size), h.tab.below hm, h.lt, h.room.below hm (Nat.lt_trans h.lt h.tab.lt), h.none⟩
theorem Dc.step {x : Int} {g : Nat} {w a : World} {j : Nat} (h : Dc x g w j a) (hh : W.hit x (j + 1) = false) : Dc x g w (j + 1) a :=
  ⟨h.bel, h.tab, h.lt, h.room, fun m hm => by rcases Nat.lt_succ_iff_lt_or_eq.1 hm with h1 | h1; exact h.none m h1; rw [h1]; exact hh⟩

theorem rdec_hit {x : Int} {j : Nat} (x0 : 0 ≤ x) (x1 : x < 4294967296) (hj : j < 69) (h : W.hit x (j + 1) = true) : W.decI x = W.rread (W.rw j) x ∧ W.decB x = true := by
  have hd : W.dec x = j + 1 := W.dec_eq (by omega) (by omega) x0 x1 h
  rw [W.decI, W.decB, hd, W.rread_eq hj]
  exact ⟨rfl, by simp⟩
theorem rdec_none {x : Int} (h : ∀ m, m < 69 → W.hit x (m + 1) = false) : W.decI x = ⟨0, 0, 0, 0, 0, 0, false, false⟩ ∧ W.decB x = false := by
  have hd : W.dec x = 0 := by
    rcases W.decFrom_hit x 69 1 with h1 | h1
    · exact h1
    · exfalso
      have := h (W.decFrom x 1 69 - 1) (by omega)
      rw [show W.decFrom x 1 69 - 1 + 1 = W.decFrom x 1 69 by omega, h1.2.2] at this
      cases this
  rw [W.decI, W.decB, hd]
  exact ⟨rfl, rfl⟩

theorem rimm_lt (f x : Int) : 0 ≤ W.rimm f x ∧ W.rimm f x < 4294967296 := by
  unfold W.rimm
  cases (f == 90) <;> cases (f == 67) <;> cases (f == 70) <;> simp only [cond_true, cond_false] <;> first | exact W.bitsOf_lt _ _ _ | exact W.imm_lt _ _

theorem word_rd (r : W.Rw) (x V : Int) (w : World) (hV : W.rword r (W.rread r x) = V) : Calls Tryd.prog 29 #[rwV r, inV (W.rread r x)] w fun e w' => e = .returned (.int .u32 V) ∧ Below w.heap.size w w' := by
  rw [← hV]
  exact word_any r (W.rread r x) w (rimm_lt _ _).1 (rimm_lt _ _).2

/-- The first loop of a text. -/
def loopIn : Code → Option Code
  | .loop c => some c
  | .seq a b => (loopIn a).or (loopIn b)
  | .block _ c => loopIn c
  | .scope c => loopIn c
  | .cond _ a b => (loopIn a).or (loopIn b)
  | _ => none
noncomputable def decBody : Code := (Tryd.f11.body.bind loopIn).getD .skip

set_option maxRecDepth 1000000 in
/-- The slots at the loop's head. -/
def decFr (x : Int) (b g : Nat) (u : Nat → Value) (v : Value) : Act := ⟨#[.int .u32 x, undef, .pointer (some ⟨b, 0, none⟩), u 3, .slice (some ⟨g, 0, none⟩) 69 69, v, u 6, u 7, .slice (some ⟨g, 0, none⟩) 69 69, u 9, u 10, u 11, u 12, u 13, u 14, u 15, u 16, u 17, u 18, u 19, u 20, u 21, u 22, u 23, u 24, u 25, u 26, u 27, u 28, u 29, u 30, u 31, u 32, u 33, u 34, u 35, u 36, u 37, u 38, u 39, u 40, u 41, u 42, u 43, u 44, u 45, u 46, u 47, u 48, u 49, u 50, u 51, u 52, u 53, u 54, u 55, u 56, u 57, u 58, u 59, u 60, u 61, u 62, u 63, u 64, u 65, u 66, u 67, u 68, u 69, u 70, u 71, u 72, u 73, u 74, u 75, u 76, undef], []⟩
def DI (x : Int) (g : Nat) (w : World) (a : Act) (w' : World) : Prop := ∃ j : Nat, j ≤ 69 ∧ a = decFr x w.heap.size g (fun n => a.tmps.getD n undef) (.int .i64 j) ∧ Dc x g w j w'
def Dmu (a : Act) (_ : World) : Nat := (69 - intOf (a.tmps.getD 5 undef)).toNat

abbrev DQ (x : Int) (w : World) : Exit → Act → World → Prop := bodyPost Tryd.prog Tryd.f11 fun e w' => e = .returned (.tuple #[inV (W.decI x), .bool (W.decB x)]) ∧ Below w.heap.size w w'

end Go.Proofs.YthbcdlaejefkaaaDoor
