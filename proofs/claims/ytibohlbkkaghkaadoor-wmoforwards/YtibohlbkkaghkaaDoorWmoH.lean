/- wmo: steps in memory; a map of places. -/
import Derived.Test.YtibohlbkkaghkaaDoorWmoG
import Derived.Test.YtibohlbkkaghkaaDoorPpoU
import Derived.Maps.Own
import Derived.Maps.OwnOps
import Derived.Maps.Views
import Derived.Maps.OwnSet
namespace Go.Proofs.YtibohlbkkaghkaaDoor
open Go.ChangeShapes Go.WideShapes Go.ChangeAt Go.RowKit Go.Maps
set_option linter.unusedVariables false
set_option linter.unusedSimpArgs false

/-- A step. -/
structure StR where
  o : W.Opr
  s : S3
  ha : Int
  lr : Int
  fr : Nat → Int
def stF (q : Nat → StR) (i : Nat) : Value :=
  if i % 19 < 13 then opF (fun _ => W.oz0 (q (i / 19)).o) (fun _ => (q (i / 19)).s) (i % 19)
  else if i % 19 = 13 then .int .i64 (q (i / 19)).ha
  else if i % 19 = 14 then .int .i64 (q (i / 19)).lr
  else .int .i64 ((q (i / 19)).fr (i % 19 - 15))
def updQ (q : Nat → StR) (p : Nat) (z : StR) : Nat → StR := fun i => if i = p then z else q i
def updF (f : Nat → Int) (k : Nat) (v : Int) : Nat → Int := fun i => if i = k then v else f i
def updL (f : Int → Int) (k : Int) (v : Int) : Int → Int := fun i => if i = k then v else f i
/-- Steps in memory. -/
structure Sb2 (b N : Nat) (q : Nat → StR) (w : World) : Prop where
  b : Bc b (N * 19) (stF q) w
theorem Sb2.below {b N : Nat} {q : Nat → StR} {w w' : World} (h : Sb2 b N q w) (hb : Below w.heap.size w w') : Sb2 b N q w' := ⟨h.b.below hb⟩
theorem Sb2.cell {b N : Nat} {q : Nat → StR} {w : World} (h : Sb2 b N q w) (p k : Nat) (hp : p < N) (hk : k < 19) (v : Value) (hv : stF (fun _ => q p) k = v) : w.cell? ⟨b, p * 19 + k, none⟩ = some v := by
  rw [h.b.c (p * 19 + k) (by omega), ← hv]
  unfold stF
  rw [show (p * 19 + k) % 19 = k by omega, show (p * 19 + k) / 19 = p by omega, show k % 19 = k by omega]
theorem stF_upd (q : Nat → StR) (p k : Nat) (hk : k < 19) (z : StR) (v : Value) (hv : stF (fun _ => z) k = v) (he : ∀ i, i < 19 → i ≠ k → stF (fun _ => z) i = stF (fun _ => q p) i) (i : Nat) : updV (stF q) (p * 19 + k) v i = stF (updQ q p z) i := by
  have hc : ∀ (y : Nat → StR) i, stF y i = stF (fun _ => y (i / 19)) (i % 19) := fun y i => by
    unfold stF
    rw [Nat.mod_mod]
  unfold updV
  rw [hc (updQ q p z) i]
  unfold updQ
  by_cases e : i / 19 = p
  · rw [if_pos e]
    by_cases e2 : i % 19 = k
    · rw [if_pos (by omega), e2, hv]
    · rw [if_neg (by omega), hc q i, e, he (i % 19) (by omega) e2]
  · rw [if_neg e, if_neg (by omega), hc q i]
theorem Sb2.set {b N : Nat} {q : Nat → StR} {w : World} (h : Sb2 b N q w) (p k : Nat) (hk : k < 19) (z : StR) (v : Value) (hv : stF (fun _ => z) k = v) (he : ∀ i, i < 19 → i ≠ k → stF (fun _ => z) i = stF (fun _ => q p) i) : Sb2 b N (updQ q p z) (w.setCell ⟨b, p * 19 + k, none⟩ v) :=
  ⟨(h.b.set _ v).congr fun i _ => stF_upd q p k hk z v hv he i⟩
/-- .. one of the places that a byte comes from. -/
theorem Sb2.setF {b N : Nat} {q : Nat → StR} {w : World} (h : Sb2 b N q w) (p k : Nat) (hk : k < 4) (v : Int) : Sb2 b N (updQ q p { q p with fr := updF (q p).fr k v }) (w.setCell ⟨b, p * 19 + (15 + k), none⟩ (.int .i64 v)) := by
  refine h.set p (15 + k) (by omega) _ _ ?_ (fun i hi hne => ?_)
  · unfold stF updF
    rw [if_neg (by omega), if_neg (by omega), if_neg (by omega)]
    dsimp only
    rw [if_pos (by omega)]
  · unfold stF updF
    dsimp only
    by_cases h1 : i % 19 < 13
    · rw [if_pos h1, if_pos h1]
    · rw [if_neg h1, if_neg h1]
      by_cases h2 : i % 19 = 13
      · rw [if_pos h2, if_pos h2]
      · rw [if_neg h2, if_neg h2]
        by_cases h3 : i % 19 = 14
        · rw [if_pos h3, if_pos h3]
        · rw [if_neg h3, if_neg h3, if_neg (by omega)]
theorem Sb2.other {b N : Nat} {q : Nat → StR} {w w' : World} {r : Option Nat} (h : Sb2 b N q w) (hg : w.grownBy w' r) (hne : some b ≠ r) : Sb2 b N q w' := ⟨h.b.grown hg hne⟩
/-- A map of places. -/
def Mp (B c : Nat) (L : Int → Int) (w : World) : Prop := ∃ D : DataW Unit, w.ownsMap Tryd.prog 36 (plainElem Tryd.prog 3) B c D ∧ ∀ a, 0 ≤ a → a < 4294967296 → D.atKey (.int .u32 a) (.lit (.int .i64 0)) = .lit (.int .i64 (L a))
theorem keyU : Keyed Tryd.prog 36 := int_keyed Tryd.underlying36
theorem zeroI (w : World) : (zeroValue 3).run Tryd.prog w = .ok (.int .i64 0) w := by kernel_rfl
theorem wfU (a : Int) (h0 : 0 ≤ a) (h1 : a < 4294967296) : (Lit.int .u32 a).wf = true := by
  simp [Lit.wf, IntKind.min, IntKind.max, IntKind.signed, IntKind.bits]
  omega
theorem Mp.made (w : World) : Mp w.heap.size 0 (fun _ => 0) (w.alloc (.map #[] 0)) := ⟨.map [], World.ownsMap_made _ _ _ _, fun a _ _ => rfl⟩
theorem Mp.look {B c : Nat} {L : Int → Int} {w : World} (h : Mp B c L w) (a : Int) (h0 : 0 ≤ a) (h1 : a < 4294967296) : (Instr.lookup 102 (.map (some B)) (.int .u32 a) false).run Tryd.prog w = .ok (.int .i64 (L a)) w := by
  obtain ⟨D, hD, hL⟩ := h
  obtain ⟨v, hr, hat, _⟩ := hD.lookup_int keyU Tryd.underlying102 Tryd.underlying3 (zeroI w) (keyOf_int_mk Tryd.underlying36 (wfU a h0 h1))
  rw [hL a h0 h1] at hat
  simp only [DataW.lit.injEq, Lit.int.injEq, true_and] at hat
  rw [hr, hat]
theorem Mp.put {B c : Nat} {L : Int → Int} {w : World} (h : Mp B c L w) (hc : c < 100000) (a v : Int) (h0 : 0 ≤ a) (h1 : a < 4294967296) (v0 : -9223372036854775808 ≤ v) (v1 : v ≤ 9223372036854775807) : ∃ w', (Instr.mapUpdate 102 (.map (some B)) (.int .u32 a) (.int .i64 v)).run Tryd.prog w = .ok () w' ∧ Mp B (c + 1) (updL L a v) w' ∧ w.grownBy w' (some B) := by
  obtain ⟨D, hD, hL⟩ := h
  have wv : (Lit.int .i64 v).wf = true := by
    simp [Lit.wf, IntKind.min, IntKind.max, IntKind.signed, IntKind.bits]
    omega
  obtain ⟨w', hr, ho, hg⟩ := hD.update keyU Tryd.underlying102 (by unfold maxLen; omega) (keyOf_int_mk Tryd.underlying36 (wfU a h0 h1)) (plainElem_int Tryd.underlying3 wv)
  refine ⟨w', hr, ⟨_, ho, fun b hb0 hb1 => ?_⟩, hg⟩
  unfold updL
  by_cases e : b = a
  · subst e
    rw [if_pos rfl, atKey_put_same hD.isMap (by simp [WideAt.IsKeyLit])]
  · rw [if_neg e, atKey_put_other (by simpa using e)]
    exact hL b hb0 hb1
theorem Mp.kept {B c : Nat} {L : Int → Int} {w w' : World} {r : Option Nat} (h : Mp B c L w) (hg : w.grownBy w' r) (hne : some B ≠ r) : Mp B c L w' := by
  obtain ⟨D, hD, hL⟩ := h
  exact ⟨D, hD.kept hg hne, hL⟩
theorem Mp.lt {B c : Nat} {L : Int → Int} {w : World} (h : Mp B c L w) : B < w.heap.size := by
  obtain ⟨D, hD, _⟩ := h
  exact hD.lt
end Go.Proofs.YtibohlbkkaghkaaDoor
