/- wmo: the last writes of a byte. -/
import Derived.Test.YtibohlbkkaghkaaDoorWmoO
namespace Go.Proofs.YtibohlbkkaghkaaDoor
open Go.ChangeShapes Go.WideShapes Go.ChangeAt Go.RowKit Go.Maps
set_option linter.unusedVariables false
set_option linter.unusedSimpArgs false

namespace W
structure Rc where
  h : Int
  l : Int
  o : Int
def Rc.with' (r : Rc) (h p : Int) : Rc := ⟨h, p, bif h != r.h then r.l else r.o⟩
def Rc.notOf (r : Rc) (h : Int) : Int := bif h != r.h then r.l else r.o
end W
def rcV (r : W.Rc) : Value := .agg #[.int .i64 r.h, .int .i64 r.l, .int .i64 r.o]
theorem with_any (r : W.Rc) (h p : Int) (w : World) : Calls Tryd.prog 45 #[rcV r, .int .i64 h, .int .i64 p] w fun e w' => e = .returned (rcV (r.with' h p)) ∧ Below w.heap.size w w' := by
  obtain ⟨rh, rl, ro⟩ := r
  unfold rcV W.Rc.with'
  dsimp only
  cases hq : (h != rh)
  · go_enter Tryd.func45, Tryd.ntmps45
    go_wp2
    refine bodyPost_ret (v := .agg #[.int .i64 h, .int .i64 p, .int .i64 ro]) (by simp [results, Tryd.results45, go_sem]) rfl ⟨rfl, ?_⟩
    exact ((Below.refl _ _).alloc (Nat.le_refl _) _).alloc (by simp) _
  · go_enter Tryd.func45, Tryd.ntmps45
    go_wp2
    refine bodyPost_ret (v := .agg #[.int .i64 h, .int .i64 p, .int .i64 rl]) (by simp [results, Tryd.results45, go_sem]) rfl ⟨rfl, ?_⟩
    exact ((Below.refl _ _).alloc (Nat.le_refl _) _).alloc (by simp) _
theorem notOf_any (r : W.Rc) (h : Int) (w : World) : Calls Tryd.prog 55 #[rcV r, .int .i64 h] w fun e w' => e = .returned (.int .i64 (r.notOf h)) ∧ Below w.heap.size w w' := by
  obtain ⟨rh, rl, ro⟩ := r
  unfold rcV W.Rc.notOf
  dsimp only
  cases hq : (h != rh)
  · go_enter Tryd.func55, Tryd.ntmps55
    go_wp2
    go_ret
    exact ⟨rfl, (Below.refl _ _).alloc (Nat.le_refl _) _⟩
  · go_enter Tryd.func55, Tryd.ntmps55
    go_wp2
    go_ret
    exact ⟨rfl, (Below.refl _ _).alloc (Nat.le_refl _) _⟩
/-- How a map's element reads. -/
def rcD (r : W.Rc) : DataW Unit := .agg [.lit (.int .i64 r.h), .lit (.int .i64 r.l), .lit (.int .i64 r.o)]
def rcL (l : List Value) : Option W.Rc := match l with
  | [.int k a, .int k2 b, .int k3 c] => if k = .i64 ∧ k2 = .i64 ∧ k3 = .i64 then some ⟨a, b, c⟩ else none
  | _ => none
def rcE (v : Value) : Option (DataW Unit × List MemPlace) := match v with
  | .agg cs => (rcL cs.toList).map fun r => (rcD r, [])
  | _ => none
theorem rcE_mk (r : W.Rc) : rcE (rcV r) = some (rcD r, []) := rfl
theorem rcD_inj {r s : W.Rc} (h : rcD r = rcD s) : r = s := by
  obtain ⟨a, b, c⟩ := r
  obtain ⟨d, e, f⟩ := s
  simp [rcD] at h
  obtain ⟨h1, h2, h3⟩ := h
  subst h1 h2 h3
  rfl
theorem rcL_inv {l : List Value} {r : W.Rc} (h : rcL l = some r) : l = [.int .i64 r.h, .int .i64 r.l, .int .i64 r.o] := by
  unfold rcL at h
  split at h
  · rename_i k a k2 b k3 c
    split at h
    · rename_i e
      obtain ⟨rfl, rfl, rfl⟩ := e
      cases h
      rfl
    · cases h
  · cases h
theorem rcE_inv {v : Value} {r : W.Rc} {ps : List MemPlace} (h : rcE v = some (rcD r, ps)) : v = rcV r := by
  unfold rcE at h
  split at h
  · rename_i cs
    obtain ⟨s, hs, he⟩ := Option.map_eq_some_iff.1 h
    simp only [Prod.mk.injEq] at he
    rw [rcD_inj he.1] at hs
    have := rcL_inv hs
    unfold rcV
    congr 1
    rw [← Array.toArray_toList (xs := cs), this]
  · cases h
/-- A map of the last writes. -/
def Mr (B c : Nat) (L : Int → W.Rc) (w : World) : Prop := ∃ D : DataW Unit, w.ownsMap Tryd.prog 36 rcE B c D ∧ ∀ a, 0 ≤ a → a < 4294967296 → D.atKey (.int .u32 a) (rcD ⟨0, 0, 0⟩) = rcD (L a)
theorem zeroR (w : World) : (zeroValue 93).run Tryd.prog w = .ok (rcV ⟨0, 0, 0⟩) w := by kernel_rfl
theorem Mr.made (w : World) : Mr w.heap.size 0 (fun _ => ⟨0, 0, 0⟩) (w.alloc (.map #[] 0)) := ⟨.map [], World.ownsMap_made _ _ _ _, fun a _ _ => rfl⟩
theorem Mr.look {B c : Nat} {L : Int → W.Rc} {w : World} (h : Mr B c L w) (a : Int) (h0 : 0 ≤ a) (h1 : a < 4294967296) : (Instr.lookup 90 (.map (some B)) (.int .u32 a) false).run Tryd.prog w = .ok (rcV (L a)) w := by
  obtain ⟨D, hD, hL⟩ := h
  obtain ⟨v, ps, hr, hv⟩ := hD.lookup keyU Tryd.underlying90 (zeroR w) (rcE_mk ⟨0, 0, 0⟩) (keyOf_int_mk Tryd.underlying36 (wfU a h0 h1))
  rw [hL a h0 h1] at hv
  rw [hr, rcE_inv hv]
def updR (f : Int → W.Rc) (k : Int) (v : W.Rc) : Int → W.Rc := fun i => if i = k then v else f i
theorem Mr.put {B c : Nat} {L : Int → W.Rc} {w : World} (h : Mr B c L w) (hc : c < 100000) (a : Int) (v : W.Rc) (h0 : 0 ≤ a) (h1 : a < 4294967296) : ∃ w', (Instr.mapUpdate 90 (.map (some B)) (.int .u32 a) (rcV v)).run Tryd.prog w = .ok () w' ∧ Mr B (c + 1) (updR L a v) w' ∧ w.grownBy w' (some B) := by
  obtain ⟨D, hD, hL⟩ := h
  obtain ⟨w', hr, ho, hg⟩ := hD.update keyU Tryd.underlying90 (by unfold maxLen; omega) (keyOf_int_mk Tryd.underlying36 (wfU a h0 h1)) (rcE_mk v)
  refine ⟨w', hr, ⟨_, ho, fun b hb0 hb1 => ?_⟩, hg⟩
  unfold updR
  by_cases e : b = a
  · subst e
    rw [if_pos rfl, atKey_put_same hD.isMap (by simp [WideAt.IsKeyLit])]
  · rw [if_neg e, atKey_put_other (by simpa using e)]
    exact hL b hb0 hb1
theorem Mr.kept {B c : Nat} {L : Int → W.Rc} {w w' : World} {r : Option Nat} (h : Mr B c L w) (hg : w.grownBy w' r) (hne : some B ≠ r) : Mr B c L w' := by
  obtain ⟨D, hD, hL⟩ := h
  exact ⟨D, hD.kept hg hne, hL⟩
theorem gbelow {w w' : World} (h : Below w.heap.size w w') : w.grownBy w' none := ⟨h.os, h.tape, h.output, h.size, fun k hk _ => h.block k hk⟩
theorem Mr.below {B c : Nat} {L : Int → W.Rc} {w w' : World} (h : Mr B c L w) (hb : Below w.heap.size w w') : Mr B c L w' := h.kept (gbelow hb) (by simp)
end Go.Proofs.YtibohlbkkaghkaaDoor
