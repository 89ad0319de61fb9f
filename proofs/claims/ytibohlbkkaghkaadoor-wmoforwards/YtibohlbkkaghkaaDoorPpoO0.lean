/- Clearing. -/
import Derived.Test.YtibohlbkkaghkaaDoorPpoN
import Derived.BigRegion
namespace Go.Proofs.YtibohlbkkaghkaaDoor
open Go.ChangeShapes Go.WideShapes Go.ChangeAt Go.RowKit
set_option linter.unusedVariables false
set_option maxRecDepth 100000
set_option linter.unusedSimpArgs false
variable {Φ : Nat → Option Obj}

theorem gsetCs (b : Nat) : ∀ (vs : List Value) (o : Nat) (w : World), w.grownBy (w.setCells b o vs) (some b)
  | [], o, w => ⟨rfl, rfl, rfl, Nat.le_refl _, fun _ _ _ => rfl⟩
  | v :: r, o, w => gtrans (gsetCell w b o v) (gsetCs b r (o + 1) _)
theorem Bc.many {b n : Nat} {f : Nat → Value} {w : World} (h : Bc b n f w) (k : Nat) (hk : k ≤ n) (v : Value) : Bc b n (fun j => if j < k then v else f j) (w.setCells b 0 (List.replicate k v)) := by
  refine ⟨Nat.lt_of_lt_of_le h.lt (gsetCs b _ 0 w).size, fun j hj => ?_, fun j => by rw [World.frozen?_setCells]; exact h.fz j⟩
  by_cases e : j < k
  · rw [if_pos e]
    have := World.cell?_setCells_in b (List.replicate k v) 0 w (fun i hi => by
      rw [Nat.zero_add, h.c i (by simp at hi; omega)]; rfl) j (by simpa using e)
    rw [Nat.zero_add] at this
    rw [this]
    simp
  · rw [if_neg e, World.cell?_setCells_out _ _ _ _ _ (by intro _ _; right; simp; omega)]
    exact h.c j hj
theorem LkF.clearR {w0 : World} {d : Kd} {w : World} (h : LkF Φ w0 d w) (k : Nat) (hk : k ≤ d.n) : LkF Φ w0 { d with R := fun j => if j < k then 0 else d.R j } (w.setCells d.rb 0 (List.replicate k (.int .u8 0))) :=
  h.onR (gsetCs _ _ _ _) _ ((h.r.many k hk (.int .u8 0)).congr fun j hj => by (try dsimp only); split <;> rfl)
theorem LkF.clearG {w0 : World} {d : Kd} {w : World} (h : LkF Φ w0 d w) (k : Nat) (hk : k ≤ d.n) : LkF Φ w0 { d with G := fun j => if j < k then 0 else d.G j } (w.setCells d.hb 0 (List.replicate k (.int .u8 0))) :=
  h.onG (gsetCs _ _ _ _) _ ((h.g.many k hk (.int .u8 0)).congr fun j hj => by (try dsimp only); split <;> rfl)
theorem zero46 (w : World) : (zeroValue 121).run Tryd.prog w = .ok (.int .u8 0) w := by kernel_rfl
theorem Bc.clears {b n : Nat} {f : Nat → Value} {w : World} (h : Bc b n f w) (k : Nat) (k0 : 0 < k) (hk : k ≤ n) (c : Nat) (ty : TypeId) : (Builtin.clear_ #[110] ty #[.slice (some ⟨b, 0, none⟩) k c]).run Tryd.prog w = .ok (.tuple #[]) (w.setCells b 0 (List.replicate k (.int .u8 0))) :=
  Lib.run_clear_slice w _ _ ty (.int .u8 0) Tryd.underlying110 zero46 rfl rfl b 0 k c k0 (fun j hj => by rw [Nat.zero_add, h.c j (by omega)]; rfl) (fun j hj => h.fz _)
theorem li_one (w : World) (T : TypeId) (x : Int) : Li ⟨some ⟨w.heap.size, 0, none⟩, 1, 1⟩ [x] (w.alloc (.cells #[.int .i64 x] T)) :=
  li_some rfl (by decide) (Nat.le_refl _) (by simp) (fun j y hy => by
    match j, hy with
    | 0, hy => simp at hy; subst hy; exact cell_of_row _ _ 0 _ T (0, 0) (heap_alloc_last w _))

theorem clear_none (b c : Nat) (w : World) (ty : TypeId) : (Builtin.clear_ #[110] ty #[.slice (some ⟨b, 0, none⟩) 0 c]).run Tryd.prog w = .ok (.tuple #[]) w := by kernel_rfl
theorem Bc.clears0 {b n : Nat} {f : Nat → Value} {w : World} (h : Bc b n f w) (k : Nat) (hk : k ≤ n) (c : Nat) (ty : TypeId) : (Builtin.clear_ #[110] ty #[.slice (some ⟨b, 0, none⟩) k c]).run Tryd.prog w = .ok (.tuple #[]) (w.setCells b 0 (List.replicate k (.int .u8 0))) := by
  cases k with
  | zero => exact clear_none b c w ty
  | succ k => exact h.clears (k + 1) (by omega) hk c ty
namespace W
/-- What hangs, over what was noted ahead. -/
def hangG (G : Nat → Int) (t pb : Int) (o : Oz) : Nat → Int :=
  let h := note 10 o.d (note 9 o.a (note 8 [pb] G))
  bif a8 t 2 != 0 then note 11 o.c h else h
def cl (b : Nat) (G : Nat → Int) (j : Nat) : Int := if j < b then 0 else G j
end W
theorem own_cut {w : World} {base : Nat} {e : TypeId} {size n hg hc : Nat} {xs : List Value} (h : w.ownsRow base e size (.slice (some ⟨hg, 0, none⟩) n hc) n xs) : w.ownsRow base e size (.slice (some ⟨hg, 0, none⟩) 0 hc) 0 [] := by
  obtain ⟨h1, h2⟩ := h
  refine ⟨by simp, Or.inr ?_⟩
  rcases h2 with ⟨h2, _⟩ | ⟨g, cap, cur, h2, h3, h4, h5, h6, h7, h8⟩
  · cases h2
  · cases h2
    exact ⟨hg, hc, cur, rfl, h3, h4, by omega, h6, h7, by simp⟩
end Go.Proofs.YtibohlbkkaghkaaDoor
