/- What enc.Split and enc.Join return. -/
import Derived.Test.YthbcdlaejefkaaaDoorEnc
namespace Go.Proofs.YthbcdlaejefkaaaDoor
open Go.ChangeShapes Go.WideShapes Go.ChangeAt Go.RowKit
set_option linter.unusedVariables false

/-- The six fields of a word. -/
def headV (x : Int) : Value := .agg #[.int .u32 (W.bitsOf x 0 7), .int .u32 (W.bitsOf x 7 5), .int .u32 (W.bitsOf x 12 3), .int .u32 (W.bitsOf x 15 5), .int .u32 (W.bitsOf x 20 5), .int .u32 (W.bitsOf x 25 7)]
theorem drewN_alloc' (w : World) (o : Obj) : Below w.heap.size w (w.alloc o) := (Below.refl _ _).alloc (Nat.le_refl _) _

set_option maxHeartbeats 1600000 in
theorem split_any (x : Int) (w : World) :
    Calls Tryd.prog 45 #[.int .u32 x] w fun e w' => e = .returned (headV x) ∧ Below w.heap.size w w' := by
  go_enter Tryd.func45, Tryd.ntmps45
  go_wp2_with (go_at_call 46; refine (bits_any _ _ _ _).mono ?_; rintro e w' ⟨rfl, kq, rfl⟩)
  exact bodyPost_ret (v := headV x) (by simp [results, Tryd.results45, go_sem]; rfl) rfl ⟨rfl, ((((((below_drewN ((Below.refl _ _).alloc (Nat.le_refl _) _) _).setCell (Nat.le_refl _) _).setCell (Nat.le_refl _) _).setCell (Nat.le_refl _) _).setCell (Nat.le_refl _) _).setCell (Nat.le_refl _) _).setCell (Nat.le_refl _) _⟩

/-- Six numbers, by their place. -/
def six (a b c d e f : Int) (j : Nat) : Int := [a, b, c, d, e, f].getD j 0
theorem six_cells (w : World) (t : TypeId) (a b c d e f : Int) :
    (∀ j, j < 6 → (w.alloc (.cells #[.int .i64 0, .int .i64 7, .int .u32 a, .int .i64 7, .int .i64 5, .int .u32 b, .int .i64 12, .int .i64 3, .int .u32 c, .int .i64 15, .int .i64 5, .int .u32 d, .int .i64 20, .int .i64 5, .int .u32 e, .int .i64 25, .int .i64 7, .int .u32 f] t)).cell? ⟨w.heap.size, 0 + j * 3, none⟩ = some (.int .i64 (W.hL j)))
    ∧ (∀ j, j < 6 → (w.alloc (.cells #[.int .i64 0, .int .i64 7, .int .u32 a, .int .i64 7, .int .i64 5, .int .u32 b, .int .i64 12, .int .i64 3, .int .u32 c, .int .i64 15, .int .i64 5, .int .u32 d, .int .i64 20, .int .i64 5, .int .u32 e, .int .i64 25, .int .i64 7, .int .u32 f] t)).cell? ⟨w.heap.size, 0 + j * 3 + 1, none⟩ = some (.int .i64 (W.hN j)))
    ∧ (∀ j, j < 6 → (w.alloc (.cells #[.int .i64 0, .int .i64 7, .int .u32 a, .int .i64 7, .int .i64 5, .int .u32 b, .int .i64 12, .int .i64 3, .int .u32 c, .int .i64 15, .int .i64 5, .int .u32 d, .int .i64 20, .int .i64 5, .int .u32 e, .int .i64 25, .int .i64 7, .int .u32 f] t)).cell? ⟨w.heap.size, 0 + j * 3 + 2, none⟩ = some (.int .u32 (six a b c d e f j))) := by
  refine ⟨?_, ?_, ?_⟩
  all_goals
    intro j hj
    match j, hj with
    | 0, _ | 1, _ | 2, _ | 3, _ | 4, _ | 5, _ => simp [go_sem, W.hL, W.hN, six]

set_option maxHeartbeats 1600000 in
theorem join_any (a b c d e f : Int) (w : World) :
    Calls Tryd.prog 51 #[.agg #[.int .u32 a, .int .u32 b, .int .u32 c, .int .u32 d, .int .u32 e, .int .u32 f]] w fun e' w' => e' = .returned (.int .u32 (W.pack W.hL W.hN (six a b c d e f) 6)) ∧ Below w.heap.size w w' := by
  go_enter Tryd.func51, Tryd.ntmps51
  have hx := six_cells (w.alloc (.cells #[.int .u32 a, .int .u32 b, .int .u32 c, .int .u32 d, .int .u32 e, .int .u32 f] 83)) 88 a b c d e f
  go_wp2_with (go_at_call 49; refine (pack_any (w.heap.size + 1) 0 6 6 W.hL W.hN (six a b c d e f) _ (by decide) (by simp) (by simpa using hx.1) (by simpa using hx.2.1) (by simpa using hx.2.2)).mono ?_; clear hx; rintro e' w' ⟨rfl, hb⟩)
  go_ret
  exact ⟨rfl, (((Below.refl _ _).alloc (Nat.le_refl _) _).alloc (by simp) _).trans (hb.mono (by simp; omega))⟩

end Go.Proofs.YthbcdlaejefkaaaDoor
