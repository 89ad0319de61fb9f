/- Spans: has, meets, share, within. -/
import Derived.Test.YtibohlbkkaghkaaDoorPpoM
import Derived.Test.YtibohlbkkaghkaaDoorDepA
namespace Go.Proofs.YtibohlbkkaghkaaDoor
open Go.ChangeShapes Go.WideShapes Go.ChangeAt Go.RowKit
set_option linter.unusedVariables false
set_option linter.unusedSimpArgs false

structure W.SpOk (s : W.Sp) : Prop where
  f0 : 0 ≤ s.f
  f1 : s.f < 4294967296
  s0 : 0 ≤ s.s
  s1 : s.s ≤ 4294967296
def spV (s : W.Sp) : Value := .agg #[.int .u32 s.f, .int .u64 s.s]
set_option maxHeartbeats 800000 in
theorem has_any (s : W.Sp) (x : Int) (hs : W.SpOk s) (x0 : 0 ≤ x) (x1 : x < 4294967296) (w : World) : Calls Tryd.prog 74 #[spV s, .int .u32 x] w fun e w' => e = .returned (.bool (W.has s x)) ∧ Below w.heap.size w w' := by
  obtain ⟨h1, h2, h3, h4⟩ := hs
  obtain ⟨f, z⟩ := s
  dsimp only at h1 h2 h3 h4
  unfold spV W.has
  dsimp only
  go_enter Tryd.func74, Tryd.ntmps74
  go_wp2
  go_ret
  exact ⟨rfl, (Below.refl _ _).alloc (Nat.le_refl _) _⟩
end Go.Proofs.YtibohlbkkaghkaaDoor
