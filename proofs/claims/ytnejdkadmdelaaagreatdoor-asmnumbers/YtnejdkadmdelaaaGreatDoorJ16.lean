/- Texts in one: RefW. -/
import Derived.Test.YtnejdkadmdelaaaGreatDoorJ15
/- What the document's word returns. -/
namespace Go.Proofs.YtnejdkadmdelaaaGreatDoor
open Go.ChangeShapes Go.WideShapes Go.ChangeAt Go.RowKit
set_option linter.unusedVariables false
set_option linter.unusedSimpArgs false

namespace W
def rtail (r : Rw) (i : I) (h : Int) : Int := bits .or .u32 (bits .or .u32 (bits .or .u32 (bits .or .u32 (bits .or .u32 h (rlayV r.fm i.imm)) (i.rd % 4294967296 * 128 % 4294967296)) (i.rs1 % 4294967296 * 32768 % 4294967296)) (i.rs2 % 4294967296 * 1048576 % 4294967296)) (i.csr % 4294967296 * 1048576 % 4294967296)
def rhead (r : Rw) : Int := bits .or .u32 r.oc (r.f3 * 4096 % 4294967296)
def raq (b : Bool) (h : Int) : Int := bif b then bits .or .u32 h 67108864 else h
def rrl (b : Bool) (h : Int) : Int := bif b then bits .or .u32 h 33554432 else h
def rword (r : Rw) (i : I) : Int := bif r.wh != 0 then r.wh else rtail r i (bif r.pair then rrl i.rl (raq i.aq (bits .or .u32 (rhead r) (r.f7 * 134217728 % 4294967296))) else bits .or .u32 (rhead r) (r.f7 * 33554432 % 4294967296))
end W

set_option maxRecDepth 100000 in
set_option maxHeartbeats 3200000 in
theorem word_any (r : W.Rw) (i : W.I) (w : World) (m0 : 0 ≤ i.imm) (m1 : i.imm < 4294967296) : Calls Tryz.prog 30 #[rwV r, inV i] w fun e w' => e = .returned (.int .u32 (W.rword r i)) ∧ Below w.heap.size w w' := by
  have hb : Hid (Below w.heap.size w w) := Below.refl _ _
  unfold rwV rwA inV
  cases h : (r.wh != 0)
  case true =>
    have hv : Hid (W.rword r i = r.wh) := (by rw [W.rword, h]; rfl : W.rword r i = r.wh)
    go_enter Tryz.func30, Tryz.ntmps30
    go_wp2
    go_ret
    exact ⟨ret_int hv.out.symm, (hb.out.alloc hb.out.size _).alloc (by simp) _⟩
  cases hp : r.pair
  case false =>
    have hv : Hid (W.rword r i = W.rtail r i (bits .or .u32 (W.rhead r) (r.f7 * 33554432 % 4294967296))) := (by rw [W.rword, h, hp]; rfl : W.rword r i = _)
    go_enter Tryz.func30, Tryz.ntmps30
    go_wp2_with (go_at_call 28; refine (layl_any _ _ _ m0 m1).mono ?_; rintro e w' ⟨rfl, rfl⟩)
    go_ret
    exact ⟨ret_int hv.out.symm, (hb.out.alloc hb.out.size _).alloc (by simp) _⟩
  cases ha : i.aq <;> cases hl : i.rl
  all_goals
    have hv : Hid (W.rword r i = W.rtail r i (W.rrl i.rl (W.raq i.aq (bits .or .u32 (W.rhead r) (r.f7 * 134217728 % 4294967296))))) := (by rw [W.rword, h, hp]; rfl : W.rword r i = _)
    go_enter Tryz.func30, Tryz.ntmps30
    go_wp2_with (go_at_call 28; refine (layl_any _ _ _ m0 m1).mono ?_; rintro e w' ⟨rfl, rfl⟩)
    go_ret
    refine ⟨ret_int ?_, (hb.out.alloc hb.out.size _).alloc (by simp) _⟩
    rw [hv.out, ha, hl]
    rfl
end Go.Proofs.YtnejdkadmdelaaaGreatDoor
