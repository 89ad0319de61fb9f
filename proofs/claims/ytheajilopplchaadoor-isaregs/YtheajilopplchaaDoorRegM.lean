/- Numbers for IsaRegs: the word of an instruction with registers alone. -/
import Derived.Test.YtheajilopplchaaDoorMath10
namespace Go.Proofs.YtheajilopplchaaDoor.W
open Go.RowKit
set_option linter.unusedVariables false
set_option linter.unusedSimpArgs false

def opsT : List Int := [28, 29, 30, 31, 32, 33, 34, 35, 36, 37, 51, 52, 53, 54, 55, 56, 57, 58]
def f3T : List Int := [0, 0, 1, 2, 3, 4, 5, 5, 6, 7, 0, 1, 2, 3, 4, 5, 6, 7]
theorem ring (x : Int) : 0 ≤ (wrap64 (x.tmod 32 + 32)).tmod 32 ∧ (wrap64 (x.tmod 32 + 32)).tmod 32 ≤ 31 := by
  have h1 : -32 < x.tmod 32 := by have := Int.lt_tmod_of_pos x (show (0 : Int) < 32 by decide); omega
  have h2 : x.tmod 32 < 32 := Int.tmod_lt_of_pos x (by decide)
  have e : wrap64 (x.tmod 32 + 32) = x.tmod 32 + 32 := by unfold wrap64; omega
  rw [e, Int.tmod_eq_emod_of_nonneg (by omega)]
  omega
def okr (k : Nat) (F3 F7 : Int) : Bool := known k && (layIB (shp k) 0 && ((shp k).rd && ((shp k).rs1 && ((shp k).rs2 && (!(hasImm (shp k)) && ((layIV (shp k) 0 == 0) && (decide (0 ≤ code k ∧ code k < 4294967296) && (decide (0 ≤ F3 ∧ F3 < 8 ∧ 0 ≤ F7 ∧ F7 < 128) &&
  (List.range 32).all fun p => tb (code k) p == (tb 51 p || (tb (F3 * 4096) p || tb (F7 * 33554432) p))))))))))
theorem reg_at (v : Int) (l : Nat) (h0 : 0 ≤ v) (h1 : v ≤ 31) (hl : l ≤ 31) : placed v l 5 = v * 2 ^ l % 4294967296 := by
  have hw : within l 5 = true := by simp [within]; omega
  have e : bits .and .u32 v (lowest 5) = v := by
    rw [lowest_eq 5 (by decide)]
    have := low_and v 5 (by decide) h0 (by omega)
    rw [show min (5 : Int).toNat 32 = 5 from rfl, this]
    omega
  rw [placed, hw, cond_true, place, e]
  simp
theorem regs_enc (k : Nat) (F3 F7 r a b : Int) (r0 : 0 ≤ r) (r1 : r ≤ 31) (a0 : 0 ≤ a) (a1 : a ≤ 31) (b0 : 0 ≤ b) (b1 : b ≤ 31) (hk : okr k F3 F7 = true) :
    encE ⟨k, r, a, b, 0, 0, false, false⟩ = 0 ∧ encV ⟨k, r, a, b, 0, 0, false, false⟩ = bits .or .u32 (bits .or .u32 (bits .or .u32 (bits .or .u32 (bits .or .u32 51 (r * 128 % 4294967296)) (F3 * 4096)) (a * 32768 % 4294967296)) (b * 1048576 % 4294967296)) (F7 * 33554432) := by
  simp only [okr, Bool.and_eq_true, Bool.not_eq_true', decide_eq_true_eq, beq_iff_eq] at hk
  obtain ⟨k1, k2, k3, k4, k5, k6, k7, k8, k9, k10⟩ := hk
  have hr : inRange ⟨k, r, a, b, 0, 0, false, false⟩ = true := by simp [inRange, fr]; omega
  have hs : same (only (shp k) ⟨k, r, a, b, 0, 0, false, false⟩) ⟨k, r, a, b, 0, 0, false, false⟩ = true := by simp [same, only, k3, k4, k5, k6]
  have hE : encE ⟨k, r, a, b, 0, 0, false, false⟩ = 0 := by
    simp only [encE, k1, k2, hr, hs, Bool.and_self, cond_true]
  refine ⟨hE, ?_⟩
  have hV : encV ⟨k, r, a, b, 0, 0, false, false⟩ = encW (code k) (shp k) ⟨k, r, a, b, 0, 0, false, false⟩ := by
    rw [encV, hE]; rfl
  rw [hV]
  have P1 := reg_at r 7 r0 r1 (by decide)
  have P2 := reg_at a 15 a0 a1 (by decide)
  have P3 := reg_at b 20 b0 b1 (by decide)
  refine eq_of_tb _ _ (encW_lt _ _ _).1 (encW_lt _ _ _).2 (or_lt _ _).1 (or_lt _ _).2 fun p hp => ?_
  rw [tb_encW _ _ _ k8.1 k8.2 (inR_of hr) p hp]
  have hc := List.all_eq_true.1 k10 p (List.mem_range.2 hp)
  rw [beq_iff_eq] at hc
  have o1 := or_lt 51 (r * 128 % 4294967296)
  have o2 := or_lt (bits .or .u32 51 (r * 128 % 4294967296)) (F3 * 4096)
  have o3 := or_lt (bits .or .u32 (bits .or .u32 51 (r * 128 % 4294967296)) (F3 * 4096)) (a * 32768 % 4294967296)
  have o4 := or_lt (bits .or .u32 (bits .or .u32 (bits .or .u32 51 (r * 128 % 4294967296)) (F3 * 4096)) (a * 32768 % 4294967296)) (b * 1048576 % 4294967296)
  rw [tb_or _ _ p o4.1 o4.2 (by omega) (by omega), tb_or _ _ p o3.1 o3.2 (by omega) (by omega), tb_or _ _ p o2.1 o2.2 (by omega) (by omega), tb_or _ _ p o1.1 o1.2 (by omega) (by omega), tb_or _ _ p (by decide) (by decide) (by omega) (by omega), hc]
  have q1 : (r * 128 % 4294967296) = placed r 7 5 := P1.symm
  have q2 : (a * 32768 % 4294967296) = placed a 15 5 := P2.symm
  have q3 : (b * 1048576 % 4294967296) = placed b 20 5 := P3.symm
  rw [q1, q2, q3]
  have z1 := tb_placed0 20 12 p hp
  have z2 := tb_placed0 26 1 p hp
  have z3 := tb_placed0 25 1 p hp
  have ez : one false = 0 := rfl
  simp only [List.range, List.range.loop, List.any_cons, List.any_nil, part, z1, z2, z3, ez, k7, tb_zero, Bool.or_false]
  cases tb 51 p <;> cases tb (placed r 7 5) p <;> cases tb (F3 * 4096) p <;> cases tb (placed a 15 5) p <;> cases tb (placed b 20 5) p <;> cases tb (F7 * 33554432) p <;> rfl
end Go.Proofs.YtheajilopplchaaDoor.W
