/- Texts in one: RefE6. -/
import Derived.Test.YtopehmpjfndgjaaJ34
/- What the document's Encode returns: shapes. -/
namespace Go.Proofs.Ytopehmpjfndgjaa
open Go.ChangeShapes Go.WideShapes Go.ChangeAt Go.RowKit
set_option linter.unusedVariables false
set_option linter.unusedSimpArgs false

set_option maxRecDepth 100000 in
set_option maxHeartbeats 6400000 in
theorem renc_s5 (op rd rs1 rs2 csr im : Int) (aq rl : Bool) (ro : Int) (nm : List UInt8) (oc f3 f7 : Int) (h3 h7 : Bool) (wh : Int) (w : World) (m0 : 0 ≤ im) (m1 : im < 4294967296) (o1 : 1 ≤ op) (o2 : op ≤ 69) (hr : Hid (W.rw (op.toNat - 1) = ⟨ro, nm, oc, f3, f7, h3, h7, 0, false, false, false, false, wh, false⟩)) (a1 : W.fr 0 rd 31 = true) (a2 : W.fr 0 rs1 31 = true) (a3 : W.fr 0 rs2 31 = true) (a4 : 0 ≤ csr) (a5 : csr ≤ 4095) : Calls Try.prog 21 #[inV ⟨op, rd, rs1, rs2, csr, im, aq, rl⟩] w fun e w' => e = .returned (.tuple #[.int .u32 (bif W.shOk ⟨ro, nm, oc, f3, f7, h3, h7, 0, false, false, false, false, wh, false⟩ ⟨op, rd, rs1, rs2, csr, im, aq, rl⟩ then W.rword ⟨ro, nm, oc, f3, f7, h3, h7, 0, false, false, false, false, wh, false⟩ ⟨op, rd, rs1, rs2, csr, im, aq, rl⟩ else 0), .int .i64 (bif W.shOk ⟨ro, nm, oc, f3, f7, h3, h7, 0, false, false, false, false, wh, false⟩ ⟨op, rd, rs1, rs2, csr, im, aq, rl⟩ then 0 else 104)]) ∧ Below w.heap.size w w' := by
  have O1 : Hid (1 ≤ op) := o1
  have O2 : Hid (op ≤ 69) := o2
  have M : Hid (0 ≤ im ∧ im < 4294967296) := (⟨m0, m1⟩ : 0 ≤ im ∧ im < 4294967296)
  clear o1 o2 m0 m1
  unfold inV
  go_enter Try.func21, Try.ntmps21
  go_wp2_with (first
    | (go_at_call 31; refine (of_some _ O1.out O2.out _).mono ?_; rintro e w1 ⟨rfl, hm⟩; have hb : Hid (Below w.heap.size w w1) := ((Below.refl _ _).alloc (Nat.le_refl _) _).trans (hm.mono (by simp)); have hlt : w.heap.size < w1.heap.size := (by have := hm.size; simp at this; omega); obtain ⟨x0, x1, x2, x3, x4, x5, x6, x7⟩ := (InAt.start w (⟨op, rd, rs1, rs2, csr, im, aq, rl⟩ : W.I) _).below hm; clear hm; rw [hr.out]; unfold rwV rwA)
    | (go_at_call 32; refine (layl_any _ _ _ M.out.1 M.out.2).mono ?_; rintro e w' ⟨rfl, rfl⟩)
    | (go_at_call 33; refine (reg_any _ _).mono ?_; rintro e w' ⟨rfl, rfl⟩)
    | (go_at_call 34; refine (word_any ⟨_, _, _, _, _, _, _, _, _, _, _, _, _, _⟩ ⟨_, _, _, _, _, _, _, _⟩ _ ?_ ?_).mono ?_; (first | exact M.out.1 | exact (by decide : (0 : Int) ≤ 0)); (first | exact M.out.2 | exact (by decide : (0 : Int) < 4294967296)); rintro e w3 ⟨rfl, hm3⟩; have hb3 : Hid (Below w.heap.size w w3) := (hb.out.alloc hb.out.size _).trans (hm3.mono (hb.out.alloc hb.out.size _).size); clear hm3))
  all_goals
    first
    | (have hs : W.shOk (⟨ro, nm, oc, f3, f7, h3, h7, 0, false, false, false, false, wh, false⟩) (⟨op, rd, rs1, rs2, csr, im, aq, rl⟩) = true := by simp [W.shOk, *]
       refine bodyPost_ret (v := .tuple #[.int .u32 (W.rword (⟨ro, nm, oc, f3, f7, h3, h7, 0, false, false, false, false, wh, false⟩) (⟨op, rd, rs1, rs2, csr, im, aq, rl⟩)), .int .i64 0]) ?_ rfl ⟨by rw [hs]; rfl, hb3.out⟩
       simp [results, Try.results21, go_sem, *])
    | (have hs : W.shOk (⟨ro, nm, oc, f3, f7, h3, h7, 0, false, false, false, false, wh, false⟩) (⟨op, rd, rs1, rs2, csr, im, aq, rl⟩) = false := by simp [W.shOk, *]
       exact bodyPost_ret (v := .tuple #[.int .u32 0, .int .i64 104]) (by simp [results, Try.results21, go_sem]) rfl ⟨by rw [hs]; rfl, hb.out.alloc hb.out.size _⟩)

end Go.Proofs.Ytopehmpjfndgjaa
