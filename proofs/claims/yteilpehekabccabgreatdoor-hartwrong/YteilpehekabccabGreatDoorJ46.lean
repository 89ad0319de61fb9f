/- Texts in one: RefE6, RefF, HartP2, HartL5. -/
import Derived.Test.YteilpehekabccabGreatDoorJ33
import Derived.Test.YteilpehekabccabGreatDoorJ34
import Derived.Test.YteilpehekabccabGreatDoorJ38
import Derived.Test.YteilpehekabccabGreatDoorJ39
import Derived.Test.YteilpehekabccabGreatDoorJ40
import Derived.Test.YteilpehekabccabGreatDoorJ41
import Derived.Test.YteilpehekabccabGreatDoorJ42
import Derived.Test.YteilpehekabccabGreatDoorJ43
import Derived.Test.YteilpehekabccabGreatDoorJ44
import Derived.Test.YteilpehekabccabGreatDoorJ45
/- What the document's Encode returns: shapes. -/
namespace Go.Proofs.YteilpehekabccabGreatDoor
open Go.ChangeShapes Go.WideShapes Go.ChangeAt Go.RowKit
set_option linter.unusedVariables false
set_option linter.unusedSimpArgs false

set_option maxRecDepth 100000 in
set_option maxHeartbeats 6400000 in
theorem renc_s5 (op rd rs1 rs2 csr im : Int) (aq rl : Bool) (ro : Int) (nm : List UInt8) (oc f3 f7 : Int) (h3 h7 : Bool) (wh : Int) (w : World) (m0 : 0 ≤ im) (m1 : im < 4294967296) (o1 : 1 ≤ op) (o2 : op ≤ 69) (hr : Hid (W.rw (op.toNat - 1) = ⟨ro, nm, oc, f3, f7, h3, h7, 0, false, false, false, false, wh, false⟩)) (a1 : W.fr 0 rd 31 = true) (a2 : W.fr 0 rs1 31 = true) (a3 : W.fr 0 rs2 31 = true) (a4 : 0 ≤ csr) (a5 : csr ≤ 4095) : Calls Tryz.prog 13 #[inV ⟨op, rd, rs1, rs2, csr, im, aq, rl⟩] w fun e w' => e = .returned (.tuple #[.int .u32 (bif W.shOk ⟨ro, nm, oc, f3, f7, h3, h7, 0, false, false, false, false, wh, false⟩ ⟨op, rd, rs1, rs2, csr, im, aq, rl⟩ then W.rword ⟨ro, nm, oc, f3, f7, h3, h7, 0, false, false, false, false, wh, false⟩ ⟨op, rd, rs1, rs2, csr, im, aq, rl⟩ else 0), .int .i64 (bif W.shOk ⟨ro, nm, oc, f3, f7, h3, h7, 0, false, false, false, false, wh, false⟩ ⟨op, rd, rs1, rs2, csr, im, aq, rl⟩ then 0 else 104)]) ∧ Below w.heap.size w w' := by
  have O1 : Hid (1 ≤ op) := o1
  have O2 : Hid (op ≤ 69) := o2
  have M : Hid (0 ≤ im ∧ im < 4294967296) := (⟨m0, m1⟩ : 0 ≤ im ∧ im < 4294967296)
  clear o1 o2 m0 m1
  unfold inV
  go_enter Tryz.func13, Tryz.ntmps13
  go_wp2_with (first
    | (go_at_call 18; refine (of_some _ O1.out O2.out _).mono ?_; rintro e w1 ⟨rfl, hm⟩; have hb : Hid (Below w.heap.size w w1) := ((Below.refl _ _).alloc (Nat.le_refl _) _).trans (hm.mono (by simp)); have hlt : w.heap.size < w1.heap.size := (by have := hm.size; simp at this; omega); obtain ⟨x0, x1, x2, x3, x4, x5, x6, x7⟩ := (InAt.start w (⟨op, rd, rs1, rs2, csr, im, aq, rl⟩ : W.I) _).below hm; clear hm; rw [hr.out]; unfold rwV rwA)
    | (go_at_call 19; refine (layl_any _ _ _ M.out.1 M.out.2).mono ?_; rintro e w' ⟨rfl, rfl⟩)
    | (go_at_call 20; refine (reg_any _ _).mono ?_; rintro e w' ⟨rfl, rfl⟩)
    | (go_at_call 21; refine (word_any ⟨_, _, _, _, _, _, _, _, _, _, _, _, _, _⟩ ⟨_, _, _, _, _, _, _, _⟩ _ ?_ ?_).mono ?_; (first | exact M.out.1 | exact (by decide : (0 : Int) ≤ 0)); (first | exact M.out.2 | exact (by decide : (0 : Int) < 4294967296)); rintro e w3 ⟨rfl, hm3⟩; have hb3 : Hid (Below w.heap.size w w3) := (hb.out.alloc hb.out.size _).trans (hm3.mono (hb.out.alloc hb.out.size _).size); clear hm3))
  all_goals
    first
    | (have hs : W.shOk (⟨ro, nm, oc, f3, f7, h3, h7, 0, false, false, false, false, wh, false⟩) (⟨op, rd, rs1, rs2, csr, im, aq, rl⟩) = true := by simp [W.shOk, *]
       refine bodyPost_ret (v := .tuple #[.int .u32 (W.rword (⟨ro, nm, oc, f3, f7, h3, h7, 0, false, false, false, false, wh, false⟩) (⟨op, rd, rs1, rs2, csr, im, aq, rl⟩)), .int .i64 0]) ?_ rfl ⟨by rw [hs]; rfl, hb3.out⟩
       simp [results, Tryz.results13, go_sem, *])
    | (have hs : W.shOk (⟨ro, nm, oc, f3, f7, h3, h7, 0, false, false, false, false, wh, false⟩) (⟨op, rd, rs1, rs2, csr, im, aq, rl⟩) = false := by simp [W.shOk, *]
       exact bodyPost_ret (v := .tuple #[.int .u32 0, .int .i64 104]) (by simp [results, Tryz.results13, go_sem]) rfl ⟨by rw [hs]; rfl, hb.out.alloc hb.out.size _⟩)

end Go.Proofs.YteilpehekabccabGreatDoor

/- What the document's Encode returns, of whatever instruction. -/
namespace Go.Proofs.YteilpehekabccabGreatDoor
open Go.ChangeShapes Go.WideShapes Go.ChangeAt Go.RowKit
set_option linter.unusedVariables false
set_option linter.unusedSimpArgs false

namespace W
theorem beq0 (a : Int) : ((0 : Int) == a) = (a == 0) := by rw [Bool.eq_iff_iff, beq_iff_eq, beq_iff_eq]; exact eq_comm
theorem fm_imm {fm : Int} {s : Sh} (h : fmOk fm s = true) : hasImm s = !(fm == 0) := by
  rcases fmOk_cases h with ⟨rfl, hi⟩ | ⟨rfl, a, b, c⟩ | ⟨rfl, a, b, c⟩ | ⟨rfl, a, b, c⟩ | ⟨hf, a, b⟩
  · rw [hi]; rfl
  · rw [hasImm_size c (by omega)]; rfl
  · rw [hasImm_size c (by omega)]; rfl
  · rw [hasImm_size c (by omega)]; rfl
  · rw [(layIB_f hf a b).1, (isF_odd hf).1]; rfl
theorem shOk_eq {k : Nat} (hk : k < 69) (i : I) : shOk (rw k) i = same (only (shp ((k + 1 : Nat) : Int)) i) i := by
  have hrw := List.all_eq_true.1 rwOkAll k (List.mem_range.2 hk)
  rw [rwOk, Bool.and_eq_true] at hrw
  have hi := fm_imm hrw.1
  have hf : ((rw k).fm == 0) = !hasImm (shp ((k + 1 : Nat) : Int)) := by rw [hi, Bool.not_not]
  unfold shOk same only
  rw [hf]
  show (((shp ((k + 1 : Nat) : Int)).rd || i.rd == 0) && (((shp ((k + 1 : Nat) : Int)).rs1 || i.rs1 == 0) && (((shp ((k + 1 : Nat) : Int)).rs2 || i.rs2 == 0) && (((shp ((k + 1 : Nat) : Int)).csr || i.csr == 0) && ((!!hasImm (shp ((k + 1 : Nat) : Int)) || i.imm == 0) && ((shp ((k + 1 : Nat) : Int)).ord || (!i.aq && !i.rl))))))) = _
  cases (shp ((k + 1 : Nat) : Int)).rd <;> cases (shp ((k + 1 : Nat) : Int)).rs1 <;> cases (shp ((k + 1 : Nat) : Int)).rs2 <;> cases (shp ((k + 1 : Nat) : Int)).csr <;> cases hasImm (shp ((k + 1 : Nat) : Int)) <;> cases (shp ((k + 1 : Nat) : Int)).ord <;> cases i.aq <;> cases i.rl <;> simp [beq0]
end W

theorem renc_any (i : W.I) (w : World) (m0 : 0 ≤ i.imm) (m1 : i.imm < 4294967296) : Calls Tryz.prog 13 #[inV i] w fun e w' => e = .returned (.tuple #[.int .u32 (W.encV i), .int .i64 (num (W.encE i))]) ∧ Below w.heap.size w w' := by
  by_cases hk : 1 ≤ i.op ∧ i.op ≤ 69
  case neg =>
    have h1 : W.known i.op = false := by
      cases h : W.known i.op
      · rfl
      · exact absurd (by simpa [W.known, W.fr] using h) hk
    have e : W.encE i = 1 := by simp [W.encE, h1]
    rw [W.encV, e]
    exact renc_kind i w hk
  obtain ⟨o1, o2⟩ := hk
  have h1 : W.known i.op = true := by simp [W.known, W.fr, o1, o2]
  obtain ⟨k, hk, hop, hto⟩ : ∃ k : Nat, k < 69 ∧ i.op = ((k + 1 : Nat) : Int) ∧ i.op.toNat - 1 = k := ⟨i.op.toNat - 1, by omega, by omega, rfl⟩
  have hrw := List.all_eq_true.1 W.rwOkAll k (List.mem_range.2 hk)
  rw [W.rwOk, Bool.and_eq_true] at hrw
  have hlay := W.rlayB_eq hrw.1 i.imm m0 m1
  have bad : (W.layIB (W.shp i.op) i.imm && W.inRange i) = false → W.encV i = 0 ∧ num (W.encE i) = 106 := fun h => by
    have e : W.encE i = 2 := by rw [W.encE, h1, h]; rfl
    rw [W.encV, e]; exact ⟨rfl, rfl⟩
  rw [hop] at bad
  have hr : Hid (W.rw (i.op.toNat - 1) = W.rw k) := by
    have : W.rw (i.op.toNat - 1) = W.rw k := by rw [hto]
    exact this
  cases a1 : W.fr 0 i.rd 31
  · rw [(bad (by simp [W.inRange, a1])).1, (bad (by simp [W.inRange, a1])).2]
    exact renc_r1 i _ w m0 m1 o1 o2 hr a1
  cases a2 : W.fr 0 i.rs1 31
  · rw [(bad (by simp [W.inRange, a2])).1, (bad (by simp [W.inRange, a2])).2]
    exact renc_r2 i _ w m0 m1 o1 o2 hr a1 a2
  cases a3 : W.fr 0 i.rs2 31
  · rw [(bad (by simp [W.inRange, a3])).1, (bad (by simp [W.inRange, a3])).2]
    exact renc_r3 i _ w m0 m1 o1 o2 hr a1 a2 a3
  by_cases a4 : i.csr < 0
  · have hc : W.fr 0 i.csr 4095 = false := by simp [W.fr]; omega
    rw [(bad (by simp [W.inRange, hc])).1, (bad (by simp [W.inRange, hc])).2]
    exact renc_r4 i _ w m0 m1 o1 o2 hr a1 a2 a3 a4
  by_cases a5 : 4095 < i.csr
  · have hc : W.fr 0 i.csr 4095 = false := by simp [W.fr]; omega
    rw [(bad (by simp [W.inRange, hc])).1, (bad (by simp [W.inRange, hc])).2]
    exact renc_r5 i _ w m0 m1 o1 o2 hr a1 a2 a3 (by omega) a5
  have a4' : 0 ≤ i.csr := by omega
  have a5' : i.csr ≤ 4095 := by omega
  have hin : W.inRange i = true := by
    have hc : W.fr 0 i.csr 4095 = true := by simp [W.fr]; omega
    simp [W.inRange, a1, a2, a3, hc]
  have fin : W.layIB (W.shp i.op) i.imm = true → W.encV i = (bif W.shOk (W.rw k) i then W.rword (W.rw k) i else 0) ∧ num (W.encE i) = (bif W.shOk (W.rw k) i then 0 else 104) := fun h => by
    have e : W.encE i = bif W.shOk (W.rw k) i then 0 else 3 := by rw [W.encE, h1, h, hin, W.shOk_eq hk, hop]; rfl
    cases hs : W.shOk (W.rw k) i
    · rw [hs] at e
      have e : W.encE i = 3 := e
      rw [W.encV, e]; exact ⟨rfl, rfl⟩
    · rw [hs] at e
      have e : W.encE i = 0 := e
      rw [cond_true, cond_true, W.rword_enc hk hop m0 m1 e, e]; exact ⟨rfl, rfl⟩
  rw [hop] at fin
  have hsh : W.okSh (W.shp ((k + 1 : Nat) : Int)) = true := W.okSh_shp _
  have hhi := W.fm_imm hrw.1
  generalize hR : W.rw k = r at *
  obtain ⟨ro, nm, oc, f3, f7, h3, h7, fm, rd, rs1, rs2, csr, wh, pair⟩ := r
  have e1 : (W.shp ((k + 1 : Nat) : Int)).rd = rd := congrArg W.Rw.rd hR
  have e2 : (W.shp ((k + 1 : Nat) : Int)).rs1 = rs1 := congrArg W.Rw.rs1 hR
  have e3 : (W.shp ((k + 1 : Nat) : Int)).rs2 = rs2 := congrArg W.Rw.rs2 hR
  have e4 : (W.shp ((k + 1 : Nat) : Int)).csr = csr := congrArg W.Rw.csr hR
  have e5 : (W.shp ((k + 1 : Nat) : Int)).ord = pair := congrArg W.Rw.pair hR
  rw [W.okSh, e1, e2, e3, e4, e5, hhi] at hsh
  clear e1 e2 e3 e4 e5 hR hrw hhi
  have hlay : W.layIB (W.shp ((k + 1 : Nat) : Int)) i.imm = (fm == 0 || W.rlayB fm i.imm) := hlay
  cases hf : (fm == 0)
  case false =>
    rw [hf, Bool.false_or] at hlay
    have hf' : (fm != 0) = true := by rw [bne, hf]; rfl
    cases a6 : W.rlayB fm i.imm
    · rw [a6] at hlay
      rw [(bad (by rw [hlay]; rfl)).1, (bad (by rw [hlay]; rfl)).2]
      exact renc_r6 i _ w m0 m1 o1 o2 hr a1 a2 a3 a4' a5' hf' a6
    rw [a6] at hlay
    rw [(fin hlay).1, (fin hlay).2]
    obtain ⟨op, ird, irs1, irs2, icsr, im, aq, rl⟩ := i
    have hsh : [(true, false, false, false, false, true), (true, true, false, false, false, true), (false, true, true, false, false, true), (true, true, true, false, false, false), (false, false, false, false, false, true), (false, false, false, false, false, false), (false, true, true, false, false, false), (true, true, false, true, false, false), (true, false, false, true, false, true), (true, true, false, false, true, false), (true, true, true, false, true, false)].contains (rd, rs1, rs2, csr, pair, !(fm == 0)) = true := hsh
    rw [hf] at hsh
    simp only [List.contains_cons, List.contains_nil, Bool.or_eq_true, beq_iff_eq, Prod.mk.injEq, Bool.or_false, Bool.not_false, Bool.true_eq_false, and_false, or_false, false_or, and_true, Bool.false_eq_true] at hsh
    rcases hsh with ⟨rfl, rfl, rfl, rfl, rfl⟩ | ⟨rfl, rfl, rfl, rfl, rfl⟩ | ⟨rfl, rfl, rfl, rfl, rfl⟩ | ⟨rfl, rfl, rfl, rfl, rfl⟩ | ⟨rfl, rfl, rfl, rfl, rfl⟩
    · exact renc_s0 op ird irs1 irs2 icsr im aq rl ro nm oc f3 f7 h3 h7 fm wh w m0 m1 o1 o2 hr a1 a2 a3 a4' a5' hf' hf a6
    · exact renc_s1 op ird irs1 irs2 icsr im aq rl ro nm oc f3 f7 h3 h7 fm wh w m0 m1 o1 o2 hr a1 a2 a3 a4' a5' hf' hf a6
    · exact renc_s2 op ird irs1 irs2 icsr im aq rl ro nm oc f3 f7 h3 h7 fm wh w m0 m1 o1 o2 hr a1 a2 a3 a4' a5' hf' hf a6
    · exact renc_s4 op ird irs1 irs2 icsr im aq rl ro nm oc f3 f7 h3 h7 fm wh w m0 m1 o1 o2 hr a1 a2 a3 a4' a5' hf' hf a6
    · exact renc_s8 op ird irs1 irs2 icsr im aq rl ro nm oc f3 f7 h3 h7 fm wh w m0 m1 o1 o2 hr a1 a2 a3 a4' a5' hf' hf a6
  case true =>
    obtain rfl := beq_iff_eq.1 hf
    rw [hf, Bool.true_or] at hlay
    rw [(fin hlay).1, (fin hlay).2]
    obtain ⟨op, ird, irs1, irs2, icsr, im, aq, rl⟩ := i
    have hsh : [(true, false, false, false, false, true), (true, true, false, false, false, true), (false, true, true, false, false, true), (true, true, true, false, false, false), (false, false, false, false, false, true), (false, false, false, false, false, false), (false, true, true, false, false, false), (true, true, false, true, false, false), (true, false, false, true, false, true), (true, true, false, false, true, false), (true, true, true, false, true, false)].contains (rd, rs1, rs2, csr, pair, false) = true := hsh
    simp only [List.contains_cons, List.contains_nil, Bool.or_eq_true, beq_iff_eq, Prod.mk.injEq, Bool.or_false, Bool.not_false, Bool.true_eq_false, and_false, or_false, false_or, and_true, Bool.false_eq_true] at hsh
    rcases hsh with ⟨rfl, rfl, rfl, rfl, rfl⟩ | ⟨rfl, rfl, rfl, rfl, rfl⟩ | ⟨rfl, rfl, rfl, rfl, rfl⟩ | ⟨rfl, rfl, rfl, rfl, rfl⟩ | ⟨rfl, rfl, rfl, rfl, rfl⟩ | ⟨rfl, rfl, rfl, rfl, rfl⟩
    · exact renc_s3 op ird irs1 irs2 icsr im aq rl ro nm oc f3 f7 h3 h7 wh w m0 m1 o1 o2 hr a1 a2 a3 a4' a5'
    · exact renc_s5 op ird irs1 irs2 icsr im aq rl ro nm oc f3 f7 h3 h7 wh w m0 m1 o1 o2 hr a1 a2 a3 a4' a5'
    · exact renc_s6 op ird irs1 irs2 icsr im aq rl ro nm oc f3 f7 h3 h7 wh w m0 m1 o1 o2 hr a1 a2 a3 a4' a5'
    · exact renc_s7 op ird irs1 irs2 icsr im aq rl ro nm oc f3 f7 h3 h7 wh w m0 m1 o1 o2 hr a1 a2 a3 a4' a5'
    · exact renc_s9 op ird irs1 irs2 icsr im aq rl ro nm oc f3 f7 h3 h7 wh w m0 m1 o1 o2 hr a1 a2 a3 a4' a5'
    · exact renc_s10 op ird irs1 irs2 icsr im aq rl ro nm oc f3 f7 h3 h7 wh w m0 m1 o1 o2 hr a1 a2 a3 a4' a5'
end Go.Proofs.YteilpehekabccabGreatDoor

/- Words of instructions that the laws make; without any Go. -/
namespace Go.Proofs.YteilpehekabccabGreatDoor.W
open Go.RowKit
set_option linter.unusedVariables false
set_option linter.unusedSimpArgs false

/-- An instruction without a register of control, without marks. -/
def in5 (op rd rs1 rs2 imm : Int) : I := ⟨op, rd, rs1, rs2, 0, imm, false, false⟩
theorem word_of {i : I} (h : encE i = 0) : decB (encV i) = true ∧ decI (encV i) = i ∧ Rg (encV i) ∧ (encV i == 0) = false := by
  obtain ⟨h1, h2⟩ := dec_enc h
  have hV : encV i = encW (code i.op.toNat) (shp i.op) i := by rw [encV, h]; rfl
  refine ⟨h1, h2, by rw [hV]; exact encW_lt _ _ _, ?_⟩
  cases hz : (encV i == 0)
  · rfl
  · rw [beq_iff_eq.1 hz] at h1
    exact absurd h1 (by decide +kernel)
theorem enc_in5 {op rd rs1 rs2 v : Int} (hk : known op = true) (hl : layIB (shp op) v = true) (hr : inRange (in5 op rd rs1 rs2 v) = true) (hs : same (only (shp op) (in5 op rd rs1 rs2 v)) (in5 op rd rs1 rs2 v) = true) : encE (in5 op rd rs1 rs2 v) = 0 := by
  have e : (in5 op rd rs1 rs2 v).op = op := rfl
  have e2 : (in5 op rd rs1 rs2 v).imm = v := rfl
  simp only [encE, e, e2, hk, hl, hr, hs, Bool.and_self, cond_true]
theorem range_in5 {op rd rs1 rs2 v : Int} (a : 0 ≤ rd ∧ rd < 32) (b : 0 ≤ rs1 ∧ rs1 < 32) (c : 0 ≤ rs2 ∧ rs2 < 32) : inRange (in5 op rd rs1 rs2 v) = true := by
  show (fr 0 rd 31 && (fr 0 rs1 31 && (fr 0 rs2 31 && fr 0 0 4095))) = true
  simp only [fr, Bool.and_eq_true, decide_eq_true_eq]; omega
theorem off_fff (v : Int) (v0 : 0 ≤ v) (v1 : v < 4294967296) : bits .andNot .u32 v 4095 = v / 4096 * 4096 := by
  rw [u32_andNot v 4095 v0 v1 (by decide) (by decide), show 4294967295 - (4095 : Int).toNat = 4294963200 from rfl]
  have e1 := nat_field v.toNat 12 20
  simp only [show ((2 : Nat) ^ 20 - 1) <<< 12 = 4294963200 from rfl, show (2 : Nat) ^ 12 = 4096 from rfl, show (2 : Nat) ^ 20 = 1048576 from rfl] at e1
  rw [e1]
  omega
theorem imm_U' (x : Int) (x0 : 0 ≤ x) (x1 : x < 4294967296) : imm 85 x = x / 4096 * 4096 := by
  rw [← imm_U x x0 x1, bitsOf_eq x 12 20 x0 x1 (by decide) (by decide) (by decide)]
  show x / 4096 % 1048576 * 4096 % 4294967296 = _
  omega
theorem enc_lui (rd v x : Int) (r0 : 0 ≤ rd) (r1 : rd < 32) (x0 : 0 ≤ x) (x1 : x < 4294967296) (hv : v = x / 4096 * 4096) : encE (in5 1 rd 0 0 v) = 0 := by
  have hB : layIB (shp 1) v = true := by
    rw [(layIB_f (s := shp 1) (fm := 85) (Or.inr (Or.inr (Or.inr (Or.inl rfl)))) rfl rfl).2.1 v, hv, ← imm_U' x x0 x1]
    exact lay_back 85 x (Or.inr (Or.inr (Or.inr (Or.inl rfl)))) x0 x1
  refine enc_in5 (by decide) hB (range_in5 ⟨r0, r1⟩ (by decide) (by decide)) ?_
  simp [same, only, in5, shp, hasImm, hasI]
theorem next_lui (imm pc a b : Int) : nextV 1 imm pc a b = (pc + 4) % 4294967296 ∧ resV 1 imm pc a b = imm := ⟨rfl, rfl⟩
end Go.Proofs.YteilpehekabccabGreatDoor.W

/- The laws' own numbers and words. -/
namespace Go.Proofs.YteilpehekabccabGreatDoor
open Go.ChangeShapes Go.WideShapes Go.ChangeAt Go.RowKit
set_option linter.unusedVariables false
set_option linter.unusedSimpArgs false

theorem number_eq (n m : Int) (m0 : 0 < m) (m1 : m < 2147483648) : (wrap64 (n.tmod m + m)).tmod m = n % m := by
  have h0 := Int.emod_nonneg n (by omega : m ≠ 0)
  have h1 := Int.emod_lt_of_pos n m0
  have ht : n.tmod m = n % m ∨ n.tmod m = n % m - m := by
    rw [Int.tmod_eq_emod]
    split
    · left; omega
    · right; omega
  have hw : wrap64 (n.tmod m + m) = n.tmod m + m := by
    unfold wrap64
    omega
  rw [hw]
  rcases ht with h | h
  · rw [h, Int.tmod_eq_emod_of_nonneg (by omega), Int.add_emod_right, Int.emod_emod]
  · rw [h, Int.sub_add_cancel, Int.tmod_eq_emod_of_nonneg h0, Int.emod_emod]
theorem number_any (n m : Int) (n0 : -9223372036854775808 ≤ n) (n1 : n ≤ 9223372036854775807) (m0 : 0 < m) (m1 : m < 2147483648) (w : World) : Calls Tryz.prog 7 #[.int .i64 n, .int .i64 m] w fun z w' => z = .returned (.int .i64 (n % m)) ∧ w = w' := by
  have hm : ¬ m = 0 := by omega
  go_enter Tryz.func7, Tryz.ntmps7
  go_wp2
  go_ret
  refine ⟨ret_int (number_eq n m m0 m1), rfl⟩

theorem cword_any (op rd rs1 rs2 imm : Int) (m0 : 0 ≤ imm) (m1 : imm < 4294967296) (x : Int) (he : W.encE (W.in5 op rd rs1 rs2 imm) = 0) (hx : W.encV (W.in5 op rd rs1 rs2 imm) = x) (w : World) : Calls Tryz.prog 6 #[.int .i64 op, .int .i64 rd, .int .i64 rs1, .int .i64 rs2, .int .u32 imm] w fun z w' => z = .returned (.int .u32 x) ∧ Below w.heap.size w w' := by
  have hr := renc_any (W.in5 op rd rs1 rs2 imm) w m0 m1
  rw [he, hx] at hr
  unfold inV W.in5 at hr
  dsimp only at hr
  have HR : Hid (Calls _ _ _ _ _) := hr
  clear hr
  go_enter Tryz.func6, Tryz.ntmps6
  go_wp2_with (fail)
  refine HR.out.mono ?_
  rintro e w1 ⟨rfl, hb⟩
  go_wp2
  go_ret
  exact ⟨rfl, hb⟩
end Go.Proofs.YteilpehekabccabGreatDoor
