/- What the document's Encode returns, of whatever instruction. -/
import Derived.Test.YthbcdlaejefkaaaDoorRefR1
import Derived.Test.YthbcdlaejefkaaaDoorRefR2
import Derived.Test.YthbcdlaejefkaaaDoorRefR3
import Derived.Test.YthbcdlaejefkaaaDoorRefR4
import Derived.Test.YthbcdlaejefkaaaDoorRefR5
import Derived.Test.YthbcdlaejefkaaaDoorRefR6
import Derived.Test.YthbcdlaejefkaaaDoorRefE1
import Derived.Test.YthbcdlaejefkaaaDoorRefE2
import Derived.Test.YthbcdlaejefkaaaDoorRefE3
import Derived.Test.YthbcdlaejefkaaaDoorRefE4
import Derived.Test.YthbcdlaejefkaaaDoorRefE5
import Derived.Test.YthbcdlaejefkaaaDoorRefE6
namespace Go.Proofs.YthbcdlaejefkaaaDoor
open Go.ChangeShapes Go.WideShapes Go.ChangeAt Go.RowKit
set_option linter.unusedVariables false
set_option linter.unusedSimpArgs false

namespace W
theorem beq0 (a : Int) : ((0 : Int) == a) = (a == 0) := by rw [Bool.eq_iff_iff, beq_iff_eq, beq_iff_eq]; exact eq_comm
theorem fm_imm {fm : Int} {s : Sh} (h : fmOk fm s = true) : hasImm s = !(fm == 0) := by
  rcases fmOk_cases h with ⟨rfl, hi⟩ | ⟨rfl, a, b, c⟩ | ⟨rfl, a, b, c⟩ | ⟨rfl, a, b, c⟩ | ⟨hf, a, b⟩
  · rw [hi]; rfl
  · rw [hasImm_size c (by omega)]; rfl
  · rw [hasImm_size c (by omega)]; rfl
  · rw [hasImm_size c (by omega)]; rfl
  · rw [(layIB_f hf a b).1, (isF_odd hf).1]; rfl
theorem shOk_eq {k : Nat} (hk : k < 69) (i : I) : shOk (rw k) i = same (only (shp ((k + 1 : Nat) : Int)) i) i := by
  have hrw := List.all_eq_true.1 rwOkAll k (List.mem_range.2 hk)
  rw [rwOk, Bool.and_eq_true] at hrw
  have hi := fm_imm hrw.1
  have hf : ((rw k).fm == 0) = !hasImm (shp ((k + 1 : Nat) : Int)) := by rw [hi, Bool.not_not]
  unfold shOk same only
  rw [hf]
  show (((shp ((k + 1 : Nat) : Int)).rd || i.rd == 0) && (((shp ((k + 1 : Nat) : Int)).rs1 || i.rs1 == 0) && (((shp ((k + 1 : Nat) : Int)).rs2 || i.rs2 == 0) && (((shp ((k + 1 : Nat) : Int)).csr || i.csr == 0) && ((!!hasImm (shp ((k + 1 : Nat) : Int)) || i.imm == 0) && ((shp ((k + 1 : Nat) : Int)).ord || (!i.aq && !i.rl))))))) = _
  cases (shp ((k + 1 : Nat) : Int)).rd <;> cases (shp ((k + 1 : Nat) : Int)).rs1 <;> cases (shp ((k + 1 : Nat) : Int)).rs2 <;> cases (shp ((k + 1 : Nat) : Int)).csr <;> cases hasImm (shp ((k + 1 : Nat) : Int)) <;> cases (shp ((k + 1 : Nat) : Int)).ord <;> cases i.aq <;> cases i.rl <;> simp [beq0]
end W

theorem renc_any (i : W.I) (w : World) (m0 : 0 ≤ i.imm) (m1 : i.imm < 4294967296) : Calls Tryd.prog 13 #[inV i] w fun e w' => e = .returned (.tuple #[.int .u32 (W.encV i), .int .i64 (num (W.encE i))]) ∧ Below w.heap.size w w' := by
  by_cases hk : 1 ≤ i.op ∧ i.op ≤ 69
  case neg =>
    have h1 : W.known i.op = false := by
      cases h : W.known i.op
      · rfl
      · exact absurd (by simpa [W.known, W.fr] using h) hk
    have e : W.encE i = 1 := by simp [W.encE, h1]
    rw [W.encV, e]
    exact renc_kind i w hk
  obtain ⟨o1, o2⟩ := hk
  have h1 : W.known i.op = true := by simp [W.known, W.fr, o1, o2]
  obtain ⟨k, hk, hop, hto⟩ : ∃ k : Nat, k < 69 ∧ i.op = ((k + 1 : Nat) : Int) ∧ i.op.toNat - 1 = k := ⟨i.op.toNat - 1, by omega, by omega, rfl⟩
  have hrw := List.all_eq_true.1 W.rwOkAll k (List.mem_range.2 hk)
  rw [W.rwOk, Bool.and_eq_true] at hrw
  have hlay := W.rlayB_eq hrw.1 i.imm m0 m1
  have bad : (W.layIB (W.shp i.op) i.imm && W.inRange i) = false → W.encV i = 0 ∧ num (W.encE i) = 106 := fun h => by
    have e : W.encE i = 2 := by rw [W.encE, h1, h]; rfl
    rw [W.encV, e]; exact ⟨rfl, rfl⟩
  rw [hop] at bad
  have hr : Hid (W.rw (i.op.toNat - 1) = W.rw k) := by
    have : W.rw (i.op.toNat - 1) = W.rw k := by rw [hto]
    exact this
  cases a1 : W.fr 0 i.rd 31
  · rw [(bad (by simp [W.inRange, a1])).1, (bad (by simp [W.inRange, a1])).2]
    exact renc_r1 i _ w m0 m1 o1 o2 hr a1
  cases a2 : W.fr 0 i.rs1 31
  · rw [(bad (by simp [W.inRange, a2])).1, (bad (by simp [W.inRange, a2])).2]
    exact renc_r2 i _ w m0 m1 o1 o2 hr a1 a2
  cases a3 : W.fr 0 i.rs2 31
  · rw [(bad (by simp [W.inRange, a3])).1, (bad (by simp [W.inRange, a3])).2]
    exact renc_r3 i _ w m0 m1 o1 o2 hr a1 a2 a3
  by_cases a4 : i.csr < 0
  · have hc : W.fr 0 i.csr 4095 = false := by simp [W.fr]; omega
    rw [(bad (by simp [W.inRange, hc])).1, (bad (by simp [W.inRange, hc])).2]
    exact renc_r4 i _ w m0 m1 o1 o2 hr a1 a2 a3 a4
  by_cases a5 : 4095 < i.csr
  · have hc : W.fr 0 i.csr 4095 = false := by simp [W.fr]; omega
    rw [(bad (by simp [W.inRange, hc])).1, (bad (by simp [W.inRange, hc])).2]
    exact renc_r5 i _ w m0 m1 o1 o2 hr a1 a2 a3 (by omega) a5
  have a4' : 0 ≤ i.csr := by omega
  have a5' : i.csr ≤ 4095 := by omega
  have hin : W.inRange i = true := by
    have hc : W.fr 0 i.csr 4095 = true := by simp [W.fr]; omega
    simp [W.inRange, a1, a2, a3, hc]
  have fin : W.layIB (W.shp i.op) i.imm = true → W.encV i = (bif W.shOk (W.rw k) i then W.rword (W.rw k) i else 0) ∧ num (W.encE i) = (bif W.shOk (W.rw k) i then 0 else 104) := fun h => by
    have e : W.encE i = bif W.shOk (W.rw k) i then 0 else 3 := by rw [W.encE, h1, h, hin, W.shOk_eq hk, hop]; rfl
    cases hs : W.shOk (W.rw k) i
    · rw [hs] at e
      have e : W.encE i = 3 := e
      rw [W.encV, e]; exact ⟨rfl, rfl⟩
    · rw [hs] at e
      have e : W.encE i = 0 := e
      rw [cond_true, cond_true, W.rword_enc hk hop m0 m1 e, e]; exact ⟨rfl, rfl⟩
  rw [hop] at fin
  have hsh : W.okSh (W.shp ((k + 1 : Nat) : Int)) = true := W.okSh_shp _
  have hhi := W.fm_imm hrw.1
  generalize hR : W.rw k = r at *
  obtain ⟨ro, nm, oc, f3, f7, h3, h7, fm, rd, rs1, rs2, csr, wh, pair⟩ := r
  have e1 : (W.shp ((k + 1 : Nat) : Int)).rd = rd := congrArg W.Rw.rd hR
  have e2 : (W.shp ((k + 1 : Nat) : Int)).rs1 = rs1 := congrArg W.Rw.rs1 hR
  have e3 : (W.shp ((k + 1 : Nat) : Int)).rs2 = rs2 := congrArg W.Rw.rs2 hR
  have e4 : (W.shp ((k + 1 : Nat) : Int)).csr = csr := congrArg W.Rw.csr hR
  have e5 : (W.shp ((k + 1 : Nat) : Int)).ord = pair := congrArg W.Rw.pair hR
  rw [W.okSh, e1, e2, e3, e4, e5, hhi] at hsh
  clear e1 e2 e3 e4 e5 hR hrw hhi
  have hlay : W.layIB (W.shp ((k + 1 : Nat) : Int)) i.imm = (fm == 0 || W.rlayB fm i.imm) := hlay
  cases hf : (fm == 0)
  case false =>
    rw [hf, Bool.false_or] at hlay
    have hf' : (fm != 0) = true := by rw [bne, hf]; rfl
    cases a6 : W.rlayB fm i.imm
    · rw [a6] at hlay
      rw [(bad (by rw [hlay]; rfl)).1, (bad (by rw [hlay]; rfl)).2]
      exact renc_r6 i _ w m0 m1 o1 o2 hr a1 a2 a3 a4' a5' hf' a6
    rw [a6] at hlay
    rw [(fin hlay).1, (fin hlay).2]
    obtain ⟨op, ird, irs1, irs2, icsr, im, aq, rl⟩ := i
    have hsh : [(true, false, false, false, false, true), (true, true, false, false, false, true), (false, true, true, false, false, true), (true, true, true, false, false, false), (false, false, false, false, false, true), (false, false, false, false, false, false), (false, true, true, false, false, false), (true, true, false, true, false, false), (true, false, false, true, false, true), (true, true, false, false, true, false), (true, true, true, false, true, false)].contains (rd, rs1, rs2, csr, pair, !(fm == 0)) = true := hsh
    rw [hf] at hsh
    simp only [List.contains_cons, List.contains_nil, Bool.or_eq_true, beq_iff_eq, Prod.mk.injEq, Bool.or_false, Bool.not_false, Bool.true_eq_false, and_false, or_false, false_or, and_true, Bool.false_eq_true] at hsh
    rcases hsh with ⟨rfl, rfl, rfl, rfl, rfl⟩ | ⟨rfl, rfl, rfl, rfl, rfl⟩ | ⟨rfl, rfl, rfl, rfl, rfl⟩ | ⟨rfl, rfl, rfl, rfl, rfl⟩ | ⟨rfl, rfl, rfl, rfl, rfl⟩
    · exact renc_s0 op ird irs1 irs2 icsr im aq rl ro nm oc f3 f7 h3 h7 fm wh w m0 m1 o1 o2 hr a1 a2 a3 a4' a5' hf' hf a6
    · exact renc_s1 op ird irs1 irs2 icsr im aq rl ro nm oc f3 f7 h3 h7 fm wh w m0 m1 o1 o2 hr a1 a2 a3 a4' a5' hf' hf a6
    · exact renc_s2 op ird irs1 irs2 icsr im aq rl ro nm oc f3 f7 h3 h7 fm wh w m0 m1 o1 o2 hr a1 a2 a3 a4' a5' hf' hf a6
    · exact renc_s4 op ird irs1 irs2 icsr im aq rl ro nm oc f3 f7 h3 h7 fm wh w m0 m1 o1 o2 hr a1 a2 a3 a4' a5' hf' hf a6
    · exact renc_s8 op ird irs1 irs2 icsr im aq rl ro nm oc f3 f7 h3 h7 fm wh w m0 m1 o1 o2 hr a1 a2 a3 a4' a5' hf' hf a6
  case true =>
    obtain rfl := beq_iff_eq.1 hf
    rw [hf, Bool.true_or] at hlay
    rw [(fin hlay).1, (fin hlay).2]
    obtain ⟨op, ird, irs1, irs2, icsr, im, aq, rl⟩ := i
    have hsh : [(true, false, false, false, false, true), (true, true, false, false, false, true), (false, true, true, false, false, true), (true, true, true, false, false, false), (false, false, false, false, false, true), (false, false, false, false, false, false), (false, true, true, false, false, false), (true, true, false, true, false, false), (true, false, false, true, false, true), (true, true, false, false, true, false), (true, true, true, false, true, false)].contains (rd, rs1, rs2, csr, pair, false) = true := hsh
    simp only [List.contains_cons, List.contains_nil, Bool.or_eq_true, beq_iff_eq, Prod.mk.injEq, Bool.or_false, Bool.not_false, Bool.true_eq_false, and_false, or_false, false_or, and_true, Bool.false_eq_true] at hsh
    rcases hsh with ⟨rfl, rfl, rfl, rfl, rfl⟩ | ⟨rfl, rfl, rfl, rfl, rfl⟩ | ⟨rfl, rfl, rfl, rfl, rfl⟩ | ⟨rfl, rfl, rfl, rfl, rfl⟩ | ⟨rfl, rfl, rfl, rfl, rfl⟩ | ⟨rfl, rfl, rfl, rfl, rfl⟩
    · exact renc_s3 op ird irs1 irs2 icsr im aq rl ro nm oc f3 f7 h3 h7 wh w m0 m1 o1 o2 hr a1 a2 a3 a4' a5'
    · exact renc_s5 op ird irs1 irs2 icsr im aq rl ro nm oc f3 f7 h3 h7 wh w m0 m1 o1 o2 hr a1 a2 a3 a4' a5'
    · exact renc_s6 op ird irs1 irs2 icsr im aq rl ro nm oc f3 f7 h3 h7 wh w m0 m1 o1 o2 hr a1 a2 a3 a4' a5'
    · exact renc_s7 op ird irs1 irs2 icsr im aq rl ro nm oc f3 f7 h3 h7 wh w m0 m1 o1 o2 hr a1 a2 a3 a4' a5'
    · exact renc_s9 op ird irs1 irs2 icsr im aq rl ro nm oc f3 f7 h3 h7 wh w m0 m1 o1 o2 hr a1 a2 a3 a4' a5'
    · exact renc_s10 op ird irs1 irs2 icsr im aq rl ro nm oc f3 f7 h3 h7 wh w m0 m1 o1 o2 hr a1 a2 a3 a4' a5'
end Go.Proofs.YthbcdlaejefkaaaDoor
