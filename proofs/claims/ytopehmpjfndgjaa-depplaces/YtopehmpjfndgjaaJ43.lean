/- Texts in one: RefF, DepQ, DepR. -/
import Derived.Test.YtopehmpjfndgjaaJ27
import Derived.Test.YtopehmpjfndgjaaJ28
import Derived.Test.YtopehmpjfndgjaaJ34
import Derived.Test.YtopehmpjfndgjaaJ35
import Derived.Test.YtopehmpjfndgjaaJ36
import Derived.Test.YtopehmpjfndgjaaJ37
import Derived.Test.YtopehmpjfndgjaaJ38
import Derived.Test.YtopehmpjfndgjaaJ39
import Derived.Test.YtopehmpjfndgjaaJ40
import Derived.Test.YtopehmpjfndgjaaJ41
import Derived.Test.YtopehmpjfndgjaaJ42
/- What the document's Encode returns, of whatever instruction. -/
namespace Go.Proofs.Ytopehmpjfndgjaa
open Go.ChangeShapes Go.WideShapes Go.ChangeAt Go.RowKit
set_option linter.unusedVariables false
set_option linter.unusedSimpArgs false

namespace W
theorem beq0 (a : Int) : ((0 : Int) == a) = (a == 0) := by rw [Bool.eq_iff_iff, beq_iff_eq, beq_iff_eq]; exact eq_comm
theorem fm_imm {fm : Int} {s : Sh} (h : fmOk fm s = true) : hasImm s = !(fm == 0) := by
  rcases fmOk_cases h with ⟨rfl, hi⟩ | ⟨rfl, a, b, c⟩ | ⟨rfl, a, b, c⟩ | ⟨rfl, a, b, c⟩ | ⟨hf, a, b⟩
  · rw [hi]; rfl
  · rw [hasImm_size c (by omega)]; rfl
  · rw [hasImm_size c (by omega)]; rfl
  · rw [hasImm_size c (by omega)]; rfl
  · rw [(layIB_f hf a b).1, (isF_odd hf).1]; rfl
theorem shOk_eq {k : Nat} (hk : k < 69) (i : I) : shOk (rw k) i = same (only (shp ((k + 1 : Nat) : Int)) i) i := by
  have hrw := List.all_eq_true.1 rwOkAll k (List.mem_range.2 hk)
  rw [rwOk, Bool.and_eq_true] at hrw
  have hi := fm_imm hrw.1
  have hf : ((rw k).fm == 0) = !hasImm (shp ((k + 1 : Nat) : Int)) := by rw [hi, Bool.not_not]
  unfold shOk same only
  rw [hf]
  show (((shp ((k + 1 : Nat) : Int)).rd || i.rd == 0) && (((shp ((k + 1 : Nat) : Int)).rs1 || i.rs1 == 0) && (((shp ((k + 1 : Nat) : Int)).rs2 || i.rs2 == 0) && (((shp ((k + 1 : Nat) : Int)).csr || i.csr == 0) && ((!!hasImm (shp ((k + 1 : Nat) : Int)) || i.imm == 0) && ((shp ((k + 1 : Nat) : Int)).ord || (!i.aq && !i.rl))))))) = _
  cases (shp ((k + 1 : Nat) : Int)).rd <;> cases (shp ((k + 1 : Nat) : Int)).rs1 <;> cases (shp ((k + 1 : Nat) : Int)).rs2 <;> cases (shp ((k + 1 : Nat) : Int)).csr <;> cases hasImm (shp ((k + 1 : Nat) : Int)) <;> cases (shp ((k + 1 : Nat) : Int)).ord <;> cases i.aq <;> cases i.rl <;> simp [beq0]
end W

theorem renc_any (i : W.I) (w : World) (m0 : 0 ≤ i.imm) (m1 : i.imm < 4294967296) : Calls Try.prog 21 #[inV i] w fun e w' => e = .returned (.tuple #[.int .u32 (W.encV i), .int .i64 (num (W.encE i))]) ∧ Below w.heap.size w w' := by
  by_cases hk : 1 ≤ i.op ∧ i.op ≤ 69
  case neg =>
    have h1 : W.known i.op = false := by
      cases h : W.known i.op
      · rfl
      · exact absurd (by simpa [W.known, W.fr] using h) hk
    have e : W.encE i = 1 := by simp [W.encE, h1]
    rw [W.encV, e]
    exact renc_kind i w hk
  obtain ⟨o1, o2⟩ := hk
  have h1 : W.known i.op = true := by simp [W.known, W.fr, o1, o2]
  obtain ⟨k, hk, hop, hto⟩ : ∃ k : Nat, k < 69 ∧ i.op = ((k + 1 : Nat) : Int) ∧ i.op.toNat - 1 = k := ⟨i.op.toNat - 1, by omega, by omega, rfl⟩
  have hrw := List.all_eq_true.1 W.rwOkAll k (List.mem_range.2 hk)
  rw [W.rwOk, Bool.and_eq_true] at hrw
  have hlay := W.rlayB_eq hrw.1 i.imm m0 m1
  have bad : (W.layIB (W.shp i.op) i.imm && W.inRange i) = false → W.encV i = 0 ∧ num (W.encE i) = 106 := fun h => by
    have e : W.encE i = 2 := by rw [W.encE, h1, h]; rfl
    rw [W.encV, e]; exact ⟨rfl, rfl⟩
  rw [hop] at bad
  have hr : Hid (W.rw (i.op.toNat - 1) = W.rw k) := by
    have : W.rw (i.op.toNat - 1) = W.rw k := by rw [hto]
    exact this
  cases a1 : W.fr 0 i.rd 31
  · rw [(bad (by simp [W.inRange, a1])).1, (bad (by simp [W.inRange, a1])).2]
    exact renc_r1 i _ w m0 m1 o1 o2 hr a1
  cases a2 : W.fr 0 i.rs1 31
  · rw [(bad (by simp [W.inRange, a2])).1, (bad (by simp [W.inRange, a2])).2]
    exact renc_r2 i _ w m0 m1 o1 o2 hr a1 a2
  cases a3 : W.fr 0 i.rs2 31
  · rw [(bad (by simp [W.inRange, a3])).1, (bad (by simp [W.inRange, a3])).2]
    exact renc_r3 i _ w m0 m1 o1 o2 hr a1 a2 a3
  by_cases a4 : i.csr < 0
  · have hc : W.fr 0 i.csr 4095 = false := by simp [W.fr]; omega
    rw [(bad (by simp [W.inRange, hc])).1, (bad (by simp [W.inRange, hc])).2]
    exact renc_r4 i _ w m0 m1 o1 o2 hr a1 a2 a3 a4
  by_cases a5 : 4095 < i.csr
  · have hc : W.fr 0 i.csr 4095 = false := by simp [W.fr]; omega
    rw [(bad (by simp [W.inRange, hc])).1, (bad (by simp [W.inRange, hc])).2]
    exact renc_r5 i _ w m0 m1 o1 o2 hr a1 a2 a3 (by omega) a5
  have a4' : 0 ≤ i.csr := by omega
  have a5' : i.csr ≤ 4095 := by omega
  have hin : W.inRange i = true := by
    have hc : W.fr 0 i.csr 4095 = true := by simp [W.fr]; omega
    simp [W.inRange, a1, a2, a3, hc]
  have fin : W.layIB (W.shp i.op) i.imm = true → W.encV i = (bif W.shOk (W.rw k) i then W.rword (W.rw k) i else 0) ∧ num (W.encE i) = (bif W.shOk (W.rw k) i then 0 else 104) := fun h => by
    have e : W.encE i = bif W.shOk (W.rw k) i then 0 else 3 := by rw [W.encE, h1, h, hin, W.shOk_eq hk, hop]; rfl
    cases hs : W.shOk (W.rw k) i
    · rw [hs] at e
      have e : W.encE i = 3 := e
      rw [W.encV, e]; exact ⟨rfl, rfl⟩
    · rw [hs] at e
      have e : W.encE i = 0 := e
      rw [cond_true, cond_true, W.rword_enc hk hop m0 m1 e, e]; exact ⟨rfl, rfl⟩
  rw [hop] at fin
  have hsh : W.okSh (W.shp ((k + 1 : Nat) : Int)) = true := W.okSh_shp _
  have hhi := W.fm_imm hrw.1
  generalize hR : W.rw k = r at *
  obtain ⟨ro, nm, oc, f3, f7, h3, h7, fm, rd, rs1, rs2, csr, wh, pair⟩ := r
  have e1 : (W.shp ((k + 1 : Nat) : Int)).rd = rd := congrArg W.Rw.rd hR
  have e2 : (W.shp ((k + 1 : Nat) : Int)).rs1 = rs1 := congrArg W.Rw.rs1 hR
  have e3 : (W.shp ((k + 1 : Nat) : Int)).rs2 = rs2 := congrArg W.Rw.rs2 hR
  have e4 : (W.shp ((k + 1 : Nat) : Int)).csr = csr := congrArg W.Rw.csr hR
  have e5 : (W.shp ((k + 1 : Nat) : Int)).ord = pair := congrArg W.Rw.pair hR
  rw [W.okSh, e1, e2, e3, e4, e5, hhi] at hsh
  clear e1 e2 e3 e4 e5 hR hrw hhi
  have hlay : W.layIB (W.shp ((k + 1 : Nat) : Int)) i.imm = (fm == 0 || W.rlayB fm i.imm) := hlay
  cases hf : (fm == 0)
  case false =>
    rw [hf, Bool.false_or] at hlay
    have hf' : (fm != 0) = true := by rw [bne, hf]; rfl
    cases a6 : W.rlayB fm i.imm
    · rw [a6] at hlay
      rw [(bad (by rw [hlay]; rfl)).1, (bad (by rw [hlay]; rfl)).2]
      exact renc_r6 i _ w m0 m1 o1 o2 hr a1 a2 a3 a4' a5' hf' a6
    rw [a6] at hlay
    rw [(fin hlay).1, (fin hlay).2]
    obtain ⟨op, ird, irs1, irs2, icsr, im, aq, rl⟩ := i
    have hsh : [(true, false, false, false, false, true), (true, true, false, false, false, true), (false, true, true, false, false, true), (true, true, true, false, false, false), (false, false, false, false, false, true), (false, false, false, false, false, false), (false, true, true, false, false, false), (true, true, false, true, false, false), (true, false, false, true, false, true), (true, true, false, false, true, false), (true, true, true, false, true, false)].contains (rd, rs1, rs2, csr, pair, !(fm == 0)) = true := hsh
    rw [hf] at hsh
    simp only [List.contains_cons, List.contains_nil, Bool.or_eq_true, beq_iff_eq, Prod.mk.injEq, Bool.or_false, Bool.not_false, Bool.true_eq_false, and_false, or_false, false_or, and_true, Bool.false_eq_true] at hsh
    rcases hsh with ⟨rfl, rfl, rfl, rfl, rfl⟩ | ⟨rfl, rfl, rfl, rfl, rfl⟩ | ⟨rfl, rfl, rfl, rfl, rfl⟩ | ⟨rfl, rfl, rfl, rfl, rfl⟩ | ⟨rfl, rfl, rfl, rfl, rfl⟩
    · exact renc_s0 op ird irs1 irs2 icsr im aq rl ro nm oc f3 f7 h3 h7 fm wh w m0 m1 o1 o2 hr a1 a2 a3 a4' a5' hf' hf a6
    · exact renc_s1 op ird irs1 irs2 icsr im aq rl ro nm oc f3 f7 h3 h7 fm wh w m0 m1 o1 o2 hr a1 a2 a3 a4' a5' hf' hf a6
    · exact renc_s2 op ird irs1 irs2 icsr im aq rl ro nm oc f3 f7 h3 h7 fm wh w m0 m1 o1 o2 hr a1 a2 a3 a4' a5' hf' hf a6
    · exact renc_s4 op ird irs1 irs2 icsr im aq rl ro nm oc f3 f7 h3 h7 fm wh w m0 m1 o1 o2 hr a1 a2 a3 a4' a5' hf' hf a6
    · exact renc_s8 op ird irs1 irs2 icsr im aq rl ro nm oc f3 f7 h3 h7 fm wh w m0 m1 o1 o2 hr a1 a2 a3 a4' a5' hf' hf a6
  case true =>
    obtain rfl := beq_iff_eq.1 hf
    rw [hf, Bool.true_or] at hlay
    rw [(fin hlay).1, (fin hlay).2]
    obtain ⟨op, ird, irs1, irs2, icsr, im, aq, rl⟩ := i
    have hsh : [(true, false, false, false, false, true), (true, true, false, false, false, true), (false, true, true, false, false, true), (true, true, true, false, false, false), (false, false, false, false, false, true), (false, false, false, false, false, false), (false, true, true, false, false, false), (true, true, false, true, false, false), (true, false, false, true, false, true), (true, true, false, false, true, false), (true, true, true, false, true, false)].contains (rd, rs1, rs2, csr, pair, false) = true := hsh
    simp only [List.contains_cons, List.contains_nil, Bool.or_eq_true, beq_iff_eq, Prod.mk.injEq, Bool.or_false, Bool.not_false, Bool.true_eq_false, and_false, or_false, false_or, and_true, Bool.false_eq_true] at hsh
    rcases hsh with ⟨rfl, rfl, rfl, rfl, rfl⟩ | ⟨rfl, rfl, rfl, rfl, rfl⟩ | ⟨rfl, rfl, rfl, rfl, rfl⟩ | ⟨rfl, rfl, rfl, rfl, rfl⟩ | ⟨rfl, rfl, rfl, rfl, rfl⟩ | ⟨rfl, rfl, rfl, rfl, rfl⟩
    · exact renc_s3 op ird irs1 irs2 icsr im aq rl ro nm oc f3 f7 h3 h7 wh w m0 m1 o1 o2 hr a1 a2 a3 a4' a5'
    · exact renc_s5 op ird irs1 irs2 icsr im aq rl ro nm oc f3 f7 h3 h7 wh w m0 m1 o1 o2 hr a1 a2 a3 a4' a5'
    · exact renc_s6 op ird irs1 irs2 icsr im aq rl ro nm oc f3 f7 h3 h7 wh w m0 m1 o1 o2 hr a1 a2 a3 a4' a5'
    · exact renc_s7 op ird irs1 irs2 icsr im aq rl ro nm oc f3 f7 h3 h7 wh w m0 m1 o1 o2 hr a1 a2 a3 a4' a5'
    · exact renc_s9 op ird irs1 irs2 icsr im aq rl ro nm oc f3 f7 h3 h7 wh w m0 m1 o1 o2 hr a1 a2 a3 a4' a5'
    · exact renc_s10 op ird irs1 irs2 icsr im aq rl ro nm oc f3 f7 h3 h7 wh w m0 m1 o1 o2 hr a1 a2 a3 a4' a5'
end Go.Proofs.Ytopehmpjfndgjaa

/- The chapter's examples. -/
namespace Go.Proofs.Ytopehmpjfndgjaa
open Go.ChangeShapes Go.WideShapes Go.ChangeAt Go.RowKit
set_option linter.unusedVariables false
set_option linter.unusedSimpArgs false

/-- An instruction without a register of control, without marks. -/
def W.in5 (op rd rs1 rs2 imm : Int) : W.I := ⟨op, rd, rs1, rs2, 0, imm, false, false⟩
theorem number_eq (n m : Int) (m0 : 0 < m) (m1 : m < 2147483648) : (wrap64 (n.tmod m + m)).tmod m = n % m := by
  have h0 := Int.emod_nonneg n (by omega : m ≠ 0)
  have h1 := Int.emod_lt_of_pos n m0
  have ht : n.tmod m = n % m ∨ n.tmod m = n % m - m := by
    rw [Int.tmod_eq_emod]
    split
    · left; omega
    · right; omega
  have hw : wrap64 (n.tmod m + m) = n.tmod m + m := by
    unfold wrap64
    omega
  rw [hw]
  rcases ht with h | h
  · rw [h, Int.tmod_eq_emod_of_nonneg (by omega), Int.add_emod_right, Int.emod_emod]
  · rw [h, Int.sub_add_cancel, Int.tmod_eq_emod_of_nonneg h0, Int.emod_emod]
theorem number_any (n m : Int) (n0 : -9223372036854775808 ≤ n) (n1 : n ≤ 9223372036854775807) (m0 : 0 < m) (m1 : m < 2147483648) (w : World) : Calls Try.prog 8 #[.int .i64 n, .int .i64 m] w fun z w' => z = .returned (.int .i64 (n % m)) ∧ w = w' := by
  have hm : ¬ m = 0 := by omega
  go_enter Try.func8, Try.ntmps8
  go_wp2
  go_ret
  refine ⟨ret_int (number_eq n m m0 m1), rfl⟩
theorem cword_any (op rd rs1 rs2 imm : Int) (m0 : 0 ≤ imm) (m1 : imm < 4294967296) (x : Int) (he : W.encE (W.in5 op rd rs1 rs2 imm) = 0) (hx : W.encV (W.in5 op rd rs1 rs2 imm) = x) (w : World) : Calls Try.prog 13 #[.int .i64 op, .int .i64 rd, .int .i64 rs1, .int .i64 rs2, .int .u32 imm] w fun z w' => z = .returned (.int .u32 x) ∧ Below w.heap.size w w' := by
  have hr := renc_any (W.in5 op rd rs1 rs2 imm) w m0 m1
  rw [he, hx] at hr
  unfold inV W.in5 at hr
  dsimp only at hr
  have HR : Hid (Calls _ _ _ _ _) := hr
  clear hr
  go_enter Try.func13, Try.ntmps13
  go_wp2_with (fail)
  refine HR.out.mono ?_
  rintro e w1 ⟨rfl, hb⟩
  go_wp2
  go_ret
  exact ⟨rfl, hb⟩
/-- An item that tells a word alone. -/
def W.itw (x : Int) : W.It := ⟨x, 0, 0, 0, false, false⟩
end Go.Proofs.Ytopehmpjfndgjaa

/- The laws' first: the chapter's examples. -/
namespace Go.Proofs.Ytopehmpjfndgjaa
open Go.ChangeShapes Go.WideShapes Go.ChangeAt Go.RowKit
set_option linter.unusedVariables false
set_option linter.unusedSimpArgs false

def bdT (l : Array (Nat × Value)) : Sem Value := Instr.build 37 l
theorem bdT_eq (l : Array (Nat × Value)) : Instr.build 37 l = bdT l := rfl
def bsT (n : Nat) (l : Array (Nat × Value)) : Sem Value := Instr.buildSlice 22 n l
theorem bsT_eq (n : Nat) (l : Array (Nat × Value)) : Instr.buildSlice 22 n l = bsT n l := rfl
theorem bdT_any (x : Int) (w : World) : (bdT #[(0, .int .u32 x)]).run Try.prog w = .ok (.agg (itC (W.itw x))) w := by kernel_rfl
theorem bsT_2 (x y : W.It) (w : World) : (bsT 2 #[(0, .agg (itC x)), (1, .agg (itC y))]).run Try.prog w = .ok (.slice (some ⟨w.heap.size, 0, none⟩) 2 2) (w.alloc (.cells (itC x ++ itC y) 37)) := by kernel_rfl
theorem bsT_3 (x y z : W.It) (w : World) : (bsT 3 #[(0, .agg (itC x)), (1, .agg (itC y)), (2, .agg (itC z))]).run Try.prog w = .ok (.slice (some ⟨w.heap.size, 0, none⟩) 3 3) (w.alloc (.cells (itC x ++ (itC y ++ itC z)) 37)) := by kernel_rfl
def W.itTwo (x y : W.It) : Nat → W.It | 0 => x | _ => y
def W.itThree (x y z : W.It) : Nat → W.It | 0 => x | 1 => y | _ => z
theorem app_l {A B : Array Value} {k : Nat} {v : Value} (h : A[k]? = some v) : (A ++ B)[k]? = some v := by
  obtain ⟨hk, _⟩ := Array.getElem?_eq_some_iff.1 h
  rw [Array.getElem?_append_left hk, h]
theorem app_r {A B : Array Value} (n k : Nat) (h : A.size = n) : (A ++ B)[n + k]? = B[k]? := by
  rw [Array.getElem?_append_right (by omega)]
  congr 1
  omega
theorem its_2 (x y : W.It) (w : World) (hx : W.Rg x.wd) (hy : W.Rg y.wd) : Its (some ⟨w.heap.size, 0, none⟩) 2 (W.itTwo x y) (w.alloc (.cells (itC x ++ itC y) 37)) := by
  have hh := heap_alloc_last w (.cells (itC x ++ itC y) 37)
  refine ⟨fun _ => ⟨w.heap.size, 0, rfl, by simp, fun j hj k v hv => (cell_of_row _ _ _ _ _ (0, 0) hh).trans ?_⟩, fun j hj => ?_⟩
  · match j, hj with
    | 0, _ => rw [show 0 + 0 * 6 + k = k by omega]; exact app_l hv
    | 1, _ => rw [show 0 + 1 * 6 + k = 6 + k by omega, app_r 6 k rfl]; exact hv
  · match j, hj with
    | 0, _ => exact hx
    | 1, _ => exact hy
theorem its_3 (x y z : W.It) (w : World) (hx : W.Rg x.wd) (hy : W.Rg y.wd) (hz : W.Rg z.wd) : Its (some ⟨w.heap.size, 0, none⟩) 3 (W.itThree x y z) (w.alloc (.cells (itC x ++ (itC y ++ itC z)) 37)) := by
  have hh := heap_alloc_last w (.cells (itC x ++ (itC y ++ itC z)) 37)
  refine ⟨fun _ => ⟨w.heap.size, 0, rfl, by simp, fun j hj k v hv => (cell_of_row _ _ _ _ _ (0, 0) hh).trans ?_⟩, fun j hj => ?_⟩
  · match j, hj with
    | 0, _ => rw [show 0 + 0 * 6 + k = k by omega]; exact app_l hv
    | 1, _ => rw [show 0 + 1 * 6 + k = 6 + k by omega, app_r 6 k rfl]; exact app_l hv
    | 2, _ => rw [show 0 + 2 * 6 + k = 6 + (6 + k) by omega, app_r 6 _ rfl, app_r 6 k rfl]; exact hv
  · match j, hj with
    | 0, _ => exact hx
    | 1, _ => exact hy
    | 2, _ => exact hz
namespace W
theorem w_lw : encE (in5 13 1 2 0 0) = 0 ∧ encV (in5 13 1 2 0 0) = 73859 := ⟨by decide +kernel, by decide +kernel⟩
theorem w_sw : encE (in5 18 0 3 1 0) = 0 ∧ encV (in5 18 0 3 1 0) = 1155107 := ⟨by decide +kernel, by decide +kernel⟩
theorem w_beq : encE (in5 5 0 1 0 8) = 0 ∧ encV (in5 5 0 1 0 8) = 33891 := ⟨by decide +kernel, by decide +kernel⟩
theorem w_sw4 : encE (in5 18 0 3 4 0) = 0 ∧ encV (in5 18 0 3 4 0) = 4300835 := ⟨by decide +kernel, by decide +kernel⟩
theorem run_a : (runN (itTwo (itw 73859) (itw 1155107)) 2).p.map (fun q => (q.2.1, q.2.2.1, q.2.2.2)) = [([], [], []), ([], [0], [])] := by decide +kernel
theorem run_b : (runN (itThree (itw 73859) (itw 33891) (itw 4300835)) 3).p.map (fun q => (q.2.1, q.2.2.1, q.2.2.2)) = [([], [], []), ([], [], [0])] := by decide +kernel
end W
/-- What stands in one of the answers. -/
theorem Oi.one {v : W.Sl} {P : List (W.Opr × List Int × List Int × List Int)} {w : World} (h : Oi v P w) (N : List (List Int × List Int × List Int)) (hN : P.map (fun q => (q.2.1, q.2.2.1, q.2.2.2)) = N) (j : Nat) (z : List Int × List Int × List Int) (hz : N[j]? = some z) : v.n = N.length ∧ ∃ g a d c, v.a = some ⟨g, 0, Option.none⟩ ∧ g < w.heap.size ∧ w.cell? ⟨g, j * 13 + 10, Option.none⟩ = some (slV a) ∧ w.cell? ⟨g, j * 13 + 11, Option.none⟩ = some (slV d) ∧ w.cell? ⟨g, j * 13 + 12, Option.none⟩ = some (slV c) ∧ Li a z.1 w ∧ Li d z.2.1 w ∧ Li c z.2.2 w := by
  subst hN
  rw [List.getElem?_map] at hz
  cases hq : P[j]? with
  | none => rw [hq] at hz; cases hz
  | some q =>
    rw [hq] at hz
    have e : (q.2.1, q.2.2.1, q.2.2.2) = z := by simpa using hz
    subst e
    obtain ⟨g, a, d, c, h1, h2, h3, h4, h5, h6⟩ := h.at_ j q hq
    exact ⟨by rw [h.n]; simp, g, a, d, c, h1, h2, h3 10 _ rfl, h3 11 _ rfl, h3 12 _ rfl, h4, h5, h6⟩
end Go.Proofs.Ytopehmpjfndgjaa
