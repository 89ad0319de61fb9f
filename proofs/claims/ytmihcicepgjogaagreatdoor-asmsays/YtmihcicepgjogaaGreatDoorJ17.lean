/- Texts in one: RefE6, RefF, OpOf, SeeW. -/
import Derived.Test.YtmihcicepgjogaaGreatDoorJ07
import Derived.Test.YtmihcicepgjogaaGreatDoorJ09
import Derived.Test.YtmihcicepgjogaaGreatDoorJ11
import Derived.Test.YtmihcicepgjogaaGreatDoorJ12
import Derived.Test.YtmihcicepgjogaaGreatDoorJ13
import Derived.Test.YtmihcicepgjogaaGreatDoorJ14
import Derived.Test.YtmihcicepgjogaaGreatDoorJ15
import Derived.Test.YtmihcicepgjogaaGreatDoorJ16
/- What the document's Encode returns: shapes. -/
namespace Go.Proofs.YtmihcicepgjogaaGreatDoor
open Go.ChangeShapes Go.WideShapes Go.ChangeAt Go.RowKit
set_option linter.unusedVariables false
set_option linter.unusedSimpArgs false

set_option maxRecDepth 100000 in
set_option maxHeartbeats 6400000 in
theorem renc_s5 (op rd rs1 rs2 csr im : Int) (aq rl : Bool) (ro : Int) (nm : List UInt8) (oc f3 f7 : Int) (h3 h7 : Bool) (wh : Int) (w : World) (m0 : 0 ≤ im) (m1 : im < 4294967296) (o1 : 1 ≤ op) (o2 : op ≤ 69) (hr : Hid (W.rw (op.toNat - 1) = ⟨ro, nm, oc, f3, f7, h3, h7, 0, false, false, false, false, wh, false⟩)) (a1 : W.fr 0 rd 31 = true) (a2 : W.fr 0 rs1 31 = true) (a3 : W.fr 0 rs2 31 = true) (a4 : 0 ≤ csr) (a5 : csr ≤ 4095) : Calls Tryz.prog 10 #[inV ⟨op, rd, rs1, rs2, csr, im, aq, rl⟩] w fun e w' => e = .returned (.tuple #[.int .u32 (bif W.shOk ⟨ro, nm, oc, f3, f7, h3, h7, 0, false, false, false, false, wh, false⟩ ⟨op, rd, rs1, rs2, csr, im, aq, rl⟩ then W.rword ⟨ro, nm, oc, f3, f7, h3, h7, 0, false, false, false, false, wh, false⟩ ⟨op, rd, rs1, rs2, csr, im, aq, rl⟩ else 0), .int .i64 (bif W.shOk ⟨ro, nm, oc, f3, f7, h3, h7, 0, false, false, false, false, wh, false⟩ ⟨op, rd, rs1, rs2, csr, im, aq, rl⟩ then 0 else 104)]) ∧ Below w.heap.size w w' := by
  have O1 : Hid (1 ≤ op) := o1
  have O2 : Hid (op ≤ 69) := o2
  have M : Hid (0 ≤ im ∧ im < 4294967296) := (⟨m0, m1⟩ : 0 ≤ im ∧ im < 4294967296)
  clear o1 o2 m0 m1
  unfold inV
  go_enter Tryz.func10, Tryz.ntmps10
  go_wp2_with (first
    | (go_at_call 27; refine (of_some _ O1.out O2.out _).mono ?_; rintro e w1 ⟨rfl, hm⟩; have hb : Hid (Below w.heap.size w w1) := ((Below.refl _ _).alloc (Nat.le_refl _) _).trans (hm.mono (by simp)); have hlt : w.heap.size < w1.heap.size := (by have := hm.size; simp at this; omega); obtain ⟨x0, x1, x2, x3, x4, x5, x6, x7⟩ := (InAt.start w (⟨op, rd, rs1, rs2, csr, im, aq, rl⟩ : W.I) _).below hm; clear hm; rw [hr.out]; unfold rwV rwA)
    | (go_at_call 28; refine (layl_any _ _ _ M.out.1 M.out.2).mono ?_; rintro e w' ⟨rfl, rfl⟩)
    | (go_at_call 29; refine (reg_any _ _).mono ?_; rintro e w' ⟨rfl, rfl⟩)
    | (go_at_call 30; refine (word_any ⟨_, _, _, _, _, _, _, _, _, _, _, _, _, _⟩ ⟨_, _, _, _, _, _, _, _⟩ _ ?_ ?_).mono ?_; (first | exact M.out.1 | exact (by decide : (0 : Int) ≤ 0)); (first | exact M.out.2 | exact (by decide : (0 : Int) < 4294967296)); rintro e w3 ⟨rfl, hm3⟩; have hb3 : Hid (Below w.heap.size w w3) := (hb.out.alloc hb.out.size _).trans (hm3.mono (hb.out.alloc hb.out.size _).size); clear hm3))
  all_goals
    first
    | (have hs : W.shOk (⟨ro, nm, oc, f3, f7, h3, h7, 0, false, false, false, false, wh, false⟩) (⟨op, rd, rs1, rs2, csr, im, aq, rl⟩) = true := by simp [W.shOk, *]
       refine bodyPost_ret (v := .tuple #[.int .u32 (W.rword (⟨ro, nm, oc, f3, f7, h3, h7, 0, false, false, false, false, wh, false⟩) (⟨op, rd, rs1, rs2, csr, im, aq, rl⟩)), .int .i64 0]) ?_ rfl ⟨by rw [hs]; rfl, hb3.out⟩
       simp [results, Tryz.results10, go_sem, *])
    | (have hs : W.shOk (⟨ro, nm, oc, f3, f7, h3, h7, 0, false, false, false, false, wh, false⟩) (⟨op, rd, rs1, rs2, csr, im, aq, rl⟩) = false := by simp [W.shOk, *]
       exact bodyPost_ret (v := .tuple #[.int .u32 0, .int .i64 104]) (by simp [results, Tryz.results10, go_sem]) rfl ⟨by rw [hs]; rfl, hb.out.alloc hb.out.size _⟩)

end Go.Proofs.YtmihcicepgjogaaGreatDoor

/- What the document's Encode returns, of whatever instruction. -/
namespace Go.Proofs.YtmihcicepgjogaaGreatDoor
open Go.ChangeShapes Go.WideShapes Go.ChangeAt Go.RowKit
set_option linter.unusedVariables false
set_option linter.unusedSimpArgs false

namespace W
theorem beq0 (a : Int) : ((0 : Int) == a) = (a == 0) := by rw [Bool.eq_iff_iff, beq_iff_eq, beq_iff_eq]; exact eq_comm
theorem fm_imm {fm : Int} {s : Sh} (h : fmOk fm s = true) : hasImm s = !(fm == 0) := by
  rcases fmOk_cases h with ⟨rfl, hi⟩ | ⟨rfl, a, b, c⟩ | ⟨rfl, a, b, c⟩ | ⟨rfl, a, b, c⟩ | ⟨hf, a, b⟩
  · rw [hi]; rfl
  · rw [hasImm_size c (by omega)]; rfl
  · rw [hasImm_size c (by omega)]; rfl
  · rw [hasImm_size c (by omega)]; rfl
  · rw [(layIB_f hf a b).1, (isF_odd hf).1]; rfl
theorem shOk_eq {k : Nat} (hk : k < 69) (i : I) : shOk (rw k) i = same (only (shp ((k + 1 : Nat) : Int)) i) i := by
  have hrw := List.all_eq_true.1 rwOkAll k (List.mem_range.2 hk)
  rw [rwOk, Bool.and_eq_true] at hrw
  have hi := fm_imm hrw.1
  have hf : ((rw k).fm == 0) = !hasImm (shp ((k + 1 : Nat) : Int)) := by rw [hi, Bool.not_not]
  unfold shOk same only
  rw [hf]
  show (((shp ((k + 1 : Nat) : Int)).rd || i.rd == 0) && (((shp ((k + 1 : Nat) : Int)).rs1 || i.rs1 == 0) && (((shp ((k + 1 : Nat) : Int)).rs2 || i.rs2 == 0) && (((shp ((k + 1 : Nat) : Int)).csr || i.csr == 0) && ((!!hasImm (shp ((k + 1 : Nat) : Int)) || i.imm == 0) && ((shp ((k + 1 : Nat) : Int)).ord || (!i.aq && !i.rl))))))) = _
  cases (shp ((k + 1 : Nat) : Int)).rd <;> cases (shp ((k + 1 : Nat) : Int)).rs1 <;> cases (shp ((k + 1 : Nat) : Int)).rs2 <;> cases (shp ((k + 1 : Nat) : Int)).csr <;> cases hasImm (shp ((k + 1 : Nat) : Int)) <;> cases (shp ((k + 1 : Nat) : Int)).ord <;> cases i.aq <;> cases i.rl <;> simp [beq0]
end W

theorem renc_any (i : W.I) (w : World) (m0 : 0 ≤ i.imm) (m1 : i.imm < 4294967296) : Calls Tryz.prog 10 #[inV i] w fun e w' => e = .returned (.tuple #[.int .u32 (W.encV i), .int .i64 (num (W.encE i))]) ∧ Below w.heap.size w w' := by
  by_cases hk : 1 ≤ i.op ∧ i.op ≤ 69
  case neg =>
    have h1 : W.known i.op = false := by
      cases h : W.known i.op
      · rfl
      · exact absurd (by simpa [W.known, W.fr] using h) hk
    have e : W.encE i = 1 := by simp [W.encE, h1]
    rw [W.encV, e]
    exact renc_kind i w hk
  obtain ⟨o1, o2⟩ := hk
  have h1 : W.known i.op = true := by simp [W.known, W.fr, o1, o2]
  obtain ⟨k, hk, hop, hto⟩ : ∃ k : Nat, k < 69 ∧ i.op = ((k + 1 : Nat) : Int) ∧ i.op.toNat - 1 = k := ⟨i.op.toNat - 1, by omega, by omega, rfl⟩
  have hrw := List.all_eq_true.1 W.rwOkAll k (List.mem_range.2 hk)
  rw [W.rwOk, Bool.and_eq_true] at hrw
  have hlay := W.rlayB_eq hrw.1 i.imm m0 m1
  have bad : (W.layIB (W.shp i.op) i.imm && W.inRange i) = false → W.encV i = 0 ∧ num (W.encE i) = 106 := fun h => by
    have e : W.encE i = 2 := by rw [W.encE, h1, h]; rfl
    rw [W.encV, e]; exact ⟨rfl, rfl⟩
  rw [hop] at bad
  have hr : Hid (W.rw (i.op.toNat - 1) = W.rw k) := by
    have : W.rw (i.op.toNat - 1) = W.rw k := by rw [hto]
    exact this
  cases a1 : W.fr 0 i.rd 31
  · rw [(bad (by simp [W.inRange, a1])).1, (bad (by simp [W.inRange, a1])).2]
    exact renc_r1 i _ w m0 m1 o1 o2 hr a1
  cases a2 : W.fr 0 i.rs1 31
  · rw [(bad (by simp [W.inRange, a2])).1, (bad (by simp [W.inRange, a2])).2]
    exact renc_r2 i _ w m0 m1 o1 o2 hr a1 a2
  cases a3 : W.fr 0 i.rs2 31
  · rw [(bad (by simp [W.inRange, a3])).1, (bad (by simp [W.inRange, a3])).2]
    exact renc_r3 i _ w m0 m1 o1 o2 hr a1 a2 a3
  by_cases a4 : i.csr < 0
  · have hc : W.fr 0 i.csr 4095 = false := by simp [W.fr]; omega
    rw [(bad (by simp [W.inRange, hc])).1, (bad (by simp [W.inRange, hc])).2]
    exact renc_r4 i _ w m0 m1 o1 o2 hr a1 a2 a3 a4
  by_cases a5 : 4095 < i.csr
  · have hc : W.fr 0 i.csr 4095 = false := by simp [W.fr]; omega
    rw [(bad (by simp [W.inRange, hc])).1, (bad (by simp [W.inRange, hc])).2]
    exact renc_r5 i _ w m0 m1 o1 o2 hr a1 a2 a3 (by omega) a5
  have a4' : 0 ≤ i.csr := by omega
  have a5' : i.csr ≤ 4095 := by omega
  have hin : W.inRange i = true := by
    have hc : W.fr 0 i.csr 4095 = true := by simp [W.fr]; omega
    simp [W.inRange, a1, a2, a3, hc]
  have fin : W.layIB (W.shp i.op) i.imm = true → W.encV i = (bif W.shOk (W.rw k) i then W.rword (W.rw k) i else 0) ∧ num (W.encE i) = (bif W.shOk (W.rw k) i then 0 else 104) := fun h => by
    have e : W.encE i = bif W.shOk (W.rw k) i then 0 else 3 := by rw [W.encE, h1, h, hin, W.shOk_eq hk, hop]; rfl
    cases hs : W.shOk (W.rw k) i
    · rw [hs] at e
      have e : W.encE i = 3 := e
      rw [W.encV, e]; exact ⟨rfl, rfl⟩
    · rw [hs] at e
      have e : W.encE i = 0 := e
      rw [cond_true, cond_true, W.rword_enc hk hop m0 m1 e, e]; exact ⟨rfl, rfl⟩
  rw [hop] at fin
  have hsh : W.okSh (W.shp ((k + 1 : Nat) : Int)) = true := W.okSh_shp _
  have hhi := W.fm_imm hrw.1
  generalize hR : W.rw k = r at *
  obtain ⟨ro, nm, oc, f3, f7, h3, h7, fm, rd, rs1, rs2, csr, wh, pair⟩ := r
  have e1 : (W.shp ((k + 1 : Nat) : Int)).rd = rd := congrArg W.Rw.rd hR
  have e2 : (W.shp ((k + 1 : Nat) : Int)).rs1 = rs1 := congrArg W.Rw.rs1 hR
  have e3 : (W.shp ((k + 1 : Nat) : Int)).rs2 = rs2 := congrArg W.Rw.rs2 hR
  have e4 : (W.shp ((k + 1 : Nat) : Int)).csr = csr := congrArg W.Rw.csr hR
  have e5 : (W.shp ((k + 1 : Nat) : Int)).ord = pair := congrArg W.Rw.pair hR
  rw [W.okSh, e1, e2, e3, e4, e5, hhi] at hsh
  clear e1 e2 e3 e4 e5 hR hrw hhi
  have hlay : W.layIB (W.shp ((k + 1 : Nat) : Int)) i.imm = (fm == 0 || W.rlayB fm i.imm) := hlay
  cases hf : (fm == 0)
  case false =>
    rw [hf, Bool.false_or] at hlay
    have hf' : (fm != 0) = true := by rw [bne, hf]; rfl
    cases a6 : W.rlayB fm i.imm
    · rw [a6] at hlay
      rw [(bad (by rw [hlay]; rfl)).1, (bad (by rw [hlay]; rfl)).2]
      exact renc_r6 i _ w m0 m1 o1 o2 hr a1 a2 a3 a4' a5' hf' a6
    rw [a6] at hlay
    rw [(fin hlay).1, (fin hlay).2]
    obtain ⟨op, ird, irs1, irs2, icsr, im, aq, rl⟩ := i
    have hsh : [(true, false, false, false, false, true), (true, true, false, false, false, true), (false, true, true, false, false, true), (true, true, true, false, false, false), (false, false, false, false, false, true), (false, false, false, false, false, false), (false, true, true, false, false, false), (true, true, false, true, false, false), (true, false, false, true, false, true), (true, true, false, false, true, false), (true, true, true, false, true, false)].contains (rd, rs1, rs2, csr, pair, !(fm == 0)) = true := hsh
    rw [hf] at hsh
    simp only [List.contains_cons, List.contains_nil, Bool.or_eq_true, beq_iff_eq, Prod.mk.injEq, Bool.or_false, Bool.not_false, Bool.true_eq_false, and_false, or_false, false_or, and_true, Bool.false_eq_true] at hsh
    rcases hsh with ⟨rfl, rfl, rfl, rfl, rfl⟩ | ⟨rfl, rfl, rfl, rfl, rfl⟩ | ⟨rfl, rfl, rfl, rfl, rfl⟩ | ⟨rfl, rfl, rfl, rfl, rfl⟩ | ⟨rfl, rfl, rfl, rfl, rfl⟩
    · exact renc_s0 op ird irs1 irs2 icsr im aq rl ro nm oc f3 f7 h3 h7 fm wh w m0 m1 o1 o2 hr a1 a2 a3 a4' a5' hf' hf a6
    · exact renc_s1 op ird irs1 irs2 icsr im aq rl ro nm oc f3 f7 h3 h7 fm wh w m0 m1 o1 o2 hr a1 a2 a3 a4' a5' hf' hf a6
    · exact renc_s2 op ird irs1 irs2 icsr im aq rl ro nm oc f3 f7 h3 h7 fm wh w m0 m1 o1 o2 hr a1 a2 a3 a4' a5' hf' hf a6
    · exact renc_s4 op ird irs1 irs2 icsr im aq rl ro nm oc f3 f7 h3 h7 fm wh w m0 m1 o1 o2 hr a1 a2 a3 a4' a5' hf' hf a6
    · exact renc_s8 op ird irs1 irs2 icsr im aq rl ro nm oc f3 f7 h3 h7 fm wh w m0 m1 o1 o2 hr a1 a2 a3 a4' a5' hf' hf a6
  case true =>
    obtain rfl := beq_iff_eq.1 hf
    rw [hf, Bool.true_or] at hlay
    rw [(fin hlay).1, (fin hlay).2]
    obtain ⟨op, ird, irs1, irs2, icsr, im, aq, rl⟩ := i
    have hsh : [(true, false, false, false, false, true), (true, true, false, false, false, true), (false, true, true, false, false, true), (true, true, true, false, false, false), (false, false, false, false, false, true), (false, false, false, false, false, false), (false, true, true, false, false, false), (true, true, false, true, false, false), (true, false, false, true, false, true), (true, true, false, false, true, false), (true, true, true, false, true, false)].contains (rd, rs1, rs2, csr, pair, false) = true := hsh
    simp only [List.contains_cons, List.contains_nil, Bool.or_eq_true, beq_iff_eq, Prod.mk.injEq, Bool.or_false, Bool.not_false, Bool.true_eq_false, and_false, or_false, false_or, and_true, Bool.false_eq_true] at hsh
    rcases hsh with ⟨rfl, rfl, rfl, rfl, rfl⟩ | ⟨rfl, rfl, rfl, rfl, rfl⟩ | ⟨rfl, rfl, rfl, rfl, rfl⟩ | ⟨rfl, rfl, rfl, rfl, rfl⟩ | ⟨rfl, rfl, rfl, rfl, rfl⟩ | ⟨rfl, rfl, rfl, rfl, rfl⟩
    · exact renc_s3 op ird irs1 irs2 icsr im aq rl ro nm oc f3 f7 h3 h7 wh w m0 m1 o1 o2 hr a1 a2 a3 a4' a5'
    · exact renc_s5 op ird irs1 irs2 icsr im aq rl ro nm oc f3 f7 h3 h7 wh w m0 m1 o1 o2 hr a1 a2 a3 a4' a5'
    · exact renc_s6 op ird irs1 irs2 icsr im aq rl ro nm oc f3 f7 h3 h7 wh w m0 m1 o1 o2 hr a1 a2 a3 a4' a5'
    · exact renc_s7 op ird irs1 irs2 icsr im aq rl ro nm oc f3 f7 h3 h7 wh w m0 m1 o1 o2 hr a1 a2 a3 a4' a5'
    · exact renc_s9 op ird irs1 irs2 icsr im aq rl ro nm oc f3 f7 h3 h7 wh w m0 m1 o1 o2 hr a1 a2 a3 a4' a5'
    · exact renc_s10 op ird irs1 irs2 icsr im aq rl ro nm oc f3 f7 h3 h7 wh w m0 m1 o1 o2 hr a1 a2 a3 a4' a5'
end Go.Proofs.YtmihcicepgjogaaGreatDoor

/- What slices.Index and Op answer. -/
namespace Go.Proofs.YtmihcicepgjogaaGreatDoor
open Go.ChangeShapes Go.WideShapes Go.ChangeAt Go.RowKit
set_option linter.unusedVariables false
set_option linter.unusedSimpArgs false

namespace W
/-- The first name from the k-th on that is L; -1: none. -/
def fidx (L : List UInt8) : Nat → Nat → Int
  | _, 0 => -1
  | k, n + 1 => bif L == nameAt k then (k : Int) else fidx L (k + 1) n
theorem fidx_step {L : List UInt8} {k : Nat} (hk : k < 70) : fidx L k (70 - k) = bif L == nameAt k then (k : Int) else fidx L (k + 1) (70 - (k + 1)) := by
  have : 70 - k = (70 - (k + 1)) + 1 := by omega
  rw [this, fidx]
end W
/-- The names lie in block g. -/
structure Nt (g : Nat) (wc : World) : Prop where
  lt : g < wc.heap.size
  cells : ∀ k, k < 70 → wc.cell? ⟨g, k, none⟩ = some (.string ⟨(W.nameAt k).toArray⟩)

set_option maxRecDepth 100000 in
set_option maxHeartbeats 1600000 in
theorem index_any (L : List UInt8) (g : Nat) (w : World) (hN : Nt g w) : Calls Tryz.prog 97 #[.slice (some ⟨g, 0, none⟩) 70 70, .string ⟨L.toArray⟩] w fun e w' => e = .returned (.int .i64 (W.fidx L 0 70)) ∧ w = w' := by
  have HN : Hid (Nt g w) := hN
  clear hN
  go_enter Tryz.func97, Tryz.ntmps97
  go_wp2
  go_loopw [8] (fun i wr => ∃ k : Nat, k ≤ 70 ∧ i = .int .i64 k ∧ wr = w ∧ W.fidx L 0 70 = W.fidx L k (70 - k)) (fun i _ => (70 - intOf i).toNat)
  case atStart => exact ⟨0, by omega, rfl, rfl, rfl⟩
  case round =>
    obtain ⟨k, hk, rfl, rfl, hD⟩ := hrel
    have HD : Hid (W.fidx L 0 70 = W.fidx L k (70 - k)) := hD
    clear hD
    by_cases hlt : k < 70
    · have c := HN.out.cells k hlt
      have hl0 : (0 : Int) ≤ (k : Int) := by omega
      have hl1 : (k : Int) < 70 := by omega
      have hst := W.fidx_step (L := L) hlt
      cases ht : (L == W.nameAt k)
      · have H2 : Hid (W.fidx L 0 70 = W.fidx L (k + 1) (70 - (k + 1))) := (by rw [HD.out, hst, ht]; rfl : W.fidx L 0 70 = _)
        clear hst
        generalize W.nameAt k = nk at *
        go_wp2
        go_roundw
        case rel => exact ⟨k + 1, by omega, by go_num, trivial, H2.out⟩
        case measure => simp [intOf]; omega
      · have H2 : Hid (W.fidx L 0 70 = (k : Int)) := (by rw [HD.out, hst, ht]; rfl : W.fidx L 0 70 = _)
        clear hst
        generalize W.nameAt k = nk at *
        go_wp2
        go_ret
        exact ⟨ret_int H2.out.symm, rfl⟩
    · obtain rfl : k = 70 := by omega
      go_wp2
      go_ret
      exact ⟨ret_int HD.out.symm, rfl⟩

set_option maxRecDepth 100000 in
set_option maxHeartbeats 1600000 in
theorem op_any (L : List UInt8) (w : World) : Calls Tryz.prog 65 #[.string ⟨L.toArray⟩] w fun e w' => e = .returned (.int .i64 (max 0 (W.fidx L 0 70))) ∧ Below w.heap.size w w' := by
  have hst : ∀ w : World, (storeCells ⟨w.heap.size, 0, none⟩ namesA.toList 0).run Tryz.prog (w.alloc (.cells Tryz.zeroCells128 128)) = .ok () (w.alloc (.cells namesA 128)) := fun w =>
    run_storeCells_new w 128 _ _ (by kernel_rfl) (by kernel_rfl) (by kernel_rfl)
  have hb : Below w.heap.size w w := Below.refl _ _
  have hn : namesA.size = 70 := by kernel_rfl
  generalize hI : W.fidx L 0 70 = I
  have HI : Hid (W.fidx L 0 70 = I) := hI
  clear hI
  go_enter Tryz.func65, Tryz.ntmps65
  go_wp2_with (first
    | (go_at_call 86; refine (from_ (names_any _) hb).mono ?_; clear hb; rintro e w1 ⟨rfl, hb⟩)
    | (go_at_call 97; refine (index_any L w1.heap.size _ ⟨by simp, fun k hk => (cell_of_row _ _ k namesA 128 (0, 0) (heap_alloc_last w1 _)).trans (namesA_at k hk)⟩).mono ?_; rintro e w' ⟨rfl, rfl⟩; rw [HI.out]))
  all_goals
    go_ret
    exact ⟨ret_int (by omega), hb.alloc hb.size _⟩
end Go.Proofs.YtmihcicepgjogaaGreatDoor

/- The look at any of the errors. -/
namespace Go.Proofs.YtmihcicepgjogaaGreatDoor
open Go.ChangeShapes Go.WideShapes Go.ChangeAt Go.RowKit
set_option linter.unusedVariables false
set_option linter.unusedSimpArgs false

set_option maxHeartbeats 1600000 in
theorem is_at (A : Nat → Addr) (p : Nat) (hk : p < 11) (c : Int) (w : World) (hS : Sent A w) :
    Calls Tryz.prog 14 #[ptr A (perm p), .int .i64 c] w fun e w' => e = .returned (.bool ((101 + (p : Int)) == c)) ∧ Below w.heap.size w w' := by
  have same : ∀ w : World, Sent A w → Calls Tryz.prog 19 #[ptr A (perm p), .agg #[.int .i64 c, .slice none 0 0]] w fun e w' => e = .returned (.bool ((101 + (p : Int)) == c)) ∧ Below w.heap.size w w' := by
    intro w hS
    have HS : Hid (Sent A w) := hS
    have Hk : Hid (p < 11) := hk
    clear hS hk
    generalize hv : ptr A (perm p) = v
    have HV : Hid (v = ptr A (perm p)) := hv.symm
    clear hv
    go_enter Tryz.func19, Tryz.ntmps19
    go_wp2_with (first
      | (go_at_call 43; rw [HV.out]; refine (faultOf_some A p Hk.out _ (HS.out.below ((Below.refl _ _).alloc (Nat.le_refl _) _))).mono ?_; rintro e w1 ⟨rfl, hb1⟩; have hlt : w.heap.size < w1.heap.size := (by have := hb1.size; simp at this; omega); have x0 := hb1.cell (p := ⟨w.heap.size, 0, none⟩) (by simp); have x1 := hb1.cell (p := ⟨w.heap.size, 1, none⟩) (by simp); simp [go_sem] at x0 x1; have hb : Below w.heap.size w w1 := ((Below.refl _ _).alloc (Nat.le_refl _) _).trans (hb1.mono (by simp)); clear hb1)
      | (go_at_call 44; refine (sameFault_any _ _ _).mono ?_; rintro e w2 ⟨rfl, hb2⟩; have hq := hb.trans ((((Below.refl _ _).alloc (Nat.le_refl _) _).trans (hb2.mono (by simp))).mono hb.size)))
    go_ret
    exact ⟨rfl, hq⟩
  generalize hv : ptr A (perm p) = v at same ⊢
  have HV : Hid (v = ptr A (perm p)) := hv.symm
  have HS : Hid (Sent A w) := hS
  have Sm : Hid (∀ w : World, Sent A w → Calls Tryz.prog 19 #[v, .agg #[.int .i64 c, .slice none 0 0]] w fun e w' => e = .returned (.bool ((101 + (p : Int)) == c)) ∧ Below w.heap.size w w') := same
  clear hv hS same hk
  go_enter Tryz.func14, Tryz.ntmps14
  go_wp2_with (first
    | (go_at_call 39; refine (bare_any _ _).mono ?_; rintro e w1 ⟨rfl, hb1⟩)
    | (go_at_call 19; refine (Sm.out _ (HS.out.below hb1)).mono ?_; rintro e w2 ⟨rfl, hb2⟩))
  go_ret
  exact ⟨rfl, hb1.trans (hb2.mono hb1.size)⟩


theorem is_word (A : Nat → Addr) (c : Int) (w : World) (hS : Sent A w) : Calls Tryz.prog 14 #[errV A 6, .int .i64 c] w fun e w' => e = .returned (.bool ((105 : Int) == c)) ∧ Below w.heap.size w w' :=
  is_at A 4 (by omega) c w hS
end Go.Proofs.YtmihcicepgjogaaGreatDoor
