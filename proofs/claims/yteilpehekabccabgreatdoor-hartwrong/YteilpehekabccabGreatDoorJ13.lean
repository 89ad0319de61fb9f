/- Texts in one: AluG, HartM2, HartL0, HartK2, PteA, PteC, WalkA. -/
import Derived.Deep.WholeRow
import Derived.Test.YteilpehekabccabGreatDoorJ01
import Derived.Test.YteilpehekabccabGreatDoorJ02
import Derived.Test.YteilpehekabccabGreatDoorJ06
import Derived.Test.YteilpehekabccabGreatDoorJ09
import Derived.Test.YteilpehekabccabGreatDoorJ12
/- What Result and Next return, and the document's. -/
namespace Go.Proofs.YteilpehekabccabGreatDoor
open Go.ChangeShapes Go.WideShapes Go.ChangeAt Go.RowKit
set_option linter.unusedVariables false
set_option linter.unusedSimpArgs false

namespace W
def resE (op imm a b : Int) : Int := doV op a (bif hasImm (shp op) then imm else b)
def resV (op imm pc a b : Int) : Int := bif op == 1 then imm else bif op == 2 then (pc + imm) % 4294967296 else bif (op == 3) || (op == 4) then (pc + 4) % 4294967296 else resE op imm a b
def resB (op : Int) : Bool := bif (op == 1) || ((op == 2) || ((op == 3) || (op == 4))) then true else doB op
def nextV (op imm pc a b : Int) : Int := bif op == 3 then (pc + imm) % 4294967296 else bif op == 4 then bits .andNot .u32 ((a + imm) % 4294967296) 1 else bif takV op a b then (pc + imm) % 4294967296 else (pc + 4) % 4294967296
theorem resE_eq (op imm a b : Int) (c : Bool) (hc : c = (decide (19 ≤ op) && decide (op ≤ 27))) : resE op imm a b = doV op a (bif c then imm else b) := by
  subst hc
  unfold resE
  cases h : doB op
  · rw [doV_none _ _ h, doV_none _ _ h]
  · rcases doB_cases h with rfl | rfl | rfl | rfl | rfl | rfl | rfl | rfl | rfl | rfl | rfl | rfl | rfl | rfl | rfl | rfl | rfl | rfl | rfl | rfl | rfl | rfl | rfl | rfl | rfl | rfl | rfl <;> rfl
end W

theorem res_1 (rd rs1 rs2 csr imm : Int) (aq rl : Bool) (pc a b : Int) (w : World) : Calls Tryz.prog 70 #[.agg #[.int .i64 1, .int .i64 rd, .int .i64 rs1, .int .i64 rs2, .int .i64 csr, .int .u32 imm, .bool aq, .bool rl], .int .u32 pc, .int .u32 a, .int .u32 b] w fun e w' => e = .returned (.tuple #[.int .u32 (imm), .bool true]) ∧ Below w.heap.size w w' := by
  have hb : Below w.heap.size w w := Below.refl _ _
  go_enter Tryz.func70, Tryz.ntmps70
  go_wp2
  exact bodyPost_ret (v := .tuple #[.int .u32 (imm), .bool true]) (by simp [results, Tryz.results70, go_sem]) rfl ⟨rfl, by repeat (first | exact hb | exact hb.alloc hb.size _)⟩

theorem res_2 (rd rs1 rs2 csr imm : Int) (aq rl : Bool) (pc a b : Int) (w : World) : Calls Tryz.prog 70 #[.agg #[.int .i64 2, .int .i64 rd, .int .i64 rs1, .int .i64 rs2, .int .i64 csr, .int .u32 imm, .bool aq, .bool rl], .int .u32 pc, .int .u32 a, .int .u32 b] w fun e w' => e = .returned (.tuple #[.int .u32 ((pc + imm) % 4294967296), .bool true]) ∧ Below w.heap.size w w' := by
  have hb : Below w.heap.size w w := Below.refl _ _
  go_enter Tryz.func70, Tryz.ntmps70
  go_wp2
  exact bodyPost_ret (v := .tuple #[.int .u32 ((pc + imm) % 4294967296), .bool true]) (by simp [results, Tryz.results70, go_sem]) rfl ⟨rfl, by repeat (first | exact hb | exact hb.alloc hb.size _)⟩

theorem res_3 (rd rs1 rs2 csr imm : Int) (aq rl : Bool) (pc a b : Int) (w : World) : Calls Tryz.prog 70 #[.agg #[.int .i64 3, .int .i64 rd, .int .i64 rs1, .int .i64 rs2, .int .i64 csr, .int .u32 imm, .bool aq, .bool rl], .int .u32 pc, .int .u32 a, .int .u32 b] w fun e w' => e = .returned (.tuple #[.int .u32 ((pc + 4) % 4294967296), .bool true]) ∧ Below w.heap.size w w' := by
  have hb : Below w.heap.size w w := Below.refl _ _
  go_enter Tryz.func70, Tryz.ntmps70
  go_wp2
  exact bodyPost_ret (v := .tuple #[.int .u32 ((pc + 4) % 4294967296), .bool true]) (by simp [results, Tryz.results70, go_sem]) rfl ⟨rfl, by repeat (first | exact hb | exact hb.alloc hb.size _)⟩

theorem res_4 (rd rs1 rs2 csr imm : Int) (aq rl : Bool) (pc a b : Int) (w : World) : Calls Tryz.prog 70 #[.agg #[.int .i64 4, .int .i64 rd, .int .i64 rs1, .int .i64 rs2, .int .i64 csr, .int .u32 imm, .bool aq, .bool rl], .int .u32 pc, .int .u32 a, .int .u32 b] w fun e w' => e = .returned (.tuple #[.int .u32 ((pc + 4) % 4294967296), .bool true]) ∧ Below w.heap.size w w' := by
  have hb : Below w.heap.size w w := Below.refl _ _
  go_enter Tryz.func70, Tryz.ntmps70
  go_wp2
  exact bodyPost_ret (v := .tuple #[.int .u32 ((pc + 4) % 4294967296), .bool true]) (by simp [results, Tryz.results70, go_sem]) rfl ⟨rfl, by repeat (first | exact hb | exact hb.alloc hb.size _)⟩

set_option maxHeartbeats 1600000 in
theorem res_else (op rd rs1 rs2 csr imm : Int) (aq rl : Bool) (pc a b : Int) (a0 : 0 ≤ a) (a1 : a < 4294967296) (b0 : 0 ≤ b) (b1 : b < 4294967296) (m0 : 0 ≤ imm) (m1 : imm < 4294967296) (q1 : (op == 1) = false) (q2 : (op == 2) = false) (q3 : (op == 3) = false) (q4 : (op == 4) = false) (w : World) :
    Calls Tryz.prog 70 #[.agg #[.int .i64 op, .int .i64 rd, .int .i64 rs1, .int .i64 rs2, .int .i64 csr, .int .u32 imm, .bool aq, .bool rl], .int .u32 pc, .int .u32 a, .int .u32 b] w fun e w' => e = .returned (.tuple #[.int .u32 (W.resE op imm a b), .bool (W.doB op)]) ∧ Below w.heap.size w w' := by
  have hb : Below w.heap.size w w := Below.refl _ _
  cases hI : W.hasImm (W.shp op)
  · have hv : Hid (W.resE op imm a b = W.doV op a b) := (by rw [W.resE, hI]; rfl : W.resE op imm a b = W.doV op a b)
    go_enter Tryz.func70, Tryz.ntmps70
    go_wp2_with (first
      | (go_at_call 89; refine (uses_any op _).mono ?_; rintro e w1 ⟨rfl, hm⟩; have h1 : Hid (Below w.heap.size w w1) := (by first | exact hb.trans (hm.mono hb.size) | exact ((hb.alloc hb.size _).trans (hm.mono (by simp)))); have c0 : w1.cell? ⟨w.heap.size, 0, none⟩ = some (.int .i64 op) := (hm.cell (by simp)).trans (by simp [go_sem]); have c5 : w1.cell? ⟨w.heap.size, 5, none⟩ = some (.int .u32 imm) := (hm.cell (by simp)).trans (by simp [go_sem]); clear hm)
      | (go_at_call 90; refine (do_any op a b a0 a1 b0 b1 _).mono ?_; rintro e w' ⟨rfl, rfl⟩))
    exact bodyPost_ret (v := .tuple #[.int .u32 (W.doV op a b), .bool (W.doB op)]) (by simp [results, Tryz.results70, go_sem]) rfl ⟨by rw [hv.out], h1.out⟩
  · have hv : Hid (W.resE op imm a b = W.doV op a imm) := (by rw [W.resE, hI]; rfl : W.resE op imm a b = W.doV op a imm)
    go_enter Tryz.func70, Tryz.ntmps70
    go_wp2_with (first
      | (go_at_call 89; refine (uses_any op _).mono ?_; rintro e w1 ⟨rfl, hm⟩; have h1 : Hid (Below w.heap.size w w1) := (by first | exact hb.trans (hm.mono hb.size) | exact ((hb.alloc hb.size _).trans (hm.mono (by simp)))); have c0 : w1.cell? ⟨w.heap.size, 0, none⟩ = some (.int .i64 op) := (hm.cell (by simp)).trans (by simp [go_sem]); have c5 : w1.cell? ⟨w.heap.size, 5, none⟩ = some (.int .u32 imm) := (hm.cell (by simp)).trans (by simp [go_sem]); clear hm)
      | (go_at_call 90; refine (do_any op a imm a0 a1 m0 m1 _).mono ?_; rintro e w' ⟨rfl, rfl⟩))
    exact bodyPost_ret (v := .tuple #[.int .u32 (W.doV op a imm), .bool (W.doB op)]) (by simp [results, Tryz.results70, go_sem]) rfl ⟨by rw [hv.out], h1.out⟩

theorem res_any (op rd rs1 rs2 csr imm : Int) (aq rl : Bool) (pc a b : Int) (a0 : 0 ≤ a) (a1 : a < 4294967296) (b0 : 0 ≤ b) (b1 : b < 4294967296) (m0 : 0 ≤ imm) (m1 : imm < 4294967296) (w : World) :
    Calls Tryz.prog 70 #[.agg #[.int .i64 op, .int .i64 rd, .int .i64 rs1, .int .i64 rs2, .int .i64 csr, .int .u32 imm, .bool aq, .bool rl], .int .u32 pc, .int .u32 a, .int .u32 b] w fun e w' => e = .returned (.tuple #[.int .u32 (W.resV op imm pc a b), .bool (W.resB op)]) ∧ Below w.heap.size w w' := by
  cases q1 : (op == 1)
  case true => obtain rfl := beq_iff_eq.1 q1; exact res_1 rd rs1 rs2 csr imm aq rl pc a b w
  cases q2 : (op == 2)
  case true => obtain rfl := beq_iff_eq.1 q2; exact res_2 rd rs1 rs2 csr imm aq rl pc a b w
  cases q3 : (op == 3)
  case true => obtain rfl := beq_iff_eq.1 q3; exact res_3 rd rs1 rs2 csr imm aq rl pc a b w
  cases q4 : (op == 4)
  case true => obtain rfl := beq_iff_eq.1 q4; exact res_4 rd rs1 rs2 csr imm aq rl pc a b w
  have := res_else op rd rs1 rs2 csr imm aq rl pc a b a0 a1 b0 b1 m0 m1 q1 q2 q3 q4 w
  rw [W.resV, W.resB, q1, q2, q3, q4]
  exact this

theorem next_3 (rd rs1 rs2 csr imm : Int) (aq rl : Bool) (pc a b : Int) (a0 : 0 ≤ a) (a1 : a < 4294967296) (b0 : 0 ≤ b) (b1 : b < 4294967296) (m0 : 0 ≤ imm) (m1 : imm < 4294967296) (w : World) : Calls Tryz.prog 69 #[.agg #[.int .i64 3, .int .i64 rd, .int .i64 rs1, .int .i64 rs2, .int .i64 csr, .int .u32 imm, .bool aq, .bool rl], .int .u32 pc, .int .u32 a, .int .u32 b] w fun e w' => e = .returned (.int .u32 ((pc + imm) % 4294967296)) ∧ Below w.heap.size w w' := by
  have hb : Below w.heap.size w w := Below.refl _ _
  have hk : W.takV 3 a b = false := rfl
  go_enter Tryz.func69, Tryz.ntmps69
  go_wp2_with (go_at_call 88; refine (tak_any 3 a b a0 a1 b0 b1 _).mono ?_; rintro e w' ⟨rfl, rfl⟩)
  go_ret
  exact ⟨rfl, by repeat (first | exact hb | exact hb.alloc hb.size _)⟩

theorem next_4 (rd rs1 rs2 csr imm : Int) (aq rl : Bool) (pc a b : Int) (a0 : 0 ≤ a) (a1 : a < 4294967296) (b0 : 0 ≤ b) (b1 : b < 4294967296) (m0 : 0 ≤ imm) (m1 : imm < 4294967296) (w : World) : Calls Tryz.prog 69 #[.agg #[.int .i64 4, .int .i64 rd, .int .i64 rs1, .int .i64 rs2, .int .i64 csr, .int .u32 imm, .bool aq, .bool rl], .int .u32 pc, .int .u32 a, .int .u32 b] w fun e w' => e = .returned (.int .u32 (bits .andNot .u32 ((a + imm) % 4294967296) 1)) ∧ Below w.heap.size w w' := by
  have hb : Below w.heap.size w w := Below.refl _ _
  have hk : W.takV 4 a b = false := rfl
  go_enter Tryz.func69, Tryz.ntmps69
  go_wp2_with (go_at_call 88; refine (tak_any 4 a b a0 a1 b0 b1 _).mono ?_; rintro e w' ⟨rfl, rfl⟩)
  go_ret
  exact ⟨rfl, by repeat (first | exact hb | exact hb.alloc hb.size _)⟩

theorem next_any (op rd rs1 rs2 csr imm : Int) (aq rl : Bool) (pc a b : Int) (a0 : 0 ≤ a) (a1 : a < 4294967296) (b0 : 0 ≤ b) (b1 : b < 4294967296) (m0 : 0 ≤ imm) (m1 : imm < 4294967296) (w : World) : Calls Tryz.prog 69 #[.agg #[.int .i64 op, .int .i64 rd, .int .i64 rs1, .int .i64 rs2, .int .i64 csr, .int .u32 imm, .bool aq, .bool rl], .int .u32 pc, .int .u32 a, .int .u32 b] w fun e w' => e = .returned (.int .u32 (W.nextV op imm pc a b)) ∧ Below w.heap.size w w' := by
  have hb : Below w.heap.size w w := Below.refl _ _
  cases q3 : (op == 3)
  case true => obtain rfl := beq_iff_eq.1 q3; exact next_3 rd rs1 rs2 csr imm aq rl pc a b a0 a1 b0 b1 m0 m1 w
  cases q4 : (op == 4)
  case true => obtain rfl := beq_iff_eq.1 q4; exact next_4 rd rs1 rs2 csr imm aq rl pc a b a0 a1 b0 b1 m0 m1 w
  cases ht : W.takV op a b
  · have hv : Hid (W.nextV op imm pc a b = (pc + 4) % 4294967296) := (by rw [W.nextV, q3, q4, ht]; rfl : W.nextV op imm pc a b = _)
    go_enter Tryz.func69, Tryz.ntmps69
    go_wp2_with (go_at_call 88; refine (tak_any op a b a0 a1 b0 b1 _).mono ?_; rintro e w' ⟨rfl, rfl⟩)
    go_ret
    exact ⟨ret_int hv.out.symm, by repeat (first | exact hb | exact hb.alloc hb.size _)⟩
  · have hv : Hid (W.nextV op imm pc a b = (pc + imm) % 4294967296) := (by rw [W.nextV, q3, q4, ht]; rfl : W.nextV op imm pc a b = _)
    go_enter Tryz.func69, Tryz.ntmps69
    go_wp2_with (go_at_call 88; refine (tak_any op a b a0 a1 b0 b1 _).mono ?_; rintro e w' ⟨rfl, rfl⟩)
    go_ret
    exact ⟨ret_int hv.out.symm, by repeat (first | exact hb | exact hb.alloc hb.size _)⟩

end Go.Proofs.YteilpehekabccabGreatDoor

/- Plain mirrors of package hart: the step as a whole. -/
namespace Go.Proofs.YteilpehekabccabGreatDoor.W
open Go.RowKit
set_option linter.unusedVariables false
/-- Is entry k the one that is asked for? -/
def ask (satp mode va acc bytes : Int) (A V : Nat → Int) (k : Nat) : Bool := ((nextS satp mode va acc bytes k A V).k == 3) && ((nextS satp mode va acc bytes k A V).ad == A k)
def askAll (satp mode va acc bytes : Int) (A V : Nat → Int) : Nat → Bool
  | 0 => true
  | n + 1 => askAll satp mode va acc bytes A V n && ask satp mode va acc bytes A V n
def noS : Stp := ⟨0, 0, 0, 0, 0⟩
def walkS (satp mode va acc bytes : Int) (n : Nat) (A V : Nat → Int) : Stp := bif askAll satp mode va acc bytes A V n then nextS satp mode va acc bytes n A V else noS
def hwalk (h : Ht) (va acc : Int) (n : Nat) (A V : Nat → Int) : Stp := walkS h.G.satp h.G.m va acc h.by_ n A V
def splace (S : St) (va acc : Int) (n : Nat) (A V : Nat → Int) : St := bif (hwalk S.h va acc n A V).k == 2 then strap S (hwalk S.h va acc n A V).ca va else S

def sacc2 (S : St) (i : I) (b addr sort : Int) (pa : Int) : St :=
  bif !hhas S.h pa (sz i.op) && !rings i.op pa then strap { S with w := { S.w with pa := pa } } (cause sort false) addr
  else smove { S with w := { S.w with pa := pa } } i b { Ef.no with ad := pa, sz := sz i.op }
def sacc1 (S : St) (i : I) (b addr sort : Int) (n : Nat) (A V : Nat → Int) : St :=
  bif (hwalk S.h addr sort n A V).k == 1 then sacc2 { S with w := { S.w with wk := S.r.wk } } i b addr sort (hwalk S.h addr sort n A V).pa
  else splace { S with w := { S.w with wk := S.r.wk } } addr sort n A V
def sacc (S : St) (i : I) (a b : Int) (n : Nat) (A V : Nat → Int) : St :=
  let addr := (a + i.imm) % 4294967296
  bif addr % sz i.op != 0 then strap S (bif kind i.op == 4 then 4 else 6) addr else sacc1 S i b addr (bif kind i.op == 4 then 2 else 3) n A V
def sreck (S : St) (i : I) (a b : Int) : St :=
  bif nextV i.op i.imm S.h.pc a b % 4 != 0 then strap S 0 (nextV i.op i.imm S.h.pc a b) else
  let T := sret (sput S i.rd (resV i.op i.imm S.h.pc a b)) Ef.no
  { T with h := { T.h with pc := nextV i.op i.imm S.h.pc a b } }
def sdo (S : St) (i : I) (n : Nat) (A V : Nat → Int) : St :=
  bif decide (1 ≤ kind i.op) && decide (kind i.op ≤ 3) then sreck S i (xget S.h i.rs1) (xget S.h i.rs2) else
  bif decide (4 ≤ kind i.op) && decide (kind i.op ≤ 6) then sacc S i (xget S.h i.rs1) (xget S.h i.rs2) n A V else sgov S i (xget S.h i.rs1)
def sfet2 (S : St) (n : Nat) (A V : Nat → Int) : St :=
  let T : St := { S with w := { S.w with wd := S.r.wd } }
  bif decB S.r.wd then sdo T (decI S.r.wd) n A V else sill T
def sfet1 (S : St) (pa : Int) (n : Nat) (A V : Nat → Int) : St :=
  let T : St := { S with w := { S.w with fpa := pa } }
  bif hhas S.h pa 4 then sfet2 T n A V else strap T 1 S.h.pc
def sfet (S : St) (m : Nat) (B U : Nat → Int) (n : Nat) (A V : Nat → Int) : St :=
  bif S.h.pc % 4 != 0 then strap S 0 S.h.pc else
  let T : St := { S with w := { S.w with fw := S.r.fw } }
  bif (hwalk S.h S.h.pc 1 m B U).k == 1 then sfet1 T (hwalk S.h S.h.pc 1 m B U).pa n A V else splace T S.h.pc 1 m B U
def sint (S : St) : St :=
  let T : St := { S with h := { S.h with G := bell S.h.G true } }
  bif pend T.h.G then (let U := strap T 2147483651 0; { U with w := { U.w with k := 3 } }) else T
def srun (S : St) (m : Nat) (B U : Nat → Int) (n : Nat) (A V : Nat → Int) : St := bif S.r.k == 3 then sint S else sfet S m B U n A V
def sameE (e w : Ev) : Bool := (e.k == w.k) && ((e.pc == w.pc) && ((e.wd == w.wd) && ((e.fpa == w.fpa) && ((e.pa == w.pa) && ((e.ld == w.ld) && ((e.ca == w.ca) && ((e.tv == w.tv) && ((e.dn == w.dn) && ((e.fw.n == w.fw.n) && (e.wk.n == w.wk.n))))))))))
def st0 (h : Ht) (e : Ev) : St := ⟨h, e, ⟨0, h.pc, 0, 0, 0, 0, Sl.nil, Sl.nil, 0, 0, false, 0, 0⟩, Ef.no⟩
def rrun (h : Ht) (e : Ev) (m : Nat) (B U : Nat → Int) (n : Nat) (A V : Nat → Int) : St := srun (st0 h e) m B U n A V
/-- Is the event a step of the hart? -/
def isStep (h : Ht) (e : Ev) (m : Nat) (B U : Nat → Int) (n : Nat) (A V : Nat → Int) : Bool := !((rrun h e m B U n A V).w.k == 0) && sameE e (rrun h e m B U n A V).w
end Go.Proofs.YteilpehekabccabGreatDoor.W

/- Whole parts out of memory and into it, by law: harts, events, effects. -/
namespace Go.Proofs.YteilpehekabccabGreatDoor
open Go.ChangeShapes Go.WideShapes Go.ChangeAt Go.RowKit
set_option linter.unusedVariables false
set_option linter.unusedSimpArgs false

theorem load_part {b off : Nat} {cs all : Array Value} {T ty : TypeId} {w : World} (h : w.heap[b]? = some (.cells all T)) (hcs : ∀ j v, cs[j]? = some v → all[off + j]? = some v) (ha : (isAgg ty).run Tryz.prog w = .ok true w) (hs : (sizeOf ty).run Tryz.prog w = .ok cs.size w) : (loadVar ty ⟨b, off, none⟩).run Tryz.prog w = .ok (.agg cs) w := by
  have hl := run_loadCells_list (P := Tryz.prog) w ⟨b, off, none⟩ cs.toList (fun j v hv => by
    have hadd : (⟨b, off, none⟩ : Addr).add j = ⟨b, off + j, none⟩ := by unfold Addr.add; split <;> simp_all
    rw [hadd, cell_of_row _ _ (off + j) all T (0, 0) h]
    exact hcs j v (by simpa using hv))
  simp only [Array.length_toList, Array.toArray_toList] at hl
  simp [loadVar, Sem.run_bind, ha, hs, hl]
theorem at_part (A cs B : Array Value) (n j : Nat) (v : Value) (hn : A.size = n) (h : cs[j]? = some v) : (A ++ (cs ++ B))[n + j]? = some v := by
  subst hn
  rw [Array.getElem?_append_right (by omega), Nat.add_sub_cancel_left, Array.getElem?_append_left ((Array.getElem?_eq_some_iff.1 h).1), h]

/-- Whole loads, stores, builds: words that the walk does not open. -/
def ldH (a : Addr) : Sem Value := loadVar 49 a
def stH (a : Addr) (v : Value) : Sem Unit := storeVar 49 a v
def ldE (a : Addr) : Sem Value := loadVar 29 a
def stS (a : Addr) (v : Value) : Sem Unit := storeVar 55 a v
def bdS (l : Array (Nat × Value)) : Sem Value := Instr.build 55 l
def bdH (l : Array (Nat × Value)) : Sem Value := Instr.build 49 l
def ldF (a : Addr) : Sem Value := loadVar 35 a
def stF (a : Addr) (v : Value) : Sem Unit := storeVar 35 a v
theorem ldF_eq (a : Addr) : loadVar 35 a = ldF a := rfl
theorem stF_eq (a : Addr) (v : Value) : storeVar 35 a v = stF a v := rfl
theorem ldH_eq (a : Addr) : loadVar 49 a = ldH a := rfl
theorem stH_eq (a : Addr) (v : Value) : storeVar 49 a v = stH a v := rfl
theorem ldE_eq (a : Addr) : loadVar 29 a = ldE a := rfl
theorem stS_eq (a : Addr) (v : Value) : storeVar 55 a v = stS a v := rfl
theorem bdS_eq (l : Array (Nat × Value)) : Instr.build 55 l = bdS l := rfl
theorem bdH_eq (l : Array (Nat × Value)) : Instr.build 49 l = bdH l := rfl

theorem hartCells_size (H : W.Ht) : (hartCells H).size = 45 := by rw [hartAll_eq]; rfl
theorem hartCells_all (H : W.Ht) : (hartCells H).all (fun x => x.oneCell') = true := by
  simp [hartCells, fileCells, hRest, Value.oneCell']
theorem HAt.loadV {b : Nat} {H : W.Ht} {w : World} (h : HAt b H w) : (loadVar 49 ⟨b, 0, none⟩).run Tryz.prog w = .ok (.agg (hartCells H)) w := by
  have e : w.heap[b]? = some (.cells (hartCells H) 49) := h.out
  refine load_part e (fun j v hv => by simpa using hv) ?_ ?_
  · simp [go_sem]
  · rw [hartCells_size]; simp [go_sem]

theorem SAt.loadH {b : Nat} {S : W.St} {w : World} (h : SAt b S w) : (loadVar 49 ⟨b, 0, none⟩).run Tryz.prog w = .ok (.agg (hartCells S.h)) w := by
  have e : w.heap[b]? = some (.cells (fileCells S.h.G ++ (hRest S.h ++ (evCells S.r ++ (evCells S.w ++ efCells S.e)))) 55) := h.out
  rw [← Array.append_assoc] at e
  refine load_part e (fun j v hv => ?_) ?_ ?_
  · rw [Nat.zero_add, Array.getElem?_append_left (by exact (Array.getElem?_eq_some_iff.1 hv).1)]; exact hv
  · simp [go_sem]
  · rw [hartCells_size]; simp [go_sem]
theorem SAt.loadW {b : Nat} {S : W.St} {w : World} (h : SAt b S w) : (loadVar 29 ⟨b, 58, none⟩).run Tryz.prog w = .ok (.agg (evCells S.w)) w := by
  have e : w.heap[b]? = some (.cells (fileCells S.h.G ++ (hRest S.h ++ (evCells S.r ++ (evCells S.w ++ efCells S.e)))) 55) := h.out
  rw [← Array.append_assoc, ← Array.append_assoc] at e
  refine load_part e (fun j v hv => at_part _ _ _ 58 j v ?_ hv) ?_ ?_
  · simp [fileCells, hRest, evCells]
  · simp [go_sem]
  · rw [evCells_size]; simp [go_sem]
theorem SAt.loadE {b : Nat} {S : W.St} {w : World} (h : SAt b S w) : (loadVar 35 ⟨b, 71, none⟩).run Tryz.prog w = .ok (.agg (efCells S.e)) w := by
  have e : w.heap[b]? = some (.cells (fileCells S.h.G ++ (hRest S.h ++ (evCells S.r ++ (evCells S.w ++ efCells S.e)))) 55) := h.out
  have e2 : fileCells S.h.G ++ (hRest S.h ++ (evCells S.r ++ (evCells S.w ++ efCells S.e))) = (fileCells S.h.G ++ hRest S.h ++ evCells S.r ++ evCells S.w) ++ (efCells S.e ++ #[]) := by simp [Array.append_assoc]
  rw [e2] at e
  refine load_part e (fun j v hv => at_part _ _ _ 71 j v ?_ hv) ?_ ?_
  · simp [fileCells, hRest, evCells]
  · simp [go_sem]
  · rw [efCells_size]; simp [go_sem]
theorem info72 : (Tryz.prog.info? 49).map (·.size) = some 45 := by kernel_rfl
/-- A hart into a new block. -/
theorem store_new (w : World) (H : W.Ht) (Z : Array Value) (hz : Z.size = 45) : (storeVar 49 ⟨w.heap.size, 0, none⟩ (.agg (hartCells H))).run Tryz.prog (w.alloc (.cells Z 49)) = .ok () (w.alloc (.cells (hartCells H) 49)) :=
  run_storeVar_new w _ Z (hartCells H) (by rw [info72, hartCells_size]) (by rw [hz, hartCells_size]) (hartCells_all H)
/-- A hart over another one. -/
theorem HAt.store {b : Nat} {H K : W.Ht} {w : World} (h : HAt b H w) : (storeVar 49 ⟨b, 0, none⟩ (.agg (hartCells K))).run Tryz.prog w = .ok () (w.setRow b (hartCells K)) := by
  have e : w.heap[b]? = some (.cells (hartCells H) 49) := h.out
  exact run_storeVar_row w b _ _ _ _ e (by rw [info72, hartCells_size]) (by rw [hartCells_size, hartCells_size]) (hartCells_all K)
theorem HAt.set {b : Nat} {H K : W.Ht} {w : World} (h : HAt b H w) : HAt b K (w.setRow b (hartCells K)) := by
  have e : w.heap[b]? = some (.cells (hartCells H) 49) := h.out
  exact ⟨setRow_heap w b _ _ _ _ e⟩
theorem gsetRow (w : World) (b : Nat) (cs : Array Value) : w.grownBy (w.setRow b cs) (some b) :=
  ⟨rfl, rfl, rfl, by simp [World.setRow], fun k _ hne => setRow_other w b k cs (by simpa using hne)⟩
theorem gover {x y z : World} {r : Option Nat} {d : Nat} (h : x.grownBy y r) (k : y.grownBy z (some d)) (hd : x.heap.size ≤ d) : x.grownBy z r :=
  ⟨k.os.trans h.os, k.tape.trans h.tape, k.output.trans h.output, Nat.le_trans h.size k.size, fun i hi hne => (k.block i (Nat.lt_of_lt_of_le hi h.size) (by simp; omega)).trans (h.block i hi hne)⟩
theorem info35 : (Tryz.prog.info? 35).map (·.size) = some 7 := by kernel_rfl
theorem efCells_all (e : W.Ef) : (efCells e).all (fun x => x.oneCell') = true := by
  simp [efCells, Value.oneCell']
theorem ef_store {g : Nat} {w : World} {Z : Array Value} {T : TypeId} (e : W.Ef) (h : w.heap[g]? = some (.cells Z T)) (hz : Z.size = 7) : (storeVar 35 ⟨g, 0, none⟩ (.agg (efCells e))).run Tryz.prog w = .ok () (w.setRow g (efCells e)) :=
  run_storeVar_row w g _ _ _ _ h (by rw [info35, efCells_size]) (by rw [hz, efCells_size]) (efCells_all e)
theorem ef_load {g : Nat} {w : World} {T : TypeId} {e : W.Ef} (h : w.heap[g]? = some (.cells (efCells e) T)) : (loadVar 35 ⟨g, 0, none⟩).run Tryz.prog w = .ok (.agg (efCells e)) w := by
  refine load_part h (fun j v hv => by simpa using hv) ?_ ?_
  · simp [go_sem]
  · rw [efCells_size]; simp [go_sem]
theorem HAt.new (w : World) (H : W.Ht) : HAt w.heap.size H (w.alloc (.cells (hartCells H) 49)) := ⟨heap_alloc_last w _⟩
end Go.Proofs.YteilpehekabccabGreatDoor

/- Replay's step, laid: the hart and the event by letters. -/
namespace Go.Proofs.YteilpehekabccabGreatDoor
open Go.ChangeShapes Go.WideShapes Go.ChangeAt Go.RowKit
set_option linter.unusedVariables false
set_option linter.unusedSimpArgs false

theorem ev_two (w : World) (A B : Obj) : ((w.alloc A).alloc B).heap[w.heap.size]? = some A ∧ ((w.alloc A).alloc B).heap[w.heap.size + 1]? = some B := by
  constructor
  · show ((w.heap.push A).push B)[w.heap.size]? = _; rw [Array.getElem?_push, Array.getElem?_push]; simp
  · show ((w.heap.push A).push B)[w.heap.size + 1]? = _; rw [Array.getElem?_push]; simp
theorem limbsL {b g : Nat} {w : World} {H : W.Ht} {v0 v1 v2 v3 v4 v5 v6 v7 v8 v9 v10 v11 v13 v14 v15 v16 v17 v18 v19 v20 v21 v22 v23 v24 v25 v26 v27 v28 v29 v30 v31 v32 v33 v34 v35 v36 v37 v38 v39 v40 v41 v42 v43 v44 e0 e1 e2 e3 e4 e5 e6 e7 e8 e9 e10 e11 e12 : Value} {T T2 : TypeId} (h : w.heap[b]? = some (.cells #[v0, v1, v2, v3, v4, v5, v6, v7, v8, v9, v10, v11, (.int .u32 H.pc), v13, v14, v15, v16, v17, v18, v19, v20, v21, v22, v23, v24, v25, v26, v27, v28, v29, v30, v31, v32, v33, v34, v35, v36, v37, v38, v39, v40, v41, v42, v43, v44] T)) (be : w.heap[g]? = some (.cells #[e0, e1, e2, e3, e4, e5, e6, e7, e8, e9, e10, e11, e12] T2)) : w.cell? ⟨b, 0, none⟩ = some v0 ∧ w.cell? ⟨b, 1, none⟩ = some v1 ∧ w.cell? ⟨b, 2, none⟩ = some v2 ∧ w.cell? ⟨b, 3, none⟩ = some v3 ∧ w.cell? ⟨b, 4, none⟩ = some v4 ∧ w.cell? ⟨b, 5, none⟩ = some v5 ∧ w.cell? ⟨b, 6, none⟩ = some v6 ∧ w.cell? ⟨b, 7, none⟩ = some v7 ∧ w.cell? ⟨b, 8, none⟩ = some v8 ∧ w.cell? ⟨b, 9, none⟩ = some v9 ∧ w.cell? ⟨b, 10, none⟩ = some v10 ∧ w.cell? ⟨b, 11, none⟩ = some v11 ∧ w.cell? ⟨b, 12, none⟩ = some (.int .u32 H.pc) ∧ w.cell? ⟨b, 13, none⟩ = some v13 ∧ w.cell? ⟨b, 14, none⟩ = some v14 ∧ w.cell? ⟨b, 15, none⟩ = some v15 ∧ w.cell? ⟨b, 16, none⟩ = some v16 ∧ w.cell? ⟨b, 17, none⟩ = some v17 ∧ w.cell? ⟨b, 18, none⟩ = some v18 ∧ w.cell? ⟨b, 19, none⟩ = some v19 ∧ w.cell? ⟨b, 20, none⟩ = some v20 ∧ w.cell? ⟨b, 21, none⟩ = some v21 ∧ w.cell? ⟨b, 22, none⟩ = some v22 ∧ w.cell? ⟨b, 23, none⟩ = some v23 ∧ w.cell? ⟨b, 24, none⟩ = some v24 ∧ w.cell? ⟨b, 25, none⟩ = some v25 ∧ w.cell? ⟨b, 26, none⟩ = some v26 ∧ w.cell? ⟨b, 27, none⟩ = some v27 ∧ w.cell? ⟨b, 28, none⟩ = some v28 ∧ w.cell? ⟨b, 29, none⟩ = some v29 ∧ w.cell? ⟨b, 30, none⟩ = some v30 ∧ w.cell? ⟨b, 31, none⟩ = some v31 ∧ w.cell? ⟨b, 32, none⟩ = some v32 ∧ w.cell? ⟨b, 33, none⟩ = some v33 ∧ w.cell? ⟨b, 34, none⟩ = some v34 ∧ w.cell? ⟨b, 35, none⟩ = some v35 ∧ w.cell? ⟨b, 36, none⟩ = some v36 ∧ w.cell? ⟨b, 37, none⟩ = some v37 ∧ w.cell? ⟨b, 38, none⟩ = some v38 ∧ w.cell? ⟨b, 39, none⟩ = some v39 ∧ w.cell? ⟨b, 40, none⟩ = some v40 ∧ w.cell? ⟨b, 41, none⟩ = some v41 ∧ w.cell? ⟨b, 42, none⟩ = some v42 ∧ w.cell? ⟨b, 43, none⟩ = some v43 ∧ w.cell? ⟨b, 44, none⟩ = some v44 ∧ w.cell? ⟨g, 0, none⟩ = some e0 ∧ w.cell? ⟨g, 1, none⟩ = some e1 ∧ w.cell? ⟨g, 2, none⟩ = some e2 ∧ w.cell? ⟨g, 3, none⟩ = some e3 ∧ w.cell? ⟨g, 4, none⟩ = some e4 ∧ w.cell? ⟨g, 5, none⟩ = some e5 ∧ w.cell? ⟨g, 6, none⟩ = some e6 ∧ w.cell? ⟨g, 7, none⟩ = some e7 ∧ w.cell? ⟨g, 8, none⟩ = some e8 ∧ w.cell? ⟨g, 9, none⟩ = some e9 ∧ w.cell? ⟨g, 10, none⟩ = some e10 ∧ w.cell? ⟨g, 11, none⟩ = some e11 ∧ w.cell? ⟨g, 12, none⟩ = some e12 := by
  simp [World.cell?, h, be]
theorem HAt.row {b : Nat} {H : W.Ht} {w : World} (h : HAt b H w) : w.heap[b]? = some (.cells (hartAll H) 49) := by
  have e : w.heap[b]? = some (.cells (hartCells H) 49) := h.out
  rwa [hartAll_eq] at e
set_option maxRecDepth 100000 in
theorem sat_of {b : Nat} {w : World} {H : W.Ht} {ev : W.Ev} {v0 v1 v2 v3 v4 v5 v6 v7 v8 v9 v10 v11 v13 v14 v15 v16 v17 v18 v19 v20 v21 v22 v23 v24 v25 v26 v27 v28 v29 v30 v31 v32 v33 v34 v35 v36 v37 v38 v39 v40 v41 v42 v43 v44 e0 e1 e2 e3 e4 e5 e6 e7 e8 e9 e10 e11 e12 : Value} (hv : hartAll H = #[v0, v1, v2, v3, v4, v5, v6, v7, v8, v9, v10, v11, (.int .u32 H.pc), v13, v14, v15, v16, v17, v18, v19, v20, v21, v22, v23, v24, v25, v26, v27, v28, v29, v30, v31, v32, v33, v34, v35, v36, v37, v38, v39, v40, v41, v42, v43, v44]) (he : evCells ev = #[e0, e1, e2, e3, e4, e5, e6, e7, e8, e9, e10, e11, e12]) (h : w.heap[b]? = some (.cells #[v0, v1, v2, v3, v4, v5, v6, v7, v8, v9, v10, v11, (.int .u32 H.pc), v13, v14, v15, v16, v17, v18, v19, v20, v21, v22, v23, v24, v25, v26, v27, v28, v29, v30, v31, v32, v33, v34, v35, v36, v37, v38, v39, v40, v41, v42, v43, v44, e0, e1, e2, e3, e4, e5, e6, e7, e8, e9, e10, e11, e12, .int .i64 0, (.int .u32 H.pc), .int .u32 0, .int .u32 0, .int .u32 0, .int .u32 0, .slice none 0 0, .slice none 0 0, .int .u32 0, .int .u32 0, .bool false, .int .i64 0, .int .i64 0, .int .i64 0, .int .u32 0, .int .i64 0, .int .u32 0, .bool false, .bool false, .bool false] 55)) : SAt b (W.st0 H ev) w := by
  refine ⟨?_⟩
  show w.heap[b]? = some (.cells (fileCells H.G ++ sRest ⟨H, ev, _, W.Ef.no⟩) 55)
  rw [stepAll_eq, h]
  have hv' := congrArg Array.toList hv
  have he' := congrArg Array.toList he
  simp only [hartAll, evCells, List.cons.injEq, and_true] at hv' he'
  obtain ⟨rfl, rfl, rfl, rfl, rfl, rfl, rfl, rfl, rfl, rfl, rfl, rfl, _, rfl, rfl, rfl, rfl, rfl, rfl, rfl, rfl, rfl, rfl, rfl, rfl, rfl, rfl, rfl, rfl, rfl, rfl, rfl, rfl, rfl, rfl, rfl, rfl, rfl, rfl, rfl, rfl, rfl, rfl, rfl, rfl⟩ := hv'
  obtain ⟨rfl, rfl, rfl, rfl, rfl, rfl, rfl, rfl, rfl, rfl, rfl, rfl, rfl⟩ := he'
  rfl
set_option maxRecDepth 100000 in
theorem all_of {H : W.Ht} {ev : W.Ev} {v0 v1 v2 v3 v4 v5 v6 v7 v8 v9 v10 v11 v13 v14 v15 v16 v17 v18 v19 v20 v21 v22 v23 v24 v25 v26 v27 v28 v29 v30 v31 v32 v33 v34 v35 v36 v37 v38 v39 v40 v41 v42 v43 v44 e0 e1 e2 e3 e4 e5 e6 e7 e8 e9 e10 e11 e12 : Value} (hv : hartAll H = #[v0, v1, v2, v3, v4, v5, v6, v7, v8, v9, v10, v11, (.int .u32 H.pc), v13, v14, v15, v16, v17, v18, v19, v20, v21, v22, v23, v24, v25, v26, v27, v28, v29, v30, v31, v32, v33, v34, v35, v36, v37, v38, v39, v40, v41, v42, v43, v44]) (he : evCells ev = #[e0, e1, e2, e3, e4, e5, e6, e7, e8, e9, e10, e11, e12]) : (#[v0, v1, v2, v3, v4, v5, v6, v7, v8, v9, v10, v11, (.int .u32 H.pc), v13, v14, v15, v16, v17, v18, v19, v20, v21, v22, v23, v24, v25, v26, v27, v28, v29, v30, v31, v32, v33, v34, v35, v36, v37, v38, v39, v40, v41, v42, v43, v44, e0, e1, e2, e3, e4, e5, e6, e7, e8, e9, e10, e11, e12, .int .i64 0, (.int .u32 H.pc), .int .u32 0, .int .u32 0, .int .u32 0, .int .u32 0, .slice none 0 0, .slice none 0 0, .int .u32 0, .int .u32 0, .bool false, .int .i64 0, .int .i64 0, .int .i64 0, .int .u32 0, .int .i64 0, .int .u32 0, .bool false, .bool false, .bool false] : Array Value).all (fun x => x.oneCell') = true := by
  have hv' := congrArg Array.toList hv
  have he' := congrArg Array.toList he
  simp only [hartAll, evCells, List.cons.injEq, and_true] at hv' he'
  obtain ⟨rfl, rfl, rfl, rfl, rfl, rfl, rfl, rfl, rfl, rfl, rfl, rfl, _, rfl, rfl, rfl, rfl, rfl, rfl, rfl, rfl, rfl, rfl, rfl, rfl, rfl, rfl, rfl, rfl, rfl, rfl, rfl, rfl, rfl, rfl, rfl, rfl, rfl, rfl, rfl, rfl, rfl, rfl, rfl, rfl⟩ := hv'
  obtain ⟨rfl, rfl, rfl, rfl, rfl, rfl, rfl, rfl, rfl, rfl, rfl, rfl, rfl⟩ := he'
  exact all81 H ev ⟨0, H.pc, 0, 0, 0, 0, W.Sl.nil, W.Sl.nil, 0, 0, false, 0, 0⟩ W.Ef.no
/-- What a store comes to, told at once. -/
theorem upon_store {P : Program} {o : Oper} {a : Act} {next : Act → World → Prop} {Q : Exit → Act → World → Prop} {X : Result Unit} (W' : World) (hX : X = .ok () W') (h : next (a.put o.dst undef) W') : Oper.upon P o a next Q (X.andThen fun _ w' => .ok .skip w') := by
  subst hX
  exact h
/-- A value that an operation yields, told at once. -/
theorem upon_val {P : Program} {o : Oper} {a : Act} {next : Act → World → Prop} {Q : Exit → Act → World → Prop} {X : Result Value} (v : Value) (W' : World) (hX : X = .ok v W') (h : next (a.put o.dst v) W') : Oper.upon P o a next Q (X.andThen fun x w' => .ok (.value x) w') := by
  subst hX
  exact h
end Go.Proofs.YteilpehekabccabGreatDoor

/- What each function of package pte returns, as a plain function of its numbers: a contract a function. -/
namespace Go.Proofs.YteilpehekabccabGreatDoor
open Go.ChangeShapes Go.WideShapes Go.ChangeAt Go.RowKit
set_option linter.unusedVariables false

theorem leaf_any (e : Int) (w : World) : Calls Tryz.prog 104 #[.int .u32 e] w fun x w' => x = .returned (.bool (W.leaf e)) ∧ w' = w := by
  go_enter Tryz.func104, Tryz.ntmps104
  go_wp2
  go_ret
  exact ⟨rfl, rfl⟩

theorem either_any (b : Bool) (p q : Int) (w : World) : Calls Tryz.prog 91 #[.bool b, .int .u32 p, .int .u32 q] w fun x w' => x = .returned (.int .u32 (bif b then p else q)) ∧ w' = w := by
  cases b
  all_goals
    go_enter Tryz.func91, Tryz.ntmps91
    go_wp2
    go_ret
    exact ⟨rfl, rfl⟩

theorem asked_any (a : Int) (w : World) : Calls Tryz.prog 128 #[.int .i64 a] w fun x w' => x = .returned (.int .u32 (W.asked a)) ∧ w' = w := by
  by_cases h1 : a = 1
  · subst h1
    go_enter Tryz.func128, Tryz.ntmps128
    go_wp2
    go_ret
    exact ⟨rfl, rfl⟩
  · by_cases h2 : a = 2
    · subst h2
      go_enter Tryz.func128, Tryz.ntmps128
      go_wp2
      go_ret
      exact ⟨rfl, rfl⟩
    · by_cases h3 : a = 3
      · subst h3
        go_enter Tryz.func128, Tryz.ntmps128
        go_wp2
        go_ret
        exact ⟨rfl, rfl⟩
      · go_enter Tryz.func128, Tryz.ntmps128
        go_wp2
        go_ret
        exact ⟨by simp [W.asked, h1, h2, h3], rfl⟩

theorem opn_any (e m : Int) (w : World) : Calls Tryz.prog 129 #[.int .u32 e, .int .i64 m] w fun x w' => x = .returned (.bool (W.opn e m)) ∧ w' = w := by
  by_cases h1 : m = 0
  · subst h1
    go_enter Tryz.func129, Tryz.ntmps129
    go_wp2
    go_ret
    exact ⟨rfl, rfl⟩
  · by_cases h2 : m = 3
    · subst h2
      go_enter Tryz.func129, Tryz.ntmps129
      go_wp2
      go_ret
      exact ⟨rfl, rfl⟩
    · go_enter Tryz.func129, Tryz.ntmps129
      go_wp2
      go_ret
      exact ⟨by simp [W.opn, h1, h2], rfl⟩

theorem needs_any (e a : Int) (w : World) : Calls Tryz.prog 123 #[.int .u32 e, .int .i64 a] w fun x w' => x = .returned (.int .u32 (W.needs e a)) ∧ w' = w := by
  by_cases h1 : a = 3
  · subst h1
    go_enter Tryz.func123, Tryz.ntmps123
    go_wp2
    go_ret
    exact ⟨rfl, rfl⟩
  · go_enter Tryz.func123, Tryz.ntmps123
    go_wp2
    go_ret
    exact ⟨ret_int (by rw [W.needs, if_neg h1]), rfl⟩

theorem cause_any (a : Int) (p : Bool) (w : World) : Calls Tryz.prog 75 #[.int .i64 a, .bool p] w fun x w' => x = .returned (.int .u32 (W.cause a p)) ∧ w' = w := by
  by_cases h1 : a = 1
  · subst h1
    go_enter Tryz.func75, Tryz.ntmps75
    go_wp2_with (go_at_call 91; refine (either_any _ _ _ _).mono ?_; rintro e w' ⟨rfl, rfl⟩)
    go_ret
    exact ⟨rfl, rfl⟩
  · by_cases h2 : a = 2
    · subst h2
      go_enter Tryz.func75, Tryz.ntmps75
      go_wp2_with (go_at_call 91; refine (either_any _ _ _ _).mono ?_; rintro e w' ⟨rfl, rfl⟩)
      go_ret
      exact ⟨rfl, rfl⟩
    · by_cases h3 : a = 3
      · subst h3
        go_enter Tryz.func75, Tryz.ntmps75
        go_wp2_with (go_at_call 91; refine (either_any _ _ _ _).mono ?_; rintro e w' ⟨rfl, rfl⟩)
        go_ret
        exact ⟨rfl, rfl⟩
      · go_enter Tryz.func75, Tryz.ntmps75
        go_wp2
        go_ret
        exact ⟨ret_int (by simp [W.cause, h1, h2, h3]), rfl⟩

theorem bad_any (e : Int) (w : World) : Calls Tryz.prog 103 #[.int .u32 e] w fun x w' => x = .returned (.bool (W.bad e)) ∧ w' = w := by
  cases h1 : (bits .and .u32 e 1 == 0)
  · cases h2 : (bits .and .u32 e 4 != 0)
    · cases h4 : W.leaf e
      · go_enter Tryz.func103, Tryz.ntmps103
        go_wp2_with (go_at_call 104; refine (leaf_any _ _).mono ?_; rintro e w' ⟨rfl, rfl⟩)
        go_ret
        exact ⟨by simp [W.bad, h1, h2, h4], rfl⟩
      · go_enter Tryz.func103, Tryz.ntmps103
        go_wp2_with (go_at_call 104; refine (leaf_any _ _).mono ?_; rintro e w' ⟨rfl, rfl⟩)
        go_ret
        exact ⟨by simp [W.bad, h1, h2, h4], rfl⟩
    · cases h3 : (bits .and .u32 e 2 == 0)
      · cases h4 : W.leaf e
        · go_enter Tryz.func103, Tryz.ntmps103
          go_wp2_with (go_at_call 104; refine (leaf_any _ _).mono ?_; rintro e w' ⟨rfl, rfl⟩)
          go_ret
          exact ⟨by simp [W.bad, h1, h2, h3, h4], rfl⟩
        · go_enter Tryz.func103, Tryz.ntmps103
          go_wp2_with (go_at_call 104; refine (leaf_any _ _).mono ?_; rintro e w' ⟨rfl, rfl⟩)
          go_ret
          exact ⟨by simp [W.bad, h1, h2, h3, h4], rfl⟩
      · go_enter Tryz.func103, Tryz.ntmps103
        go_wp2
        go_ret
        exact ⟨by simp [W.bad, h1, h2, h3], rfl⟩
  · go_enter Tryz.func103, Tryz.ntmps103
    go_wp2
    go_ret
    exact ⟨by simp [W.bad, h1], rfl⟩
end Go.Proofs.YteilpehekabccabGreatDoor

/- May, Page and Make, and the document's own. -/
namespace Go.Proofs.YteilpehekabccabGreatDoor
open Go.ChangeShapes Go.WideShapes Go.ChangeAt Go.RowKit
set_option linter.unusedVariables false

theorem page_any (e : Int) (w : World) : Calls Tryz.prog 106 #[.int .u32 e] w fun x w' => x = .returned (.int .u32 (W.bitsOf e 10 22)) ∧ ∃ k, w' = w.drewN k := by
  go_enter Tryz.func106, Tryz.ntmps106
  go_wp2_with (go_at_call 44; refine (bits_any _ _ _ _).mono ?_; rintro e w' ⟨rfl, k, rfl⟩)
  go_ret
  exact ⟨rfl, _, rfl⟩

theorem may_any (e a m : Int) (w : World) : Calls Tryz.prog 121 #[.int .u32 e, .int .i64 a, .int .i64 m] w fun x w' => x = .returned (.bool (W.may e a m)) ∧ w' = w := by
  cases h1 : W.leaf e
  · go_enter Tryz.func121, Tryz.ntmps121
    go_wp2_with (go_at_call 104; refine (leaf_any _ _).mono ?_; rintro e w' ⟨rfl, rfl⟩)
    go_ret
    exact ⟨by simp [W.may, h1], rfl⟩
  · cases h2 : W.bad e
    · cases h3 : (bits .and .u32 e (W.asked a) != 0)
      · go_enter Tryz.func121, Tryz.ntmps121
        go_wp2_with (first | (go_at_call 104; refine (leaf_any _ _).mono ?_; rintro e w' ⟨rfl, rfl⟩) | (go_at_call 103; refine (bad_any _ _).mono ?_; rintro e w' ⟨rfl, rfl⟩) | (go_at_call 128; refine (asked_any _ _).mono ?_; rintro e w' ⟨rfl, rfl⟩))
        go_ret
        exact ⟨by simp [W.may, h1, h2, h3], rfl⟩
      · go_enter Tryz.func121, Tryz.ntmps121
        go_wp2_with (first | (go_at_call 104; refine (leaf_any _ _).mono ?_; rintro e w' ⟨rfl, rfl⟩) | (go_at_call 103; refine (bad_any _ _).mono ?_; rintro e w' ⟨rfl, rfl⟩) | (go_at_call 128; refine (asked_any _ _).mono ?_; rintro e w' ⟨rfl, rfl⟩) | (go_at_call 129; refine (opn_any _ _ _).mono ?_; rintro e w' ⟨rfl, rfl⟩))
        go_ret
        exact ⟨by simp [W.may, h1, h2, h3], rfl⟩
    · go_enter Tryz.func121, Tryz.ntmps121
      go_wp2_with (first | (go_at_call 104; refine (leaf_any _ _).mono ?_; rintro e w' ⟨rfl, rfl⟩) | (go_at_call 103; refine (bad_any _ _).mono ?_; rintro e w' ⟨rfl, rfl⟩))
      go_ret
      exact ⟨by simp [W.may, h1, h2], rfl⟩
end Go.Proofs.YteilpehekabccabGreatDoor

/- Small contracts of package walk. -/
namespace Go.Proofs.YteilpehekabccabGreatDoor
open Go.ChangeShapes Go.WideShapes Go.ChangeAt Go.RowKit
set_option linter.unusedVariables false

def W.Stp.val (s : W.Stp) : Value := .agg #[.int .i64 s.k, .int .u32 s.pa, .int .u32 s.ad, .int .u32 s.vl, .int .u32 s.ca]

theorem offBits_any (g : Bool) (w : World) : Calls Tryz.prog 119 #[.int .i64 (W.lv g)] w fun x w' => x = .returned (.int .i64 (bif g then 22 else 12)) ∧ w' = w := by
  cases g
  all_goals
    simp only [W.lv, cond_true, cond_false]
    go_enter Tryz.func119, Tryz.ntmps119
    go_wp2
    go_ret
    exact ⟨rfl, rfl⟩

theorem wplace_any (p : Int) (h0 : 0 ≤ p) (h1 : p < 4294967296) (w : World) : Calls Tryz.prog 120 #[.int .u32 p] w fun x w' => x = .returned (.int .i64 (p * 4096)) ∧ w' = w := by
  go_enter Tryz.func120, Tryz.ntmps120
  go_wp2
  go_ret
  exact ⟨rfl, rfl⟩

theorem fits_0 (p : Int) (w : World) : Calls Tryz.prog 122 #[.int .u32 p, .int .i64 0] w fun x w' => x = .returned (.bool true) ∧ ∃ k, w' = w.drewN k := by
  have hz : W.bitsOf p 0 0 = 0 := rfl
  go_enter Tryz.func122, Tryz.ntmps122
  go_wp2_with (go_at_call 44; refine (bits_any _ _ _ _).mono ?_; rintro e w' ⟨rfl, k, rfl⟩)
  go_ret
  exact ⟨rfl, _, rfl⟩

theorem fits_1 (p : Int) (h0 : 0 ≤ p) (h1 : p < 4294967296) (w : World) : Calls Tryz.prog 122 #[.int .u32 p, .int .i64 1] w fun x w' => x = .returned (.bool (p % 1024 == 0)) ∧ ∃ k, w' = w.drewN k := by
  have hz := W.bits_l10 p h0 h1
  go_enter Tryz.func122, Tryz.ntmps122
  go_wp2_with (go_at_call 44; refine (bits_any _ _ _ _).mono ?_; rintro e w' ⟨rfl, k, rfl⟩)
  go_ret
  exact ⟨rfl, _, rfl⟩

theorem wfault_any (mode va acc bytes : Int) (p : Bool) (w : World) : Calls Tryz.prog 85 #[.agg #[.int .i64 mode, .int .u32 va, .int .i64 acc, .int .i64 bytes], .bool p] w fun x w' => x = .returned (.agg #[.int .i64 2, .int .u32 0, .int .u32 0, .int .u32 0, .int .u32 (W.cause acc p)]) ∧ Below w.heap.size w w' := by
  go_enter Tryz.func85, Tryz.ntmps85
  go_wp2_with (go_at_call 75; refine (cause_any _ _ _).mono ?_; rintro e w' ⟨rfl, rfl⟩)
  exact bodyPost_ret (v := .agg #[.int .i64 2, .int .u32 0, .int .u32 0, .int .u32 0, .int .u32 (W.cause acc p)]) (by simp [results, Tryz.results85, go_sem]) rfl ⟨rfl, ((Below.refl _ _).alloc (Nat.le_refl _) _).alloc (by simp) _⟩

theorem entries_any (satp mode : Int) (h0 : 0 ≤ satp) (h1 : satp < 4294967296) (w : World) : Calls Tryz.prog 83 #[.int .u32 satp, .int .i64 mode] w fun x w' => x = .returned (.int .i64 (bif W.onB satp mode then 2 else 0)) ∧ ∃ k, w' = w.drewN k := by
  have hz := W.bits_31 satp h0 h1
  by_cases hm : mode = 3
  · subst hm
    go_enter Tryz.func83, Tryz.ntmps83
    go_wp2_with (go_at_call 44; refine (bits_any _ _ _ _).mono ?_; rintro e w' ⟨rfl, k, rfl⟩)
    go_ret
    exact ⟨rfl, 0, rfl⟩
  · by_cases hs : 2147483648 ≤ satp
    · have q : satp / 2147483648 = 1 := by omega
      rw [q] at hz
      have hr : Hid ((bif W.onB satp mode then 2 else 0 : Int) = 2) := by
        show (bif W.onB satp mode then 2 else 0 : Int) = 2
        simp [W.onB, show (mode == 3) = false by simpa using hm, hs]
      clear q hs
      go_enter Tryz.func83, Tryz.ntmps83
      go_wp2_with (go_at_call 44; refine (bits_any _ _ _ _).mono ?_; rintro e w' ⟨rfl, k, rfl⟩)
      go_ret
      exact ⟨ret_int hr.out.symm, _, rfl⟩
    · have q : satp / 2147483648 = 0 := by omega
      rw [q] at hz
      have hr : Hid ((bif W.onB satp mode then 2 else 0 : Int) = 0) := by
        show (bif W.onB satp mode then 2 else 0 : Int) = 0
        simp [W.onB, hs]
      clear q hs
      go_enter Tryz.func83, Tryz.ntmps83
      go_wp2_with (go_at_call 44; refine (bits_any _ _ _ _).mono ?_; rintro e w' ⟨rfl, k, rfl⟩)
      go_ret
      exact ⟨ret_int hr.out.symm, _, rfl⟩
end Go.Proofs.YteilpehekabccabGreatDoor
