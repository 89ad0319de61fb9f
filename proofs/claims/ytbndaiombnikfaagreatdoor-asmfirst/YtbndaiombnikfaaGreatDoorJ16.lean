/- Texts in one: RefD5, RefD6, RefD. -/
import Derived.Test.YtbndaiombnikfaaGreatDoorJ11
import Derived.Test.YtbndaiombnikfaaGreatDoorJ12
import Derived.Test.YtbndaiombnikfaaGreatDoorJ13
import Derived.Test.YtbndaiombnikfaaGreatDoorJ14
import Derived.Test.YtbndaiombnikfaaGreatDoorJ15
/- What the document's Decode returns: shapes. -/
namespace Go.Proofs.YtbndaiombnikfaaGreatDoor
open Go.ChangeShapes Go.WideShapes Go.ChangeAt Go.RowKit
set_option linter.unusedVariables false
set_option linter.unusedSimpArgs false

set_option maxRecDepth 100000 in
set_option maxHeartbeats 6400000 in
theorem dec_cls4 (x : Int) (g : Nat) (w wr : World) (j : Nat) (u : Nat → Value) (Q0 : Exit → Act → World → Prop) (X : Hid (0 ≤ x ∧ x < 4294967296)) (HD : Hid (Dc x g w j wr)) (hj1 : (j : Int) < 69) (hret : Hid (∀ a w', DQ x w .ret a w' → Q0 .ret a w')) (ro : Int) (nm : List UInt8) (oc f3 f7 : Int) (h3 h7 : Bool) (fm wh : Int) (HR : Hid (W.rw j = ⟨ro, nm, oc, f3, f7, h3, h7, fm, false, false, false, false, wh, false⟩)) (hw : (wh != 0) = false) : Code.wp Tryz.prog decBody (Exit.then (fun a' w' => DI x g w a' w' ∧ Dmu a' w' < Dmu (decFr x w.heap.size g u (.int .i64 j)) wr) Q0) (decFr x w.heap.size g u (.int .i64 j)) wr := by
  have hg : g < wr.heap.size := HD.out.tab.lt
  have hlw : w.heap.size < g := HD.out.lt
  have hj0 : (0 : Int) ≤ (j : Int) := by omega
  have hlt : w.heap.size < wr.heap.size := Nat.lt_trans hlw hg
  obtain ⟨r, hr, ho, c0, c1, c2, c3, c4, c5, c6, c7, c8, c9, c10, c11, c12, c13⟩ := HD.out.tab.at j (by omega)
  obtain rfl := hr.symm.trans HR.out
  clear hr ho
  dsimp only at c0 c1 c2 c3 c4 c5 c6 c7 c8 c9 c10 c11 c12 c13
  have hi : Hid (0 ≤ W.rimm fm x ∧ W.rimm fm x < 4294967296) := rimm_lt fm x
  have hit0 := W.rread_hit (k := j) (by omega) X.out.1 X.out.2
  obtain ⟨V, hV⟩ : ∃ V, W.rword (W.rw j) (W.rread (W.rw j) x) = V := ⟨_, rfl⟩
  rw [hV] at hit0
  have hit : Hid ((V == x) = W.hit x (j + 1)) := hit0
  rw [HR.out] at hV
  have HV : Hid (W.rword _ (W.rread _ x) = V) := hV
  clear hV hit0
  have i1 : IntKind.i64.wrap (W.bitsOf x 7 5) = W.bitsOf x 7 5 := IntWalk.i64_in _ (by have := W.bitsOf_lt x 7 5; omega)
  have i2 : IntKind.i64.wrap (W.bitsOf x 15 5) = W.bitsOf x 15 5 := IntWalk.i64_in _ (by have := W.bitsOf_lt x 15 5; omega)
  have i3 : IntKind.i64.wrap (W.bitsOf x 20 5) = W.bitsOf x 20 5 := IntWalk.i64_in _ (by have := W.bitsOf_lt x 20 5; omega)
  have i4 : IntKind.i64.wrap (W.bitsOf x 20 12) = W.bitsOf x 20 12 := IntWalk.i64_in _ (by have := W.bitsOf_lt x 20 12; omega)
  unfold decFr
  conv => arg 2; whnf
  go_wp2_with (first
    | (go_at_call 41; refine (rbits_any _ _ _ _ X.out.1 X.out.2).mono ?_; rintro e w' ⟨rfl, rfl⟩)
    | (go_at_call 42; refine (imml_any _ _ _ X.out.1 X.out.2).mono ?_; rintro e w' ⟨rfl, rfl⟩)
    | (go_at_call 30; refine (word_rd ⟨_, _, _, _, _, _, _, _, _, _, _, _, _, _⟩ x V _ ?_).mono ?_; exact HV.out; rintro e w3 ⟨rfl, hm⟩
       have hq : Below wr.heap.size wr w3 := (by
         refine Below.trans ?_ (hm.mono ?_)
         · repeat (first | exact Below.refl _ _ | refine Below.setCell ?_ (by simp) _ | refine Below.alloc ?_ (by simp) _)
         · simp
           omega)
       have y0 := hm.cell (p := ⟨wr.heap.size + 1, 0, none⟩) (by simp)
       have y1 := hm.cell (p := ⟨wr.heap.size + 1, 1, none⟩) (by simp)
       have y2 := hm.cell (p := ⟨wr.heap.size + 1, 2, none⟩) (by simp)
       have y3 := hm.cell (p := ⟨wr.heap.size + 1, 3, none⟩) (by simp)
       have y4 := hm.cell (p := ⟨wr.heap.size + 1, 4, none⟩) (by simp)
       have y5 := hm.cell (p := ⟨wr.heap.size + 1, 5, none⟩) (by simp)
       have y6 := hm.cell (p := ⟨wr.heap.size + 1, 6, none⟩) (by simp)
       have y7 := hm.cell (p := ⟨wr.heap.size + 1, 7, none⟩) (by simp)
       simp [go_sem] at y0 y1 y2 y3 y4 y5 y6 y7
       have HQ : Hid (Below wr.heap.size wr w3) := hq
       have hl3 : wr.heap.size + 1 < w3.heap.size := (by have := hm.size; simp at this; omega)
       obtain ⟨v0, v1, v2, v3, v4, v5, v6, v7, r0, r1, r2, r3, r4, r5, r6, r7, r8⟩ := (HD.out.below hq).room.eight
       clear hm hq))
  all_goals first
    | (refine ⟨⟨j + 1, by omega, rfl, (HD.out.below HQ.out).step (hit.out.symm.trans (by assumption))⟩, ?_⟩
       simp [Dmu, intOf]
       omega)
    | (have hd := rdec_hit X.out.1 X.out.2 (show j < 69 by omega) (hit.out.symm.trans (by assumption))
       have hB := (HD.out.below HQ.out).bel
       refine hret.out _ _ (bodyPost_ret (v := .tuple #[inV (W.rread (W.rw j) x), .bool true]) ?_ rfl ⟨by rw [hd.1, hd.2], (((((((((hB.setCell (Nat.le_refl _) _).setCell (Nat.le_refl _) _).setCell (Nat.le_refl _) _).setCell (Nat.le_refl _) _).setCell (Nat.le_refl _) _).setCell (Nat.le_refl _) _).setCell (Nat.le_refl _) _).setCell (Nat.le_refl _) _))⟩)
       rw [HR.out]
       simp [results, Tryz.results18, go_sem, inV, W.rread, r0, r1, r2, r3, r4, r5, r6, r7])
    | trace_state

set_option maxRecDepth 100000 in
set_option maxHeartbeats 6400000 in
theorem dec_cls10 (x : Int) (g : Nat) (w wr : World) (j : Nat) (u : Nat → Value) (Q0 : Exit → Act → World → Prop) (X : Hid (0 ≤ x ∧ x < 4294967296)) (HD : Hid (Dc x g w j wr)) (hj1 : (j : Int) < 69) (hret : Hid (∀ a w', DQ x w .ret a w' → Q0 .ret a w')) (ro : Int) (nm : List UInt8) (oc f3 f7 : Int) (h3 h7 : Bool) (fm wh : Int) (HR : Hid (W.rw j = ⟨ro, nm, oc, f3, f7, h3, h7, fm, true, true, true, false, wh, true⟩)) (hw : (wh != 0) = false) : Code.wp Tryz.prog decBody (Exit.then (fun a' w' => DI x g w a' w' ∧ Dmu a' w' < Dmu (decFr x w.heap.size g u (.int .i64 j)) wr) Q0) (decFr x w.heap.size g u (.int .i64 j)) wr := by
  have hg : g < wr.heap.size := HD.out.tab.lt
  have hlw : w.heap.size < g := HD.out.lt
  have hj0 : (0 : Int) ≤ (j : Int) := by omega
  have hlt : w.heap.size < wr.heap.size := Nat.lt_trans hlw hg
  obtain ⟨r, hr, ho, c0, c1, c2, c3, c4, c5, c6, c7, c8, c9, c10, c11, c12, c13⟩ := HD.out.tab.at j (by omega)
  obtain rfl := hr.symm.trans HR.out
  clear hr ho
  dsimp only at c0 c1 c2 c3 c4 c5 c6 c7 c8 c9 c10 c11 c12 c13
  have hi : Hid (0 ≤ W.rimm fm x ∧ W.rimm fm x < 4294967296) := rimm_lt fm x
  have hit0 := W.rread_hit (k := j) (by omega) X.out.1 X.out.2
  obtain ⟨V, hV⟩ : ∃ V, W.rword (W.rw j) (W.rread (W.rw j) x) = V := ⟨_, rfl⟩
  rw [hV] at hit0
  have hit : Hid ((V == x) = W.hit x (j + 1)) := hit0
  rw [HR.out] at hV
  have HV : Hid (W.rword _ (W.rread _ x) = V) := hV
  clear hV hit0
  have i1 : IntKind.i64.wrap (W.bitsOf x 7 5) = W.bitsOf x 7 5 := IntWalk.i64_in _ (by have := W.bitsOf_lt x 7 5; omega)
  have i2 : IntKind.i64.wrap (W.bitsOf x 15 5) = W.bitsOf x 15 5 := IntWalk.i64_in _ (by have := W.bitsOf_lt x 15 5; omega)
  have i3 : IntKind.i64.wrap (W.bitsOf x 20 5) = W.bitsOf x 20 5 := IntWalk.i64_in _ (by have := W.bitsOf_lt x 20 5; omega)
  have i4 : IntKind.i64.wrap (W.bitsOf x 20 12) = W.bitsOf x 20 12 := IntWalk.i64_in _ (by have := W.bitsOf_lt x 20 12; omega)
  unfold decFr
  conv => arg 2; whnf
  go_wp2_with (first
    | (go_at_call 41; refine (rbits_any _ _ _ _ X.out.1 X.out.2).mono ?_; rintro e w' ⟨rfl, rfl⟩)
    | (go_at_call 42; refine (imml_any _ _ _ X.out.1 X.out.2).mono ?_; rintro e w' ⟨rfl, rfl⟩)
    | (go_at_call 30; refine (word_rd ⟨_, _, _, _, _, _, _, _, _, _, _, _, _, _⟩ x V _ ?_).mono ?_; exact HV.out; rintro e w3 ⟨rfl, hm⟩
       have hq : Below wr.heap.size wr w3 := (by
         refine Below.trans ?_ (hm.mono ?_)
         · repeat (first | exact Below.refl _ _ | refine Below.setCell ?_ (by simp) _ | refine Below.alloc ?_ (by simp) _)
         · simp
           omega)
       have y0 := hm.cell (p := ⟨wr.heap.size + 1, 0, none⟩) (by simp)
       have y1 := hm.cell (p := ⟨wr.heap.size + 1, 1, none⟩) (by simp)
       have y2 := hm.cell (p := ⟨wr.heap.size + 1, 2, none⟩) (by simp)
       have y3 := hm.cell (p := ⟨wr.heap.size + 1, 3, none⟩) (by simp)
       have y4 := hm.cell (p := ⟨wr.heap.size + 1, 4, none⟩) (by simp)
       have y5 := hm.cell (p := ⟨wr.heap.size + 1, 5, none⟩) (by simp)
       have y6 := hm.cell (p := ⟨wr.heap.size + 1, 6, none⟩) (by simp)
       have y7 := hm.cell (p := ⟨wr.heap.size + 1, 7, none⟩) (by simp)
       simp [go_sem] at y0 y1 y2 y3 y4 y5 y6 y7
       have HQ : Hid (Below wr.heap.size wr w3) := hq
       have hl3 : wr.heap.size + 1 < w3.heap.size := (by have := hm.size; simp at this; omega)
       obtain ⟨v0, v1, v2, v3, v4, v5, v6, v7, r0, r1, r2, r3, r4, r5, r6, r7, r8⟩ := (HD.out.below hq).room.eight
       clear hm hq))
  all_goals first
    | (refine ⟨⟨j + 1, by omega, rfl, (HD.out.below HQ.out).step (hit.out.symm.trans (by assumption))⟩, ?_⟩
       simp [Dmu, intOf]
       omega)
    | (have hd := rdec_hit X.out.1 X.out.2 (show j < 69 by omega) (hit.out.symm.trans (by assumption))
       have hB := (HD.out.below HQ.out).bel
       refine hret.out _ _ (bodyPost_ret (v := .tuple #[inV (W.rread (W.rw j) x), .bool true]) ?_ rfl ⟨by rw [hd.1, hd.2], (((((((((hB.setCell (Nat.le_refl _) _).setCell (Nat.le_refl _) _).setCell (Nat.le_refl _) _).setCell (Nat.le_refl _) _).setCell (Nat.le_refl _) _).setCell (Nat.le_refl _) _).setCell (Nat.le_refl _) _).setCell (Nat.le_refl _) _))⟩)
       rw [HR.out]
       simp [results, Tryz.results18, go_sem, inV, W.rread, r0, r1, r2, r3, r4, r5, r6, r7])
    | trace_state

end Go.Proofs.YtbndaiombnikfaaGreatDoor

/- What the document's Decode returns: shapes. -/
namespace Go.Proofs.YtbndaiombnikfaaGreatDoor
open Go.ChangeShapes Go.WideShapes Go.ChangeAt Go.RowKit
set_option linter.unusedVariables false
set_option linter.unusedSimpArgs false

set_option maxRecDepth 100000 in
set_option maxHeartbeats 6400000 in
theorem dec_cls5 (x : Int) (g : Nat) (w wr : World) (j : Nat) (u : Nat → Value) (Q0 : Exit → Act → World → Prop) (X : Hid (0 ≤ x ∧ x < 4294967296)) (HD : Hid (Dc x g w j wr)) (hj1 : (j : Int) < 69) (hret : Hid (∀ a w', DQ x w .ret a w' → Q0 .ret a w')) (ro : Int) (nm : List UInt8) (oc f3 f7 : Int) (h3 h7 : Bool) (fm wh : Int) (HR : Hid (W.rw j = ⟨ro, nm, oc, f3, f7, h3, h7, fm, false, false, false, false, wh, false⟩)) (hw : (wh != 0) = false) : Code.wp Tryz.prog decBody (Exit.then (fun a' w' => DI x g w a' w' ∧ Dmu a' w' < Dmu (decFr x w.heap.size g u (.int .i64 j)) wr) Q0) (decFr x w.heap.size g u (.int .i64 j)) wr := by
  have hg : g < wr.heap.size := HD.out.tab.lt
  have hlw : w.heap.size < g := HD.out.lt
  have hj0 : (0 : Int) ≤ (j : Int) := by omega
  have hlt : w.heap.size < wr.heap.size := Nat.lt_trans hlw hg
  obtain ⟨r, hr, ho, c0, c1, c2, c3, c4, c5, c6, c7, c8, c9, c10, c11, c12, c13⟩ := HD.out.tab.at j (by omega)
  obtain rfl := hr.symm.trans HR.out
  clear hr ho
  dsimp only at c0 c1 c2 c3 c4 c5 c6 c7 c8 c9 c10 c11 c12 c13
  have hi : Hid (0 ≤ W.rimm fm x ∧ W.rimm fm x < 4294967296) := rimm_lt fm x
  have hit0 := W.rread_hit (k := j) (by omega) X.out.1 X.out.2
  obtain ⟨V, hV⟩ : ∃ V, W.rword (W.rw j) (W.rread (W.rw j) x) = V := ⟨_, rfl⟩
  rw [hV] at hit0
  have hit : Hid ((V == x) = W.hit x (j + 1)) := hit0
  rw [HR.out] at hV
  have HV : Hid (W.rword _ (W.rread _ x) = V) := hV
  clear hV hit0
  have i1 : IntKind.i64.wrap (W.bitsOf x 7 5) = W.bitsOf x 7 5 := IntWalk.i64_in _ (by have := W.bitsOf_lt x 7 5; omega)
  have i2 : IntKind.i64.wrap (W.bitsOf x 15 5) = W.bitsOf x 15 5 := IntWalk.i64_in _ (by have := W.bitsOf_lt x 15 5; omega)
  have i3 : IntKind.i64.wrap (W.bitsOf x 20 5) = W.bitsOf x 20 5 := IntWalk.i64_in _ (by have := W.bitsOf_lt x 20 5; omega)
  have i4 : IntKind.i64.wrap (W.bitsOf x 20 12) = W.bitsOf x 20 12 := IntWalk.i64_in _ (by have := W.bitsOf_lt x 20 12; omega)
  unfold decFr
  conv => arg 2; whnf
  go_wp2_with (first
    | (go_at_call 41; refine (rbits_any _ _ _ _ X.out.1 X.out.2).mono ?_; rintro e w' ⟨rfl, rfl⟩)
    | (go_at_call 42; refine (imml_any _ _ _ X.out.1 X.out.2).mono ?_; rintro e w' ⟨rfl, rfl⟩)
    | (go_at_call 30; refine (word_rd ⟨_, _, _, _, _, _, _, _, _, _, _, _, _, _⟩ x V _ ?_).mono ?_; exact HV.out; rintro e w3 ⟨rfl, hm⟩
       have hq : Below wr.heap.size wr w3 := (by
         refine Below.trans ?_ (hm.mono ?_)
         · repeat (first | exact Below.refl _ _ | refine Below.setCell ?_ (by simp) _ | refine Below.alloc ?_ (by simp) _)
         · simp
           omega)
       have y0 := hm.cell (p := ⟨wr.heap.size + 1, 0, none⟩) (by simp)
       have y1 := hm.cell (p := ⟨wr.heap.size + 1, 1, none⟩) (by simp)
       have y2 := hm.cell (p := ⟨wr.heap.size + 1, 2, none⟩) (by simp)
       have y3 := hm.cell (p := ⟨wr.heap.size + 1, 3, none⟩) (by simp)
       have y4 := hm.cell (p := ⟨wr.heap.size + 1, 4, none⟩) (by simp)
       have y5 := hm.cell (p := ⟨wr.heap.size + 1, 5, none⟩) (by simp)
       have y6 := hm.cell (p := ⟨wr.heap.size + 1, 6, none⟩) (by simp)
       have y7 := hm.cell (p := ⟨wr.heap.size + 1, 7, none⟩) (by simp)
       simp [go_sem] at y0 y1 y2 y3 y4 y5 y6 y7
       have HQ : Hid (Below wr.heap.size wr w3) := hq
       have hl3 : wr.heap.size + 1 < w3.heap.size := (by have := hm.size; simp at this; omega)
       obtain ⟨v0, v1, v2, v3, v4, v5, v6, v7, r0, r1, r2, r3, r4, r5, r6, r7, r8⟩ := (HD.out.below hq).room.eight
       clear hm hq))
  all_goals first
    | (refine ⟨⟨j + 1, by omega, rfl, (HD.out.below HQ.out).step (hit.out.symm.trans (by assumption))⟩, ?_⟩
       simp [Dmu, intOf]
       omega)
    | (have hd := rdec_hit X.out.1 X.out.2 (show j < 69 by omega) (hit.out.symm.trans (by assumption))
       have hB := (HD.out.below HQ.out).bel
       refine hret.out _ _ (bodyPost_ret (v := .tuple #[inV (W.rread (W.rw j) x), .bool true]) ?_ rfl ⟨by rw [hd.1, hd.2], (((((((((hB.setCell (Nat.le_refl _) _).setCell (Nat.le_refl _) _).setCell (Nat.le_refl _) _).setCell (Nat.le_refl _) _).setCell (Nat.le_refl _) _).setCell (Nat.le_refl _) _).setCell (Nat.le_refl _) _).setCell (Nat.le_refl _) _))⟩)
       rw [HR.out]
       simp [results, Tryz.results18, go_sem, inV, W.rread, r0, r1, r2, r3, r4, r5, r6, r7])
    | trace_state

end Go.Proofs.YtbndaiombnikfaaGreatDoor

/- What the document's Decode returns, whatever the word. -/
namespace Go.Proofs.YtbndaiombnikfaaGreatDoor
open Go.ChangeShapes Go.WideShapes Go.ChangeAt Go.RowKit
set_option linter.unusedVariables false
set_option linter.unusedSimpArgs false

theorem dec_round (x : Int) (g : Nat) (w wr : World) (j : Nat) (u : Nat → Value) (Q0 : Exit → Act → World → Prop) (X : Hid (0 ≤ x ∧ x < 4294967296)) (HD : Hid (Dc x g w j wr)) (hj1 : (j : Int) < 69) (hret : Hid (∀ a w', DQ x w .ret a w' → Q0 .ret a w')) : Code.wp Tryz.prog decBody (Exit.then (fun a' w' => DI x g w a' w' ∧ Dmu a' w' < Dmu (decFr x w.heap.size g u (.int .i64 j)) wr) Q0) (decFr x w.heap.size g u (.int .i64 j)) wr := by
  obtain ⟨r, hR⟩ : ∃ r, W.rw j = r := ⟨_, rfl⟩
  obtain ⟨ro, nm, oc, f3, f7, h3, h7, fm, rd, rs1, rs2, csr, wh, pair⟩ := r
  cases hw : (wh != 0)
  case true => exact dec_whole x g w wr j u Q0 X HD hj1 hret ro nm oc f3 f7 h3 h7 fm rd rs1 rs2 csr wh pair hR hw
  case false =>
    have hk : W.okSh (W.shp ((j : Int) + 1)) = true := W.okSh_shp _
    have e1 : (W.shp ((j : Int) + 1)).rd = rd := congrArg W.Rw.rd hR
    have e2 : (W.shp ((j : Int) + 1)).rs1 = rs1 := congrArg W.Rw.rs1 hR
    have e3 : (W.shp ((j : Int) + 1)).rs2 = rs2 := congrArg W.Rw.rs2 hR
    have e4 : (W.shp ((j : Int) + 1)).csr = csr := congrArg W.Rw.csr hR
    have e5 : (W.shp ((j : Int) + 1)).ord = pair := congrArg W.Rw.pair hR
    rw [W.okSh, e1, e2, e3, e4, e5] at hk
    generalize W.hasImm (W.shp ((j : Int) + 1)) = b6 at hk
    clear e1 e2 e3 e4 e5
    simp only [List.contains_cons, List.contains_nil, Bool.or_eq_true, beq_iff_eq, Prod.mk.injEq, Bool.or_false] at hk
    rcases hk with ⟨rfl, rfl, rfl, rfl, rfl, rfl⟩ | ⟨rfl, rfl, rfl, rfl, rfl, rfl⟩ | ⟨rfl, rfl, rfl, rfl, rfl, rfl⟩ | ⟨rfl, rfl, rfl, rfl, rfl, rfl⟩ | ⟨rfl, rfl, rfl, rfl, rfl, rfl⟩ | ⟨rfl, rfl, rfl, rfl, rfl, rfl⟩ | ⟨rfl, rfl, rfl, rfl, rfl, rfl⟩ | ⟨rfl, rfl, rfl, rfl, rfl, rfl⟩ | ⟨rfl, rfl, rfl, rfl, rfl, rfl⟩ | ⟨rfl, rfl, rfl, rfl, rfl, rfl⟩ | ⟨rfl, rfl, rfl, rfl, rfl, rfl⟩
    · exact dec_cls0 x g w wr j u Q0 X HD hj1 hret ro nm oc f3 f7 h3 h7 fm wh hR hw
    · exact dec_cls1 x g w wr j u Q0 X HD hj1 hret ro nm oc f3 f7 h3 h7 fm wh hR hw
    · exact dec_cls2 x g w wr j u Q0 X HD hj1 hret ro nm oc f3 f7 h3 h7 fm wh hR hw
    · exact dec_cls3 x g w wr j u Q0 X HD hj1 hret ro nm oc f3 f7 h3 h7 fm wh hR hw
    · exact dec_cls4 x g w wr j u Q0 X HD hj1 hret ro nm oc f3 f7 h3 h7 fm wh hR hw
    · exact dec_cls5 x g w wr j u Q0 X HD hj1 hret ro nm oc f3 f7 h3 h7 fm wh hR hw
    · exact dec_cls6 x g w wr j u Q0 X HD hj1 hret ro nm oc f3 f7 h3 h7 fm wh hR hw
    · exact dec_cls7 x g w wr j u Q0 X HD hj1 hret ro nm oc f3 f7 h3 h7 fm wh hR hw
    · exact dec_cls8 x g w wr j u Q0 X HD hj1 hret ro nm oc f3 f7 h3 h7 fm wh hR hw
    · exact dec_cls9 x g w wr j u Q0 X HD hj1 hret ro nm oc f3 f7 h3 h7 fm wh hR hw
    · exact dec_cls10 x g w wr j u Q0 X HD hj1 hret ro nm oc f3 f7 h3 h7 fm wh hR hw

set_option maxRecDepth 100000 in
set_option maxHeartbeats 6400000 in
/-- The last look: no row fits. -/
theorem dec_last (x : Int) (g : Nat) (w wr : World) (j : Nat) (u : Nat → Value) (Q0 : Exit → Act → World → Prop) (hj1 : (j : Int) = 69) (hexit : Hid (∀ u : Nat → Value, Q0 (.exit 0) (decFr x w.heap.size g u (.int .i64 69)) wr)) : Code.wp Tryz.prog decBody (Exit.then (fun a' w' => DI x g w a' w' ∧ Dmu a' w' < Dmu (decFr x w.heap.size g u (.int .i64 j)) wr) Q0) (decFr x w.heap.size g u (.int .i64 j)) wr := by
  obtain rfl : j = 69 := by omega
  unfold decFr
  conv => arg 2; whnf
  go_wp2
  exact hexit.out (fun n => (#[u 0, u 1, u 2, u 3, u 4, u 5, u 6, u 7, u 8, .int .i64 69, .slice (some ⟨g, 0, none⟩) 69 69, .int .i64 69, .bool false] : Array Value).getD n (u n))

theorem dec_loop (x : Int) (g : Nat) (w w1 : World) (u : Nat → Value) (Q0 : Exit → Act → World → Prop) (X : Hid (0 ≤ x ∧ x < 4294967296)) (D0 : Dc x g w 0 w1) (hret : Hid (∀ a w', DQ x w .ret a w' → Q0 .ret a w')) (hexit : Hid (∀ (u : Nat → Value) wr, Dc x g w 69 wr → Q0 (.exit 0) (decFr x w.heap.size g u (.int .i64 69)) wr)) :
    Code.wp Tryz.prog (Code.loop decBody) Q0 (decFr x w.heap.size g u (.int .i64 0)) w1 := by
  refine wp_loop (DI x g w) Dmu ⟨0, by omega, rfl, D0⟩ ?_
  rintro a wr ⟨j, hj, ha, D⟩
  generalize (fun n => a.tmps.getD n undef) = u at ha
  subst ha
  by_cases h : (j : Int) < 69
  · exact dec_round x g w wr j u Q0 X D h hret
  · have h69 : (j : Int) = 69 := by omega
    obtain rfl : j = 69 := by omega
    exact dec_last x g w wr 69 u Q0 h69 (fun u => hexit.out u wr D)

set_option maxRecDepth 100000 in
set_option maxHeartbeats 6400000 in
theorem rdec_any (x : Int) (w : World) (x0 : 0 ≤ x) (x1 : x < 4294967296) : Calls Tryz.prog 18 #[.int .u32 x] w fun e w' => e = .returned (.tuple #[inV (W.decI x), .bool (W.decB x)]) ∧ Below w.heap.size w w' := by
  have X : Hid (0 ≤ x ∧ x < 4294967296) := (⟨x0, x1⟩ : 0 ≤ x ∧ x < 4294967296)
  clear x0 x1
  go_enter Tryz.func18, Tryz.ntmps18
  go_wp2_with (go_at_call 36; refine (rows_tb2 _).mono ?_; rintro e w1 ⟨g, rfl, hT, hgw, hm⟩)
  have D0 : Dc x g w 0 w1 := ⟨((Below.refl _ _).alloc (Nat.le_refl _) _).trans (hm.mono (by simp)), hT, by simp at hgw; omega, ⟨_, _, (hm.block _ (by simp)).trans (heap_alloc_last w _), rfl⟩, fun m h => absurd h (Nat.not_lt_zero m)⟩
  clear hT hm hgw
  refine dec_loop x g w w1 (fun n => if n = 3 then .bool false else undef) _ X D0 ?_ ?_
  · intro a w' h
    exact h
  · intro u wr D
    have HD : Hid (Dc x g w 69 wr) := D
    have hlt : w.heap.size < wr.heap.size := Nat.lt_trans D.lt D.tab.lt
    obtain ⟨v0, v1, v2, v3, v4, v5, v6, v7, r0, r1, r2, r3, r4, r5, r6, r7, r8⟩ := D.room.eight
    clear D D0
    unfold decFr
    go_wp2
    have hd := rdec_none HD.out.none
    refine bodyPost_ret (v := .tuple #[inV ⟨0, 0, 0, 0, 0, 0, false, false⟩, .bool false]) ?_ rfl ⟨by rw [hd.1, hd.2], ?_⟩
    · simp [results, Tryz.results18, go_sem, inV, r0, r1, r2, r3, r4, r5, r6, r7]
    · exact (((((((((HD.out.bel.setCell (Nat.le_refl _) _).setCell (Nat.le_refl _) _).setCell (Nat.le_refl _) _).setCell (Nat.le_refl _) _).setCell (Nat.le_refl _) _).setCell (Nat.le_refl _) _).setCell (Nat.le_refl _) _).setCell (Nat.le_refl _) _))
end Go.Proofs.YtbndaiombnikfaaGreatDoor
