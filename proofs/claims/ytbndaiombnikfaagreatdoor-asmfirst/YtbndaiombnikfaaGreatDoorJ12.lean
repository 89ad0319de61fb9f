/- Texts in one: RefD1. -/
import Derived.Test.YtbndaiombnikfaaGreatDoorJ11
/- What the document's Decode returns: shapes. -/
namespace Go.Proofs.YtbndaiombnikfaaGreatDoor
open Go.ChangeShapes Go.WideShapes Go.ChangeAt Go.RowKit
set_option linter.unusedVariables false
set_option linter.unusedSimpArgs false

set_option maxRecDepth 100000 in
set_option maxHeartbeats 6400000 in
theorem dec_cls0 (x : Int) (g : Nat) (w wr : World) (j : Nat) (u : Nat → Value) (Q0 : Exit → Act → World → Prop) (X : Hid (0 ≤ x ∧ x < 4294967296)) (HD : Hid (Dc x g w j wr)) (hj1 : (j : Int) < 69) (hret : Hid (∀ a w', DQ x w .ret a w' → Q0 .ret a w')) (ro : Int) (nm : List UInt8) (oc f3 f7 : Int) (h3 h7 : Bool) (fm wh : Int) (HR : Hid (W.rw j = ⟨ro, nm, oc, f3, f7, h3, h7, fm, true, false, false, false, wh, false⟩)) (hw : (wh != 0) = false) : Code.wp Tryz.prog decBody (Exit.then (fun a' w' => DI x g w a' w' ∧ Dmu a' w' < Dmu (decFr x w.heap.size g u (.int .i64 j)) wr) Q0) (decFr x w.heap.size g u (.int .i64 j)) wr := by
  have hg : g < wr.heap.size := HD.out.tab.lt
  have hlw : w.heap.size < g := HD.out.lt
  have hj0 : (0 : Int) ≤ (j : Int) := by omega
  have hlt : w.heap.size < wr.heap.size := Nat.lt_trans hlw hg
  obtain ⟨r, hr, ho, c0, c1, c2, c3, c4, c5, c6, c7, c8, c9, c10, c11, c12, c13⟩ := HD.out.tab.at j (by omega)
  obtain rfl := hr.symm.trans HR.out
  clear hr ho
  dsimp only at c0 c1 c2 c3 c4 c5 c6 c7 c8 c9 c10 c11 c12 c13
  have hi : Hid (0 ≤ W.rimm fm x ∧ W.rimm fm x < 4294967296) := rimm_lt fm x
  have hit0 := W.rread_hit (k := j) (by omega) X.out.1 X.out.2
  obtain ⟨V, hV⟩ : ∃ V, W.rword (W.rw j) (W.rread (W.rw j) x) = V := ⟨_, rfl⟩
  rw [hV] at hit0
  have hit : Hid ((V == x) = W.hit x (j + 1)) := hit0
  rw [HR.out] at hV
  have HV : Hid (W.rword _ (W.rread _ x) = V) := hV
  clear hV hit0
  have i1 : IntKind.i64.wrap (W.bitsOf x 7 5) = W.bitsOf x 7 5 := IntWalk.i64_in _ (by have := W.bitsOf_lt x 7 5; omega)
  have i2 : IntKind.i64.wrap (W.bitsOf x 15 5) = W.bitsOf x 15 5 := IntWalk.i64_in _ (by have := W.bitsOf_lt x 15 5; omega)
  have i3 : IntKind.i64.wrap (W.bitsOf x 20 5) = W.bitsOf x 20 5 := IntWalk.i64_in _ (by have := W.bitsOf_lt x 20 5; omega)
  have i4 : IntKind.i64.wrap (W.bitsOf x 20 12) = W.bitsOf x 20 12 := IntWalk.i64_in _ (by have := W.bitsOf_lt x 20 12; omega)
  unfold decFr
  conv => arg 2; whnf
  go_wp2_with (first
    | (go_at_call 41; refine (rbits_any _ _ _ _ X.out.1 X.out.2).mono ?_; rintro e w' ⟨rfl, rfl⟩)
    | (go_at_call 42; refine (imml_any _ _ _ X.out.1 X.out.2).mono ?_; rintro e w' ⟨rfl, rfl⟩)
    | (go_at_call 30; refine (word_rd ⟨_, _, _, _, _, _, _, _, _, _, _, _, _, _⟩ x V _ ?_).mono ?_; exact HV.out; rintro e w3 ⟨rfl, hm⟩
       have hq : Below wr.heap.size wr w3 := (by
         refine Below.trans ?_ (hm.mono ?_)
         · repeat (first | exact Below.refl _ _ | refine Below.setCell ?_ (by simp) _ | refine Below.alloc ?_ (by simp) _)
         · simp
           omega)
       have y0 := hm.cell (p := ⟨wr.heap.size + 1, 0, none⟩) (by simp)
       have y1 := hm.cell (p := ⟨wr.heap.size + 1, 1, none⟩) (by simp)
       have y2 := hm.cell (p := ⟨wr.heap.size + 1, 2, none⟩) (by simp)
       have y3 := hm.cell (p := ⟨wr.heap.size + 1, 3, none⟩) (by simp)
       have y4 := hm.cell (p := ⟨wr.heap.size + 1, 4, none⟩) (by simp)
       have y5 := hm.cell (p := ⟨wr.heap.size + 1, 5, none⟩) (by simp)
       have y6 := hm.cell (p := ⟨wr.heap.size + 1, 6, none⟩) (by simp)
       have y7 := hm.cell (p := ⟨wr.heap.size + 1, 7, none⟩) (by simp)
       simp [go_sem] at y0 y1 y2 y3 y4 y5 y6 y7
       have HQ : Hid (Below wr.heap.size wr w3) := hq
       have hl3 : wr.heap.size + 1 < w3.heap.size := (by have := hm.size; simp at this; omega)
       obtain ⟨v0, v1, v2, v3, v4, v5, v6, v7, r0, r1, r2, r3, r4, r5, r6, r7, r8⟩ := (HD.out.below hq).room.eight
       clear hm hq))
  all_goals first
    | (refine ⟨⟨j + 1, by omega, rfl, (HD.out.below HQ.out).step (hit.out.symm.trans (by assumption))⟩, ?_⟩
       simp [Dmu, intOf]
       omega)
    | (have hd := rdec_hit X.out.1 X.out.2 (show j < 69 by omega) (hit.out.symm.trans (by assumption))
       have hB := (HD.out.below HQ.out).bel
       refine hret.out _ _ (bodyPost_ret (v := .tuple #[inV (W.rread (W.rw j) x), .bool true]) ?_ rfl ⟨by rw [hd.1, hd.2], (((((((((hB.setCell (Nat.le_refl _) _).setCell (Nat.le_refl _) _).setCell (Nat.le_refl _) _).setCell (Nat.le_refl _) _).setCell (Nat.le_refl _) _).setCell (Nat.le_refl _) _).setCell (Nat.le_refl _) _).setCell (Nat.le_refl _) _))⟩)
       rw [HR.out]
       simp [results, Tryz.results18, go_sem, inV, W.rread, r0, r1, r2, r3, r4, r5, r6, r7])
    | trace_state

set_option maxRecDepth 100000 in
set_option maxHeartbeats 6400000 in
theorem dec_cls6 (x : Int) (g : Nat) (w wr : World) (j : Nat) (u : Nat → Value) (Q0 : Exit → Act → World → Prop) (X : Hid (0 ≤ x ∧ x < 4294967296)) (HD : Hid (Dc x g w j wr)) (hj1 : (j : Int) < 69) (hret : Hid (∀ a w', DQ x w .ret a w' → Q0 .ret a w')) (ro : Int) (nm : List UInt8) (oc f3 f7 : Int) (h3 h7 : Bool) (fm wh : Int) (HR : Hid (W.rw j = ⟨ro, nm, oc, f3, f7, h3, h7, fm, false, true, true, false, wh, false⟩)) (hw : (wh != 0) = false) : Code.wp Tryz.prog decBody (Exit.then (fun a' w' => DI x g w a' w' ∧ Dmu a' w' < Dmu (decFr x w.heap.size g u (.int .i64 j)) wr) Q0) (decFr x w.heap.size g u (.int .i64 j)) wr := by
  have hg : g < wr.heap.size := HD.out.tab.lt
  have hlw : w.heap.size < g := HD.out.lt
  have hj0 : (0 : Int) ≤ (j : Int) := by omega
  have hlt : w.heap.size < wr.heap.size := Nat.lt_trans hlw hg
  obtain ⟨r, hr, ho, c0, c1, c2, c3, c4, c5, c6, c7, c8, c9, c10, c11, c12, c13⟩ := HD.out.tab.at j (by omega)
  obtain rfl := hr.symm.trans HR.out
  clear hr ho
  dsimp only at c0 c1 c2 c3 c4 c5 c6 c7 c8 c9 c10 c11 c12 c13
  have hi : Hid (0 ≤ W.rimm fm x ∧ W.rimm fm x < 4294967296) := rimm_lt fm x
  have hit0 := W.rread_hit (k := j) (by omega) X.out.1 X.out.2
  obtain ⟨V, hV⟩ : ∃ V, W.rword (W.rw j) (W.rread (W.rw j) x) = V := ⟨_, rfl⟩
  rw [hV] at hit0
  have hit : Hid ((V == x) = W.hit x (j + 1)) := hit0
  rw [HR.out] at hV
  have HV : Hid (W.rword _ (W.rread _ x) = V) := hV
  clear hV hit0
  have i1 : IntKind.i64.wrap (W.bitsOf x 7 5) = W.bitsOf x 7 5 := IntWalk.i64_in _ (by have := W.bitsOf_lt x 7 5; omega)
  have i2 : IntKind.i64.wrap (W.bitsOf x 15 5) = W.bitsOf x 15 5 := IntWalk.i64_in _ (by have := W.bitsOf_lt x 15 5; omega)
  have i3 : IntKind.i64.wrap (W.bitsOf x 20 5) = W.bitsOf x 20 5 := IntWalk.i64_in _ (by have := W.bitsOf_lt x 20 5; omega)
  have i4 : IntKind.i64.wrap (W.bitsOf x 20 12) = W.bitsOf x 20 12 := IntWalk.i64_in _ (by have := W.bitsOf_lt x 20 12; omega)
  unfold decFr
  conv => arg 2; whnf
  go_wp2_with (first
    | (go_at_call 41; refine (rbits_any _ _ _ _ X.out.1 X.out.2).mono ?_; rintro e w' ⟨rfl, rfl⟩)
    | (go_at_call 42; refine (imml_any _ _ _ X.out.1 X.out.2).mono ?_; rintro e w' ⟨rfl, rfl⟩)
    | (go_at_call 30; refine (word_rd ⟨_, _, _, _, _, _, _, _, _, _, _, _, _, _⟩ x V _ ?_).mono ?_; exact HV.out; rintro e w3 ⟨rfl, hm⟩
       have hq : Below wr.heap.size wr w3 := (by
         refine Below.trans ?_ (hm.mono ?_)
         · repeat (first | exact Below.refl _ _ | refine Below.setCell ?_ (by simp) _ | refine Below.alloc ?_ (by simp) _)
         · simp
           omega)
       have y0 := hm.cell (p := ⟨wr.heap.size + 1, 0, none⟩) (by simp)
       have y1 := hm.cell (p := ⟨wr.heap.size + 1, 1, none⟩) (by simp)
       have y2 := hm.cell (p := ⟨wr.heap.size + 1, 2, none⟩) (by simp)
       have y3 := hm.cell (p := ⟨wr.heap.size + 1, 3, none⟩) (by simp)
       have y4 := hm.cell (p := ⟨wr.heap.size + 1, 4, none⟩) (by simp)
       have y5 := hm.cell (p := ⟨wr.heap.size + 1, 5, none⟩) (by simp)
       have y6 := hm.cell (p := ⟨wr.heap.size + 1, 6, none⟩) (by simp)
       have y7 := hm.cell (p := ⟨wr.heap.size + 1, 7, none⟩) (by simp)
       simp [go_sem] at y0 y1 y2 y3 y4 y5 y6 y7
       have HQ : Hid (Below wr.heap.size wr w3) := hq
       have hl3 : wr.heap.size + 1 < w3.heap.size := (by have := hm.size; simp at this; omega)
       obtain ⟨v0, v1, v2, v3, v4, v5, v6, v7, r0, r1, r2, r3, r4, r5, r6, r7, r8⟩ := (HD.out.below hq).room.eight
       clear hm hq))
  all_goals first
    | (refine ⟨⟨j + 1, by omega, rfl, (HD.out.below HQ.out).step (hit.out.symm.trans (by assumption))⟩, ?_⟩
       simp [Dmu, intOf]
       omega)
    | (have hd := rdec_hit X.out.1 X.out.2 (show j < 69 by omega) (hit.out.symm.trans (by assumption))
       have hB := (HD.out.below HQ.out).bel
       refine hret.out _ _ (bodyPost_ret (v := .tuple #[inV (W.rread (W.rw j) x), .bool true]) ?_ rfl ⟨by rw [hd.1, hd.2], (((((((((hB.setCell (Nat.le_refl _) _).setCell (Nat.le_refl _) _).setCell (Nat.le_refl _) _).setCell (Nat.le_refl _) _).setCell (Nat.le_refl _) _).setCell (Nat.le_refl _) _).setCell (Nat.le_refl _) _).setCell (Nat.le_refl _) _))⟩)
       rw [HR.out]
       simp [results, Tryz.results18, go_sem, inV, W.rread, r0, r1, r2, r3, r4, r5, r6, r7])
    | trace_state

end Go.Proofs.YtbndaiombnikfaaGreatDoor
