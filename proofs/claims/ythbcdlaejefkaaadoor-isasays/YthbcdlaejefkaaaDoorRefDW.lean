/- What the document's Decode returns: whole words. -/
import Derived.Test.YthbcdlaejefkaaaDoorRefD0
namespace Go.Proofs.YthbcdlaejefkaaaDoor
open Go.ChangeShapes Go.WideShapes Go.ChangeAt Go.RowKit
set_option linter.unusedVariables false
set_option linter.unusedSimpArgs false

set_option maxRecDepth 100000 in
set_option maxHeartbeats 6400000 in
theorem dec_whole (x : Int) (g : Nat) (w wr : World) (j : Nat) (u : Nat → Value) (Q0 : Exit → Act → World → Prop) (X : Hid (0 ≤ x ∧ x < 4294967296)) (HD : Hid (Dc x g w j wr)) (hj1 : (j : Int) < 69) (hret : Hid (∀ a w', DQ x w .ret a w' → Q0 .ret a w')) (ro : Int) (nm : List UInt8) (oc f3 f7 : Int) (h3 h7 : Bool) (fm : Int) (rd rs1 rs2 csr : Bool) (wh : Int) (pair : Bool) (HR : Hid (W.rw j = ⟨ro, nm, oc, f3, f7, h3, h7, fm, rd, rs1, rs2, csr, wh, pair⟩)) (hw : (wh != 0) = true) : Code.wp Tryd.prog decBody (Exit.then (fun a' w' => DI x g w a' w' ∧ Dmu a' w' < Dmu (decFr x w.heap.size g u (.int .i64 j)) wr) Q0) (decFr x w.heap.size g u (.int .i64 j)) wr := by
  have hg : g < wr.heap.size := HD.out.tab.lt
  have hlw : w.heap.size < g := HD.out.lt
  have hj0 : (0 : Int) ≤ (j : Int) := by omega
  have hlt : w.heap.size < wr.heap.size := Nat.lt_trans hlw hg
  obtain ⟨r, hr, ho, c0, c1, c2, c3, c4, c5, c6, c7, c8, c9, c10, c11, c12, c13⟩ := HD.out.tab.at j (by omega)
  obtain rfl := hr.symm.trans HR.out
  clear hr ho
  dsimp only at c0 c1 c2 c3 c4 c5 c6 c7 c8 c9 c10 c11 c12 c13
  obtain ⟨v0, v1, v2, v3, v4, v5, v6, v7, r0, r1, r2, r3, r4, r5, r6, r7, r8⟩ := HD.out.room.eight
  have hit : Hid ((x == wh) = W.hit x (j + 1)) := by
    have := W.whole_hit (k := j) (by omega) X.out.1 X.out.2 (by rw [HR.out]; exact hw)
    rw [HR.out] at this
    exact this
  have hin : Hid (W.rread (W.rw j) x = ⟨ro, 0, 0, 0, 0, 0, false, false⟩) := by
    have h1 := W.rread_eq (k := j) (by omega) x
    rw [W.whole_read (k := j) (by omega) x (by rw [HR.out]; exact hw)] at h1
    have h2 : (W.rw j).op = ro := congrArg W.Rw.op HR.out
    have h3 : (W.rw j).op = ((j + 1 : Nat) : Int) := by simp [W.rw]
    rw [← h3, h2] at h1
    exact h1
  cases hx : (x == wh)
  · unfold decFr
    conv => arg 2; whnf
    go_wp2
    refine ⟨⟨j + 1, by omega, rfl, (HD.out.below ((Below.refl _ _).alloc (Nat.le_refl _) _)).step (by rw [← hit.out, hx])⟩, ?_⟩
    simp [Dmu, intOf]
    omega
  · have hx' : Hid ((x == wh) = true) := hx
    unfold decFr
    conv => arg 2; whnf
    go_wp2
    have hd := rdec_hit X.out.1 X.out.2 (show j < 69 by omega) (by rw [← hit.out, hx'.out])
    refine hret.out _ _ (bodyPost_ret (v := .tuple #[inV ⟨ro, 0, 0, 0, 0, 0, false, false⟩, .bool true]) ?_ rfl ⟨by rw [hd.1, hd.2, hin.out], ?_⟩)
    · simp [results, Tryd.results11, go_sem, inV, r0, r1, r2, r3, r4, r5, r6, r7, hlt]
    · refine Below.alloc ?_ ?_ _
      · exact (((((((((HD.out.bel.setCell (Nat.le_refl _) _).setCell (Nat.le_refl _) _).setCell (Nat.le_refl _) _).setCell (Nat.le_refl _) _).setCell (Nat.le_refl _) _).setCell (Nat.le_refl _) _).setCell (Nat.le_refl _) _).setCell (Nat.le_refl _) _))
      · have := HD.out.bel.size
        simp
        omega

end Go.Proofs.YthbcdlaejefkaaaDoor
