/- net: the chapter's examples. -/
import Derived.Test.YtaioioilfanpeaaDoorNetH
namespace Go.Proofs.YtaioioilfanpeaaDoor
open Go.ChangeShapes Go.WideShapes Go.ChangeAt Go.RowKit
set_option linter.unusedVariables false
set_option linter.unusedSimpArgs false
attribute [local go_sem ↓] ldM_eq stM_eq bsM_eq

def bdM (l : Array (Nat × Value)) : Sem Value := Instr.build 47 l
theorem bdM_eq (l : Array (Nat × Value)) : Instr.build 47 l = bdM l := rfl
attribute [local go_sem ↓] bdM_eq
def W.m4 (k l f t : Int) : W.Mg := ⟨k, l, f, t, 0, 0, 0, 0, false, false, false⟩
theorem bdM_3 (k f t : Int) (w : World) : (bdM #[(0, .int .i64 k), (2, .int .i64 f), (3, .int .i64 t)]).run Tryd.prog w = .ok (mgV (W.m4 k 0 f t)) w := by kernel_rfl
theorem bdM_4 (k l f t : Int) (w : World) : (bdM #[(0, .int .i64 k), (2, .int .i64 f), (3, .int .i64 t), (1, .int .i64 l)]).run Tryd.prog w = .ok (mgV (W.m4 k l f t)) w := by kernel_rfl
/-- A block holds this message. -/
def MsgAt (b : Nat) (m : W.Mg) (w : World) : Prop := w.heap[b]? = some (.cells (mgL m).toArray 47)
theorem MsgAt.ld {b : Nat} {m : W.Mg} {w : World} (h : MsgAt b m w) : (ldM ⟨b, 0, none⟩).run Tryd.prog w = .ok (mgV m) w :=
  ldM_at (fun j v hv => by
    rw [Nat.zero_add, cell_of_row _ _ j _ 47 (0, 0) h]
    simpa using hv)
theorem MsgAt.below {b : Nat} {m : W.Mg} {w w' : World} (h : MsgAt b m w) (hb : Below w.heap.size w w') : MsgAt b m w' := (hb.block b (Array.getElem?_eq_some_iff.1 h).1).trans h
theorem MsgAt.lt {b : Nat} {m : W.Mg} {w : World} (h : MsgAt b m w) : b < w.heap.size := (Array.getElem?_eq_some_iff.1 h).1
theorem msgAt_new (w : World) (m : W.Mg) : MsgAt w.heap.size m (w.alloc (.cells (mgL m).toArray 47)) := heap_alloc_last w _
variable {n0 nb : Nat} {h : Int} {R R' : Nat → Int} {nx : Int} {fv fv' : Value} {L : List W.Fl} {w w' : World}
theorem MsgAt.up {b : Nat} {m : W.Mg} (hm : MsgAt b m w) (hu : Up nb fv fv' w w') (h1 : b ≠ nb) (h2 : fv.ownBlock ≠ some b) : MsgAt b m w' := (hu.other hm.lt h1 h2).1.trans hm
theorem Sent.up {A : Nat → Addr} (hs : Sent A w) (hu : Up nb fv fv' w w') (hn : n0 ≤ nb) (hf : ∀ b, fv.ownBlock = some b → n0 ≤ b) (h11 : ∀ j, j < 11 → j < n0 ∧ (A j).block < n0) : Sent A w' where
  cell := fun j hj => (World.cell?_of_block (a := ⟨j, 0, none⟩) (hu.g.block j (World.block_lt_of_cell? _ _ (hs.cell j hj)) (fun e => by
    rcases e with e | e
    · have := (h11 j hj).1; omega
    · have := hf _ e; have := (h11 j hj).1; omega))).trans (hs.cell j hj)
  apart := hs.apart
  held := fun j hj => by
    obtain ⟨c, t, hc⟩ := hs.held j hj
    exact ⟨c, t, (hu.g.block _ (Array.getElem?_eq_some_iff.1 hc).1 (fun e => by
      rcases e with e | e
      · have := (h11 j hj).2; omega
      · have := hf _ e; have := (h11 j hj).2; omega)).trans hc⟩
theorem Sent.low {A : Nat → Addr} (hs : Sent A w) : ∀ j, j < 11 → j < w.heap.size ∧ (A j).block < w.heap.size := fun j hj => by
  obtain ⟨c, t, hc⟩ := hs.held j hj
  exact ⟨World.block_lt_of_cell? _ _ (hs.cell j hj), (Array.getElem?_eq_some_iff.1 hc).1⟩

theorem adm_f1 : W.adm 2 (rmN 2 1) (W.m4 1 0 0 (-1)) = none := by decide +kernel
theorem adm_f2 : W.adm 2 (W.dec 2 (rmN 2 1) (W.m4 1 0 0 (-1))) (W.m4 1 0 0 (-1)) = some 6 := by decide +kernel

set_option maxRecDepth 10000 in
set_option maxHeartbeats 1600000 in
theorem first16_any (A : Nat → Addr) (w : World) (hS : Sent A w) : Calls Tryd.prog 7 #[] w fun e w' => e = .returned (.bool true) ∧ Below w.heap.size w w' := by
  have bd := bdM_3
  have bs := bsM_any
  have HS : Hid (Sent A w) := hS
  clear hS
  go_enter Tryd.func7, Tryd.ntmps7
  go_wp2_with (fail)
  refine (new_ok 2 1 (by decide) (by decide) (by decide) (by decide) w).mono ?_
  rintro e w1 ⟨rfl, hN, hB⟩
  have hst := stM_new w1 (W.m4 1 0 0 (-1))
  have hnb : w.heap.size < w1.heap.size := hN.b.lt
  have hM := msgAt_new w1 (W.m4 1 0 0 (-1))
  have hba := below_alloc w1 (.cells (mgL (W.m4 1 0 0 (-1))).toArray 47)
  have hl := hM.ld
  have HZ : Hid (_ ∧ _ ∧ _) := ⟨hN.below hba, hB.trans (hba.mono hB.size), hM⟩
  clear hN hB hM hba
  go_wp2_with (fail)
  clear hst
  have hz2 : (w1.alloc (.cells (mgL (W.m4 1 0 0 (-1))).toArray 47)).heap.size = w1.heap.size + 1 := by simp
  generalize hmb : w1.heap.size = mb at *
  generalize World.alloc w1 _ = W2 at *
  refine (send1_ok (by decide) (rmN_ok 2 1 (by decide) (by decide)) (by decide) (by decide) (by decide) (W.m4 1 0 0 (-1)) HZ.out.1 (mb + 1) hz2 adm_f1).mono ?_
  rintro e w3 ⟨rfl, f3, hN3, hU3⟩
  have hM3 := HZ.out.2.2.up hU3 (by omega) (by simp [Value.ownBlock])
  have hB3 := HZ.out.2.1.trans (hU3.below (n := w.heap.size) HZ.out.2.1.size (Nat.le_refl _) (by intro b e; cases e))
  have hl3 := hM3.ld
  have HY : Hid (_ ∧ _ ∧ _) := ⟨hN3, HS.out.below hB3, hB3⟩
  clear hN3 hU3 hM3 hB3 HZ hl
  go_wp2_with (fail)
  refine (send1_bad A (by decide) (W.dec_ok (rmN_ok 2 1 (by decide) (by decide)) adm_f1 (by decide)) (W.m4 1 0 0 (-1)) HY.out.1 _ rfl HY.out.2.1 6 adm_f2).mono ?_
  rintro e w4 ⟨⟨q, rfl, hq⟩, hB4⟩
  have hb4 := HY.out.2.2.trans (hB4.mono HY.out.2.2.size)
  have pl : ∀ w, Calls Tryd.prog 26 #[.int .i64 107, .int .i64 0] w _ := fun w => placed_any 6 0 w
  have HQ : Hid (_ ∧ _ ∧ _ ∧ _ ∧ _) := ⟨pl, hq, hb4, HS.out.below hb4, HY.out.1.below hB4⟩
  clear pl hq hb4 hB4 HY hl3
  go_wp2_with (fail)
  refine (HQ.out.1 _).mono ?_
  rintro e w6 ⟨rfl, b6, hc6, hl6⟩
  have hq6 := (b6.block q (Array.getElem?_eq_some_iff.1 HQ.out.2.1).1).trans HQ.out.2.1
  have sm := same_at A 6 (by decide) q (w4.heap.size + 1) 0 w6 (HQ.out.2.2.2.1.below b6) hq6 hc6
  have HS2 : Hid (Calls _ _ _ _ _ ∧ _ ∧ _) := ⟨sm, HQ.out.2.2.1.trans (b6.mono HQ.out.2.2.1.size), HQ.out.2.2.2.2.below b6⟩
  clear sm hq6 hc6 hl6 b6 HQ
  go_wp2_with (fail)
  refine HS2.out.1.mono ?_
  rintro e w7 ⟨rfl, b7⟩
  have ln := len_any (HS2.out.2.2.below b7)
  have HL : Hid (Calls _ _ _ _ _ ∧ _) := ⟨ln, HS2.out.2.1.trans (b7.mono HS2.out.2.1.size)⟩
  clear ln b7 HS2
  go_wp2_with (fail)
  refine HL.out.1.mono ?_
  rintro e w8 ⟨rfl, rfl⟩
  go_wp2
  go_ret
  exact ⟨rfl, HL.out.2⟩
end Go.Proofs.YtaioioilfanpeaaDoor
