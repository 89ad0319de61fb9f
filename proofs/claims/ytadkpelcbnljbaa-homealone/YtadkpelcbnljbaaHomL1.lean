/- home: getS, where nobody else is the owner. -/
import Derived.Test.YtadkpelcbnljbaaHomL
import Derived.Deep.CutRange
namespace Go.Proofs.Ytadkpelcbnljbaa
open Go.ChangeShapes Go.WideShapes Go.ChangeAt Go.RowKit
set_option linter.unusedVariables false
set_option linter.unusedSimpArgs false
attribute [local go_sem ↓] ldM_eq stM_eq bdM_eq bsM_eq
variable {n0 hb : Nat} {s s' : W.Hm} {sv av sv' av' sv'' av'' : Value} {w w' w'' : World}

theorem Hu.new (h : Hu hb sv av sv' av' w w') {mb : Nat} (hg : w'.grownBy w'' (some mb)) (hm : w.heap.size ≤ mb) : Hu hb sv av sv' av' w w'' :=
  ⟨⟨hg.os.trans h.g.os, hg.tape.trans h.g.tape, hg.output.trans h.g.output, Nat.le_trans h.g.size hg.size, fun b hb hn => (hg.block b (Nat.lt_of_lt_of_le hb h.g.size) (fun e => by cases e; omega)).trans (h.g.block b hb hn)⟩, h.fs, h.fa⟩
set_option maxRecDepth 10000 in
set_option maxHeartbeats 1600000 in
theorem getS_alone (H : Ho n0 hb s sv av w) (hu : W.Up1 s.sh) (hl : s.sh.length ≤ 4096) (r : Int) (q : s.ow = -1 ∨ s.ow = r ∧ s.ow ≠ -1) (hz : W.wo s.sh r = []) : Calls Try.prog 27 #[.pointer (some ⟨hb, 0, none⟩), .int .i64 r] w fun e w' => Res n0 hb (W.gS s r) sv av w e w' := by
  have HO : Hid (W.gS s r = ({ s with sv := r, b_ := 1, ow := r, sh := [] }, [W.dat s r s.e0 s.e1 s.e2 s.e3 false true])) := by
    show W.gS s r = _
    unfold W.gS
    rw [if_neg (by omega), if_pos hz]
  have c6 : w.cell? ⟨hb, 6, none⟩ = some (.int .i64 s.ow) := H.c 6 (by decide)
  have c7 : w.cell? ⟨hb, 7, none⟩ = some sv := H.c 7 (by decide)
  have c8 : w.cell? ⟨hb, 8, none⟩ = some (.int .i64 s.sv) := H.c 8 (by decide)
  have c9 : w.cell? ⟨hb, 9, none⟩ = some (.int .i64 s.b_) := H.c 9 (by decide)
  have f6 := H.b.fz 6
  have f8 := H.b.fz 8
  have f9 := H.b.fz 9
  have h1 := H.put 8 (.int .i64 r) { s with sv := r } (upd_sv s sv av r) rfl rfl
  have h2 := h1.1.put 9 (.int .i64 1) { s with sv := r, b_ := 1 } (upd_by _ sv av 1) rfl rfl
  have h3 := h2.1.put 6 (.int .i64 (-1)) { s with sv := r, b_ := 1, ow := -1 } (upd_ow _ sv av (-1)) rfl rfl
  have HW : Hid (Calls _ _ _ _ _) := without_any n0 sv s.sh r hu hl _ h3.1.os
  have HH : Hid (_ ∧ _) := ⟨h3.1, (h1.2.trans h2.2).trans h3.2⟩
  have HZ : Hid (W.wo s.sh r = []) := hz
  have HL : Hid (hb < w.heap.size) := H.b.lt
  clear H h1 h2 h3 hu hl hz
  have main : ∀ b1 b2 : Bool, (s.ow != -1) = b1 → (s.ow != r) = b2 → (b1 && b2) = false → Calls Try.prog 27 #[.pointer (some ⟨hb, 0, none⟩), .int .i64 r] w fun e w' => Res n0 hb (W.gS s r) sv av w e w' := by
    intro b1 b2 n1 n2 n3
    have tail : Hid (b1 = false ∨ b1 = true ∧ b2 = false) := by
      show b1 = false ∨ b1 = true ∧ b2 = false
      cases b1 <;> cases b2 <;> simp at n3 ⊢
    clear n3
    rcases tail.out with rfl | ⟨rfl, rfl⟩
    all_goals
      clear tail q
      go_enter Try.func27, Try.ntmps27
      go_wp2_with (fail)
      refine HW.out.mono ?_
      rintro e w1 ⟨v1, rfl, ho, hg, hv⟩
      rw [HZ.out] at ho
      have hq := HH.out.1.setS hg ho (Or.inl hv)
      have hB := HH.out.1.b.grown hg (fun e => HH.out.1.sn e.symm)
      have c7' : w1.cell? ⟨hb, 7, none⟩ = some sv := hB.c 7 (by decide)
      have d2 : w1.cell? ⟨hb, 2, none⟩ = some (.int .u32 s.e0) := hB.c 2 (by decide)
      have d3 : w1.cell? ⟨hb, 3, none⟩ = some (.int .u32 s.e1) := hB.c 3 (by decide)
      have d4 : w1.cell? ⟨hb, 4, none⟩ = some (.int .u32 s.e2) := hB.c 4 (by decide)
      have d5 : w1.cell? ⟨hb, 5, none⟩ = some (.int .u32 s.e3) := hB.c 5 (by decide)
      have f7' := hB.fz 7
      have HQ : Hid (_ ∧ _) := ⟨hq.1, HH.out.2.trans hq.2⟩
      have hle : w.heap.size ≤ w1.heap.size := Nat.le_trans HH.out.2.g.size hg.size
      have HLe : Hid (_) := hle
      obtain ⟨a1, cap1, hv1, hcap⟩ := ho.len
      rw [show ([] : List Int).length = 0 from rfl] at hv1 hcap
      subst hv1
      clear hv hB ho hg hq c6 c7 c8 c9 f6 f8 f9 hle
      have HD : Hid (Calls _ _ _ _ _) := dataTo_any (s := s) (HQ.out.1.c 0 (by decide)) r s.e0 s.e1 s.e2 s.e3
      go_wp2_with (fail)
      refine HD.out.mono ?_
      rintro e w6 ⟨rfl, hb6⟩
      clear d2 d3 d4 d5 HD c7' f7'
      generalize World.setCell w1 _ _ = W5 at *
      generalize hM0 : W.dat s r s.e0 s.e1 s.e2 s.e3 false false = M0 at *
      have e10 : (mgL M0).set 10 (.bool true) = mgL (W.dat s r s.e0 s.e1 s.e2 s.e3 false true) := by rw [← hM0]; rfl
      generalize hM1 : W.dat s r s.e0 s.e1 s.e2 s.e3 false true = M1 at *
      have hst := stM_new w6 M0 z11 rfl
      have hm := msgAt_new w6 M0
      have hb7 := hb6.trans ((below_alloc w6 (.cells (mgL M0).toArray 35)).mono hb6.size)
      have H7 := HQ.out.1.below hb7
      have hpt : Hpt hb (.slice a1 0 cap1) av w6.heap.size := HQ.out.1.pt_new hb6.size
      have hle6 : w.heap.size ≤ w6.heap.size := Nat.le_trans HQ.out.2.g.size hb6.size
      have HU : Hid (_) := HQ.out.2.trans (Hu.of_below hb7)
      clear hb6 hb7 hM0
      go_upto_region 8 with fail
      clear hst
      generalize World.alloc w6 _ = W7 at *
      generalize w6.heap.size = mb at *
      have hg8 := gsetCell W7 mb 10 (.bool true)
      have H8 := H7.oth hg8 hpt
      have m8 := MsgAt.set1 hm 10 (.bool true) e10
      have H9 := H8.put 6 (.int .i64 r) { s with sv := r, b_ := 1, ow := r, sh := [] } (upd_ow _ _ av r) rfl rfl
      have m9 := (m8.up H9.2 hpt).ld
      have u9 := (HU.out.new hg8 hle6).trans H9.2
      have HF : Hid (_ ∧ _) := ⟨H9.1, u9⟩
      have c7 : W7.cell? ⟨hb, 7, none⟩ = some (.slice a1 0 cap1) := H7.c 7 (by decide)
      have c6 : W7.cell? ⟨hb, 6, none⟩ = some (.int .i64 (-1)) := H7.c 6 (by decide)
      have f6 := H7.b.fz 6
      have c10 := hm.cAt 10
      have f10 := hm.fz 10
      have k10 : ∃ u, (mgL M0)[10]? = some u := ⟨_, rfl⟩
      obtain ⟨u, hu10⟩ := k10
      rw [hu10] at c10
      have hne : hb ≠ mb := hpt.1.symm
      have hne' : mb ≠ hb := hpt.1
      have bs := bsM_any M1
      clear hm H7 H8 m8 H9 u9 hg8 e10
      go_wp2_with (fail)
      go_ret
      rw [HO.out]
      exact Res.oneB HF.out.1 HF.out.2 M1 (by simp [World.setCell])
  by_cases e1 : s.ow = -1
  · exact main false (s.ow != r) (by simp [e1]) rfl rfl
  · have e2 : s.ow = r := by omega
    exact main true false (by simpa using e1) (by simp [e2]) rfl
end Go.Proofs.Ytadkpelcbnljbaa
