/- home: getS, where others share the line. -/
import Derived.Test.YtadkpelcbnljbaaHomL1
import Derived.Test.YtadkpelcbnljbaaHomI
namespace Go.Proofs.Ytadkpelcbnljbaa
open Go.ChangeShapes Go.WideShapes Go.ChangeAt Go.RowKit
set_option linter.unusedVariables false
set_option linter.unusedSimpArgs false
attribute [local go_sem ↓] ldM_eq stM_eq bdM_eq bsM_eq
variable {n0 hb : Nat} {s s' : W.Hm} {sv av sv' av' sv'' av'' : Value} {w w' w'' : World}

set_option maxRecDepth 10000 in
set_option maxHeartbeats 1600000 in
theorem getS_more (H : Ho n0 hb s sv av w) (hu : W.Up1 s.sh) (hl : s.sh.length ≤ 4096) (r : Int) (q : s.ow = -1 ∨ s.ow = r ∧ s.ow ≠ -1) (hz : W.wo s.sh r ≠ []) : Calls Try.prog 27 #[.pointer (some ⟨hb, 0, none⟩), .int .i64 r] w fun e w' => Res n0 hb (W.gS s r) sv av w e w' := by
  have HO : Hid (W.gS s r = ({ s with sv := r, b_ := 1, ow := -1, sh := W.ins r (W.wo s.sh r) }, [W.dat s r s.e0 s.e1 s.e2 s.e3 false false])) := by
    show W.gS s r = _
    unfold W.gS
    rw [if_neg (by omega), if_neg hz]
  have c6 : w.cell? ⟨hb, 6, none⟩ = some (.int .i64 s.ow) := H.c 6 (by decide)
  have c7 : w.cell? ⟨hb, 7, none⟩ = some sv := H.c 7 (by decide)
  have c8 : w.cell? ⟨hb, 8, none⟩ = some (.int .i64 s.sv) := H.c 8 (by decide)
  have c9 : w.cell? ⟨hb, 9, none⟩ = some (.int .i64 s.b_) := H.c 9 (by decide)
  have f6 := H.b.fz 6
  have f8 := H.b.fz 8
  have f9 := H.b.fz 9
  have h1 := H.put 8 (.int .i64 r) { s with sv := r } (upd_sv s sv av r) rfl rfl
  have h2 := h1.1.put 9 (.int .i64 1) { s with sv := r, b_ := 1 } (upd_by _ sv av 1) rfl rfl
  have h3 := h2.1.put 6 (.int .i64 (-1)) { s with sv := r, b_ := 1, ow := -1 } (upd_ow _ sv av (-1)) rfl rfl
  have HW : Hid (Calls _ _ _ _ _) := without_any n0 sv s.sh r hu hl _ h3.1.os
  have HH : Hid (_ ∧ _) := ⟨h3.1, (h1.2.trans h2.2).trans h3.2⟩
  have HZ : Hid (W.wo s.sh r ≠ [] ∧ W.Up1 (W.wo s.sh r) ∧ (W.wo s.sh r).length ≤ 4096) := ⟨hz, W.wo_up hu r, Nat.le_trans (W.wo_len _ _) hl⟩
  have HL : Hid (hb < w.heap.size) := H.b.lt
  clear H h1 h2 h3 hu hl hz
  have main : ∀ b1 b2 : Bool, (s.ow != -1) = b1 → (s.ow != r) = b2 → (b1 && b2) = false → Calls Try.prog 27 #[.pointer (some ⟨hb, 0, none⟩), .int .i64 r] w fun e w' => Res n0 hb (W.gS s r) sv av w e w' := by
    intro b1 b2 n1 n2 n3
    have tail : Hid (b1 = false ∨ b1 = true ∧ b2 = false) := by
      show b1 = false ∨ b1 = true ∧ b2 = false
      cases b1 <;> cases b2 <;> simp at n3 ⊢
    clear n3
    rcases tail.out with rfl | ⟨rfl, rfl⟩
    all_goals
      clear tail q
      go_enter Try.func27, Try.ntmps27
      go_wp2_with (fail)
      refine HW.out.mono ?_
      rintro e w1 ⟨v1, rfl, ho, hg, hv⟩
      have hq := HH.out.1.setS hg ho (Or.inl hv)
      have hB := HH.out.1.b.grown hg (fun e => HH.out.1.sn e.symm)
      have c7' : w1.cell? ⟨hb, 7, none⟩ = some sv := hB.c 7 (by decide)
      have d2 : w1.cell? ⟨hb, 2, none⟩ = some (.int .u32 s.e0) := hB.c 2 (by decide)
      have d3 : w1.cell? ⟨hb, 3, none⟩ = some (.int .u32 s.e1) := hB.c 3 (by decide)
      have d4 : w1.cell? ⟨hb, 4, none⟩ = some (.int .u32 s.e2) := hB.c 4 (by decide)
      have d5 : w1.cell? ⟨hb, 5, none⟩ = some (.int .u32 s.e3) := hB.c 5 (by decide)
      have f7' := hB.fz 7
      have HQ : Hid (_ ∧ _) := ⟨hq.1, HH.out.2.trans hq.2⟩
      have hle : w.heap.size ≤ w1.heap.size := Nat.le_trans HH.out.2.g.size hg.size
      have HLe : Hid (_) := hle
      obtain ⟨a1, cap1, hv1, hcap⟩ := ho.len
      have hnz : (W.wo s.sh r).length ≠ 0 := fun e => HZ.out.1 (List.eq_nil_of_length_eq_zero e)
      generalize hn1 : (W.wo s.sh r).length = n1 at hv1 hcap hnz
      obtain ⟨n1, rfl⟩ : ∃ k, n1 = k + 1 := ⟨n1 - 1, by omega⟩
      subst hv1
      clear hv hB ho hg hq c6 c7 c8 c9 f6 f8 f9 hle
      have HD : Hid (Calls _ _ _ _ _) := dataTo_any (s := s) (HQ.out.1.c 0 (by decide)) r s.e0 s.e1 s.e2 s.e3
      go_wp2_with (fail)
      refine HD.out.mono ?_
      rintro e w6 ⟨rfl, hb6⟩
      clear d2 d3 d4 d5 HD c7' f7'
      generalize World.setCell w1 _ _ = W5 at *
      generalize hM0 : W.dat s r s.e0 s.e1 s.e2 s.e3 false false = M0 at *
      have e10 : (mgL M0).set 10 (.bool false) = mgL M0 := by rw [← hM0]; rfl
      have hst := stM_new w6 M0 z11 rfl
      have hm := msgAt_new w6 M0
      have hb7 := hb6.trans ((below_alloc w6 (.cells (mgL M0).toArray 35)).mono hb6.size)
      have H7 := HQ.out.1.below hb7
      have hpt : Hpt hb (.slice a1 (n1 + 1) cap1) av w6.heap.size := HQ.out.1.pt_new hb6.size
      have hle6 : w.heap.size ≤ w6.heap.size := Nat.le_trans HQ.out.2.g.size hb6.size
      have HU : Hid (_) := HQ.out.2.trans (Hu.of_below hb7)
      clear hb6 hb7 hM0
      go_upto_region 8 with fail
      clear hst
      generalize World.alloc w6 _ = W7 at *
      generalize w6.heap.size = mb at *
      have hg8 := gsetCell W7 mb 10 (.bool false)
      have H8 := H7.oth hg8 hpt
      have m8 := MsgAt.set1 hm 10 (.bool false) e10
      have HW2 : Hid (Calls _ _ _ _ _) := with_any n0 (.slice a1 (n1 + 1) cap1) (W.wo s.sh r) r HZ.out.2.1 HZ.out.2.2 _ H8.os (Nat.le_trans H8.n0 (Nat.le_of_lt H8.b.lt))
      have HF : Hid (_ ∧ _ ∧ _) := ⟨H8, m8, HU.out.new hg8 hle6⟩
      have c7 : W7.cell? ⟨hb, 7, none⟩ = some (.slice a1 (n1 + 1) cap1) := H7.c 7 (by decide)
      have hpos : ((n1 + 1 : Nat) : Int) ≠ 0 := by omega
      have c10 := hm.cAt 10
      have f10 := hm.fz 10
      have k10 : ∃ u, (mgL M0)[10]? = some u := ⟨_, rfl⟩
      obtain ⟨u, hu10⟩ := k10
      rw [hu10] at c10
      have hne : hb ≠ mb := hpt.1.symm
      have hne' : mb ≠ hb := hpt.1
      have hpt : Hid (Hpt hb (.slice a1 (n1 + 1) cap1) av mb) := hpt
      clear hm H7 H8 m8 hg8 e10
      go_wp2_with (fail)
      refine HW2.out.mono ?_
      rintro e w9 ⟨v9, rfl, ho9, hg9, hv9⟩
      have hq9 := HF.out.1.setS hg9 ho9 hv9
      have B9 := HF.out.1.b.grown hg9 (fun e => HF.out.1.sn e.symm)
      have m9 := HF.out.2.1.up hq9.2 hpt.out
      have u9 := HF.out.2.2.trans hq9.2
      have HG : Hid (_ ∧ _ ∧ _) := ⟨hq9.1, m9, u9⟩
      have r7 : w9.cell? ⟨hb, 7, none⟩ = some _ := B9.c 7 (by decide)
      have f7 := B9.fz 7
      have l9 := m9.ld
      have bs := bsM_any M0
      obtain ⟨a9, cap9, hv9', hcap9⟩ := ho9.len
      generalize (W.ins r (W.wo s.sh r)).length = n9 at hv9' hcap9
      subst hv9'
      clear B9 m9 u9 hq9 ho9 hg9 hv9 c7 c10 f10
      go_wp2_with (fail)
      go_ret
      rw [HO.out]
      exact Res.oneB HG.out.1 HG.out.2.2 M0 (by simp [World.setCell])
  by_cases e1 : s.ow = -1
  · exact main false (s.ow != r) (by simp [e1]) rfl rfl
  · have e2 : s.ow = r := by omega
    exact main true false (by simpa using e1) (by simp [e2]) rfl

theorem getS_any (H : Ho n0 hb s sv av w) (hu : W.Up1 s.sh) (hl : s.sh.length ≤ 4096) (r : Int) : Calls Try.prog 27 #[.pointer (some ⟨hb, 0, none⟩), .int .i64 r] w fun e w' => Res n0 hb (W.gS s r) sv av w e w' := by
  by_cases q : s.ow ≠ -1 ∧ s.ow ≠ r
  · exact getS_share H r q.1 q.2
  · have q' : s.ow = -1 ∨ s.ow = r ∧ s.ow ≠ -1 := by omega
    by_cases z : W.wo s.sh r = []
    · exact getS_alone H hu hl r q' z
    · exact getS_more H hu hl r q' z
end Go.Proofs.Ytadkpelcbnljbaa
