/- Texts in one: DepKs, DepKr. -/
import Derived.Test.YtopehmpjfndgjaaJ21
/- take: s. -/
namespace Go.Proofs.Ytopehmpjfndgjaa
open Go.ChangeShapes Go.WideShapes Go.ChangeAt Go.RowKit
set_option linter.unusedVariables false
set_option linter.unusedSimpArgs false

attribute [local go_sem ↓] ldO_eq stL_eq stP_eq bsO_eq
set_option maxRecDepth 100000 in
set_option maxHeartbeats 1600000 in
theorem take_s (n0 : Nat) (w0 : World) (fb : Nat) (r : Nat → List Int) (c : List Int) (L : List Oq) (R : Nat → W.Sl) (C O : W.Sl) (op csr imm : Int) (rd r1 r2 : Nat) (aq rl : Bool) (o : W.Opr) (w : World) (hS : Fs n0 w0 fb (fun _ => False) r c L R C O w) (h1 : r1 < 32) (h2 : r2 < 32) (hd : rd < 32) (hrd : ((rd : Int) != 0) = false) (hk : (o.k != 0) = true) (hc3 : (W.kind op == 3) = false) (hc4 : (op == 4) = false)
    (p1 : (r r1).Pairwise (· < ·)) (p2 : (r r2).Pairwise (· < ·)) (p3 : c.Pairwise (· < ·)) (z1 : (r r1).length ≤ 200) (z2 : (r r2).length ≤ 200) (z3 : c.length ≤ 200) (zL : L.length ≤ 4096) :
    Calls Try.prog 17 #[.pointer (some ⟨fb, 0, none⟩), .agg #[.int .i64 op, .int .i64 (rd : Int), .int .i64 (r1 : Int), .int .i64 (r2 : Int), .int .i64 csr, .int .u32 imm, .bool aq, .bool rl], .agg (opC o W.Sl.nil W.Sl.nil W.Sl.nil)] w fun e w' => e = .returned (.tuple #[]) ∧ ∃ R' C' O' L', Fs n0 w0 fb (fun _ => False) r c L' R' C' O' w' ∧ L'.map Oq.pure = L.map Oq.pure ++ [(o, r r1, r r2, c)] := by
  have T := Tk.start w fb ⟨op, rd, r1, r2, csr, imm, aq, rl⟩ (opC o W.Sl.nil W.Sl.nil W.Sl.nil) R C O hS.f
  have hS0 := (hS.more (H := Tw w.heap.size) (fun b hb k => by rcases k with k | k <;> omega)).below (((Below.refl _ w).alloc (Nat.le_refl _) (.cells #[.int .i64 op, .int .i64 (rd : Int), .int .i64 (r1 : Int), .int .i64 (r2 : Int), .int .i64 csr, .int .u32 imm, .bool aq, .bool rl] 47)).alloc (by simp) (.cells (opC o W.Sl.nil W.Sl.nil W.Sl.nil) 32))
  have hK := fun w => kind_any op w
  have hOn := own_n hS.ow
  have hlt := hS.f.lt
  have hn0 := hS.nf
  have hob : some (w.heap.size + 1) ≠ (slV O).ownBlock := fun e => by
    have := (hS.ow.lt _ e.symm).2
    omega
  have U0 : 0 < 1 := by decide
  have hob0 : some w.heap.size ≠ (slV O).ownBlock := fun e => by
    have := (hS.ow.lt _ e.symm).2
    omega
  have hob3 := hS.of
  clear hS
  generalize W.kind op = KD at *
  unfold opC at *
  have q1 : (0 : Int) ≤ (r1 : Int) := Int.natCast_nonneg _
  have q2 : (0 : Int) ≤ (r2 : Int) := Int.natCast_nonneg _
  have q3 : (r1 : Int) < 32 := by omega
  have q4 : (r2 : Int) < 32 := by omega
  have HKd : Hid _ := hK
  clear hK
  go_enter Try.func17, Try.ntmps17
  go_wp2_with (fail)
  generalize World.alloc (World.alloc w _) _ = W0 at *
  have i0 := T.i0
  have i1 := T.i1
  have i2 := T.i2
  have i3 := T.i3
  have o0 := T.o.c 0 rfl
  have g1 := T.f.rg r1 h1
  have g2 := T.f.rg r2 h2
  have fl := T.f.lt
  go_quiet (fail)
  have T1 : Tk _ _ _ _ _ _ _ (W0.drewN nq) := T.below (below_drewN (Below.refl _ _) _)
  have S1 := hS0.below (below_drewN (Below.refl W0.heap.size W0) nq)
  clear T hS0 i0 i1 i2 i3 o0 g1 g2 fl
  generalize World.drewN W0 nq = W1 at *
  have i0 := T1.i0
  have i1 := T1.i1
  have o0 := T1.o.c 0 rfl
  have fl := T1.f.lt
  have lA := S1.rl r1 h1
  have lB := S1.rl r2 h2
  have q5 : (0 : Int) ≤ (rd : Int) := Int.natCast_nonneg _
  have q6 : (rd : Int) < 32 := by omega
  go_wp2_with (fail)
  all_goals
    have T2 := T1
    have S2 := S1
    have lA2 := lA
    have lB2 := lB
    clear T1 S1 lA lB i0 i1 o0
    have i0 := T2.i0
    have o0 := T2.o.c 0 rfl
    have fl := T2.f.lt
    have hsz2 : w.heap.size + 1 < W1.heap.size := T2.o.lt
    clear i0 o0
    have HT2 : Hid (_ ∧ _ ∧ _ ∧ _) := ⟨T2, S2, lA2, lB2⟩
    clear T2 S2 lA2 lB2
    go_wp2_with (fail)
    go_region_held3 (fun w' => w'.cell? ⟨fb, 32, none⟩ = some (slV C) ∧ (∀ u : W.Sl, (stL ⟨w.heap.size + 1, 10, none⟩ (slV u)).run Try.prog w' = .ok () (w'.setCell ⟨w.heap.size + 1, 10, none⟩ (slV u))) ∧ (∀ u : W.Sl, (stL ⟨w.heap.size + 1, 11, none⟩ (slV u)).run Try.prog w' = .ok () (w'.setCell ⟨w.heap.size + 1, 11, none⟩ (slV u))) ∧ ∀ u : W.Sl, (stL ⟨w.heap.size + 1, 12, none⟩ (slV u)).run Try.prog w' = .ok () (w'.setCell ⟨w.heap.size + 1, 12, none⟩ (slV u)))
      (first
        | exact (HT2.out.1.below (Below.refl _ _).drew).s5 rfl
        | exact ((HT2.out.1.below (Below.refl _ _).drew).below ba).s5 rfl
        | exact (((HT2.out.1.below (Below.refl _ _).drew).below ba).below bb).s5 rfl
        | exact ((((HT2.out.1.below (Below.refl _ _).drew).below ba).below bb).below bc).s5 rfl
        | exact (((((HT2.out.1.below (Below.refl _ _).drew).below ba).below bb).below bc).setOp 10 (slV t1)).s5 rfl
        | exact ((((((HT2.out.1.below (Below.refl _ _).drew).below ba).below bb).below bc).setOp 10 (slV t1)).setOp 11 (slV t2)).s5 rfl
        | exact (((((((HT2.out.1.below (Below.refl _ _).drew).below ba).below bb).below bc).setOp 10 (slV t1)).setOp 11 (slV t2)).setOp 12 (slV t3)).s5 rfl
        | with_reducible assumption)
      (first
        | ((go_at_call_of 25 (slV (R r1)); refine (clone_x (R r1) (r r1) _ (HT2.out.2.2.1.below (Below.refl _ _).drew) ((HT2.out.2.1.below (Below.refl _ _).drew).none (HT2.out.1.below (Below.refl _ _).drew).o.lt)).mono ?_; rintro e wa ⟨⟨t1, rfl, k1⟩, ba⟩))
        | ((go_at_call_of 25 (slV (R r2)); refine (clone_x (R r2) (r r2) _ ((HT2.out.2.2.2.below (Below.refl _ _).drew).below ba) (((HT2.out.2.1.below (Below.refl _ _).drew).below ba).none ((HT2.out.1.below (Below.refl _ _).drew).below ba).o.lt)).mono ?_; rintro e wb ⟨⟨t2, rfl, k2⟩, bb⟩))
        | ((go_at_call_of 25 (slV C); refine (clone_x C c _ (((HT2.out.2.1.below (Below.refl _ _).drew).below ba).below bb).cl ((((HT2.out.2.1.below (Below.refl _ _).drew).below ba).below bb).none (((HT2.out.1.below (Below.refl _ _).drew).below ba).below bb).o.lt)).mono ?_; rintro e wc ⟨⟨t3, rfl, k3⟩, bc⟩)))
    all_goals
      have T3 : Tk w.heap.size fb _ (opC o t1 t2 t3) _ C O _ := (((((((HT2.out.1.below (Below.refl _ _).drew).below ba).below bb).below bc).setOp 10 (slV t1)).setOp 11 (slV t2)).setOp 12 (slV t3))
      have gg : Tw w.heap.size (w.heap.size + 1) := Or.inr rfl
      have S3 := (((((((HT2.out.2.1.below (Below.refl _ _).drew).below ba).below bb).below bc).setG (w.heap.size + 1) 10 (slV t1) gg (by omega) (by omega) hob).setG (w.heap.size + 1) 11 (slV t2) gg (by omega) (by omega) hob).setG (w.heap.size + 1) 12 (slV t3) gg (by omega) (by omega) hob)
      have j1 := (((((k1.below bb).below bc).set (w.heap.size + 1) 10 (slV t1) (Or.inr (Or.inr gg))).set (w.heap.size + 1) 11 (slV t2) (Or.inr (Or.inr gg))).set (w.heap.size + 1) 12 (slV t3) (Or.inr (Or.inr gg)))
      have j2 := ((((k2.below bc).set (w.heap.size + 1) 10 (slV t1) (Or.inr (Or.inr gg))).set (w.heap.size + 1) 11 (slV t2) (Or.inr (Or.inr gg))).set (w.heap.size + 1) 12 (slV t3) (Or.inr (Or.inr gg)))
      have j3 := (((k3.set (w.heap.size + 1) 10 (slV t1) (Or.inr (Or.inr gg))).set (w.heap.size + 1) 11 (slV t2) (Or.inr (Or.inr gg))).set (w.heap.size + 1) 12 (slV t3) (Or.inr (Or.inr gg)))
      clear HT2 k1 k2 k3 ba bb bc
      generalize World.setCell (World.setCell (World.setCell wc _ _) _ _) _ _ = W4 at *
      obtain ⟨ti, hi, hzz⟩ := Option.map_eq_some_iff.1 infoOp
      simp only [Prod.mk.injEq] at hzz
      obtain ⟨hz0, hz1, hz2⟩ := hzz
      have g33 : W4.drew.cell? ⟨fb, 33, none⟩ = some (slV O) := T3.f.op
      have g34 : ∀ o : Obj, (W4.alloc o).drew.cell? ⟨fb, 33, none⟩ = some (slV O) := fun o => Lib.cell?_alloc_some (W := W4) o T3.f.op
      have g35 : W4.cell? ⟨fb, 33, none⟩ = some (slV O) := T3.f.op
      have g36 : ∀ o : Obj, (W4.alloc o).cell? ⟨fb, 33, none⟩ = some (slV O) := fun o => Lib.cell?_alloc_some (W := W4) o T3.f.op
      have hbs := bsO_any o t1 t2 t3
      have hcs : ∀ W5 : World, ∀ j u, (opC o t1 t2 t3).toList[j]? = some u → (W5.alloc (.cells (opC o t1 t2 t3) 32)).cell? ((⟨W5.heap.size, 0, none⟩ : Addr).add j) = some u := fun W5 => World.news_of_block (cs := opC o t1 t2 t3) (heap_alloc_last W5 _)
      have hone : ∀ u ∈ (opC o t1 t2 t3).toList, u.oneCell' = true := by
        intro u hu
        simp [opC] at hu
        rcases hu with h | h | h | h | h | h | h | h | h | h | h | h | h <;> rw [h] <;> rfl
      have HT3 : Hid (_ ∧ _ ∧ _ ∧ _) := ⟨T3, S3, hcs, hone⟩
      have HJ : Hid (_ ∧ _ ∧ _) := ⟨j1, j2, j3⟩
      have fl3 := T3.f.lt
      clear T3 S3 hcs hone j1 j2 j3
      have l6 := (HT3.out.1.below (Below.refl _ _).drew).s6 rfl
      have l7 := fun o => ((HT3.out.1.below ((Below.refl _ _).alloc (Nat.le_refl _) o)).below (Below.refl _ _).drew).s6 rfl
      have la0 := l6.1
      have la1 := fun o => (l7 o).1
      clear l6 l7
      go_wp2_with (fail)
      go_region_law (first
          | ((refine step_lies _ 61 58 60 _ n0 32 ti (.agg zOp) 13 120 Try.underlying25 hi hz0 hz1 hz2 rfl (by decide) (slV O) L.length (opsX L) ?a1 ?a3 ⟨W4.heap.size, 0, none⟩ 1 1 (opC o t1 t2 t3).toList ?a2 rfl ?a4 ?a5 (by decide) ?a6 ?a7 ?a8 ?_
              case a1 => rfl
              case a2 => rfl
              case a3 => exact own_below HT3.out.2.1.ow ((Below.refl _ _).drew.alloc (Nat.le_refl _) _)
              case a4 => exact HT3.out.2.2.1 W4.drew
              case a5 => exact HT3.out.2.2.2
              case a6 => unfold maxLen; omega
              case a7 => omega
              case a8 => (have := HT3.out.1.f.lt; simp; omega)
              intro g cap w6 hown6 hg6 hat6 hlt6
              have st6 := fun m c => ((((HT3.out.1.below (Below.refl _ _).drew).below ((Below.refl _ _).alloc (Nat.le_refl _) _)).grown hg6 hob0 hob hob3).s6 rfl).2 (some ⟨g, 0, none⟩) m c))
          | (fail))
      all_goals
        have T4 := (((HT3.out.1.below (Below.refl _ _).drew).below ((Below.refl _ _).alloc (Nat.le_refl _) _)).grown hg6 hob0 hob hob3).setO ⟨some ⟨g, 0, none⟩, L.length + 1, cap⟩
        have S4 := Fs.app (P := ⟨some ⟨g, 0, none⟩, L.length + 1, cap⟩) ((HT3.out.2.1.below (Below.refl _ _).drew).below ((Below.refl _ _).alloc (Nat.le_refl _) _)) ⟨o, t1, t2, t3, r r1, r r2, c⟩ ⟨(HJ.out.1.below (Below.refl _ _).drew).below ((Below.refl _ _).alloc (Nat.le_refl _) _), (HJ.out.2.1.below (Below.refl _ _).drew).below ((Below.refl _ _).alloc (Nat.le_refl _) _), (HJ.out.2.2.below (Below.refl _ _).drew).below ((Below.refl _ _).alloc (Nat.le_refl _) _)⟩ hg6 hown6 (fun b e => by
          have e' : b = g := by simpa [slV, Value.ownBlock] using e
          subst e'
          rcases hat6 with h | h
          · exact Or.inl h.symm
          · exact Or.inr (Nat.le_of_eq h.symm))
        have i0 := T4.i0
        have HS4 : Hid (Fs _ _ _ _ _ _ _ _ _ _ _) := S4
        clear T4 S4 HT3 HJ hown6 hg6 hat6 st6 g33 g34 g35 g36 hbs la0 la1
        unfold slV at i0
        dsimp only at i0
        go_wp2_with (fail)
        refine (HKd.out _).mono ?_
        rintro e w9 ⟨rfl, rfl⟩
        go_wp2
        go_end0
        exact ⟨rfl, _, _, _, _, HS4.out.more (fun b _ h => absurd h id), by simp [Oq.pure]⟩
end Go.Proofs.Ytopehmpjfndgjaa

/- take: r. -/
namespace Go.Proofs.Ytopehmpjfndgjaa
open Go.ChangeShapes Go.WideShapes Go.ChangeAt Go.RowKit
set_option linter.unusedVariables false
set_option linter.unusedSimpArgs false

attribute [local go_sem ↓] ldO_eq stL_eq stP_eq bsO_eq
set_option maxRecDepth 100000 in
set_option maxHeartbeats 1600000 in
theorem take_r (n0 : Nat) (w0 : World) (fb : Nat) (r : Nat → List Int) (c : List Int) (L : List Oq) (R : Nat → W.Sl) (C O : W.Sl) (op csr imm : Int) (rd r1 r2 : Nat) (aq rl : Bool) (o : W.Opr) (w : World) (hS : Fs n0 w0 fb (fun _ => False) r c L R C O w) (h1 : r1 < 32) (h2 : r2 < 32) (hd : rd < 32) (hrd : ((rd : Int) != 0) = true) (hk : (o.k != 0) = false) (hc3 : (W.kind op == 3) = false) (hc4 : (op == 4) = false)
    (p1 : (r r1).Pairwise (· < ·)) (p2 : (r r2).Pairwise (· < ·)) (p3 : c.Pairwise (· < ·)) (z1 : (r r1).length ≤ 200) (z2 : (r r2).length ≤ 200) (z3 : c.length ≤ 200) (zL : L.length ≤ 4096) :
    Calls Try.prog 17 #[.pointer (some ⟨fb, 0, none⟩), .agg #[.int .i64 op, .int .i64 (rd : Int), .int .i64 (r1 : Int), .int .i64 (r2 : Int), .int .i64 csr, .int .u32 imm, .bool aq, .bool rl], .agg (opC o W.Sl.nil W.Sl.nil W.Sl.nil)] w fun e w' => e = .returned (.tuple #[]) ∧ ∃ R' C' O' L', Fs n0 w0 fb (fun _ => False) (updL r rd (W.resL L.length op o.k (r r1) (r r2))) c L' R' C' O' w' ∧ L'.map Oq.pure = L.map Oq.pure ++ [] := by
  have T := Tk.start w fb ⟨op, rd, r1, r2, csr, imm, aq, rl⟩ (opC o W.Sl.nil W.Sl.nil W.Sl.nil) R C O hS.f
  have hS0 := (hS.more (H := Tw w.heap.size) (fun b hb k => by rcases k with k | k <;> omega)).below (((Below.refl _ w).alloc (Nat.le_refl _) (.cells #[.int .i64 op, .int .i64 (rd : Int), .int .i64 (r1 : Int), .int .i64 (r2 : Int), .int .i64 csr, .int .u32 imm, .bool aq, .bool rl] 47)).alloc (by simp) (.cells (opC o W.Sl.nil W.Sl.nil W.Sl.nil) 32))
  have hK := fun w => kind_any op w
  have hOn := own_n hS.ow
  have hlt := hS.f.lt
  have hn0 := hS.nf
  have hob : some (w.heap.size + 1) ≠ (slV O).ownBlock := fun e => by
    have := (hS.ow.lt _ e.symm).2
    omega
  have U0 : 0 < 1 := by decide
  have hob0 : some w.heap.size ≠ (slV O).ownBlock := fun e => by
    have := (hS.ow.lt _ e.symm).2
    omega
  have hob3 := hS.of
  clear hS
  generalize W.kind op = KD at *
  unfold opC at *
  have q1 : (0 : Int) ≤ (r1 : Int) := Int.natCast_nonneg _
  have q2 : (0 : Int) ≤ (r2 : Int) := Int.natCast_nonneg _
  have q3 : (r1 : Int) < 32 := by omega
  have q4 : (r2 : Int) < 32 := by omega
  have HKd : Hid _ := hK
  clear hK
  go_enter Try.func17, Try.ntmps17
  go_wp2_with (fail)
  generalize World.alloc (World.alloc w _) _ = W0 at *
  have i0 := T.i0
  have i1 := T.i1
  have i2 := T.i2
  have i3 := T.i3
  have o0 := T.o.c 0 rfl
  have g1 := T.f.rg r1 h1
  have g2 := T.f.rg r2 h2
  have fl := T.f.lt
  go_quiet (fail)
  have T1 : Tk _ _ _ _ _ _ _ (W0.drewN nq) := T.below (below_drewN (Below.refl _ _) _)
  have S1 := hS0.below (below_drewN (Below.refl W0.heap.size W0) nq)
  clear T hS0 i0 i1 i2 i3 o0 g1 g2 fl
  generalize World.drewN W0 nq = W1 at *
  have i0 := T1.i0
  have i1 := T1.i1
  have o0 := T1.o.c 0 rfl
  have fl := T1.f.lt
  have lA := S1.rl r1 h1
  have lB := S1.rl r2 h2
  have q5 : (0 : Int) ≤ (rd : Int) := Int.natCast_nonneg _
  have q6 : (rd : Int) < 32 := by omega
  go_wp2_with (fail)
  have hsz : w.heap.size + 1 < W1.heap.size := T1.o.lt
  have hRes := result_x fb R C O op o.k (R r1) (R r2) (r r1) (r r2) W1.drew (S1.f.below (Below.refl _ _).drew) (lA.below (Below.refl _ _).drew) (lB.below (Below.refl _ _).drew) p1 p2 (by omega) ((S1.below (Below.refl _ _).drew).none hsz)
  have HR : Hid (Calls _ _ _ _ _) := hRes
  clear hRes i0 i1 o0
  have HT : Hid (_ ∧ _ ∧ _ ∧ _) := ⟨T1, S1, lA, lB⟩
  clear T1 S1 lA lB
  go_region_held3 (fun w' => w'.cell? ⟨w.heap.size, 1, none⟩ = some (.int .i64 (rd : Int)) ∧ w'.cell? ⟨w.heap.size, 0, none⟩ = some (.int .i64 op) ∧ w'.cell? ⟨w.heap.size + 1, 0, none⟩ = some (.int .i64 o.k) ∧ ∀ u : W.Sl, (stL ⟨fb, rd, none⟩ (slV u)).run Try.prog w' = .ok () (w'.setCell ⟨fb, rd, none⟩ (slV u)))
    (first
      | exact (HT.out.1.below (Below.refl _ _).drew).s3 hd rfl
      | exact ((HT.out.1.below (Below.refl _ _).drew).below b2).s3 hd rfl
      | exact (((HT.out.1.below (Below.refl _ _).drew).below b2).setR rd hd u).s3 hd rfl
      | with_reducible assumption)
    ((go_at_call 24; refine HR.out.mono ?_; rintro e w2 ⟨⟨u, rfl, hu⟩, b2⟩))
  all_goals
    have T2 := ((HT.out.1.below (Below.refl _ _).drew).below b2).setR rd hd u
    have S2 := ((HT.out.2.1.below (Below.refl _ _).drew).below b2).setR rd hd u _ hu
    have lA2 := (((HT.out.2.2.1.below (Below.refl _ _).drew).below b2).set fb rd (slV u) (Or.inl rfl))
    have lB2 := (((HT.out.2.2.2.below (Below.refl _ _).drew).below b2).set fb rd (slV u) (Or.inl rfl))
    clear HT HR b2 hu
    rw [hOn] at S2
    generalize World.setCell w2 ⟨fb, rd, none⟩ (slV u) = W3 at *
    have i0 := T2.i0
    have o0 := T2.o.c 0 rfl
    have fl := T2.f.lt
    have HS4 : Hid (Fs _ _ _ _ _ _ _ _ _ _ _) := S2
    clear T2 S2 lA2 lB2
    go_wp2_with (fail)
    refine (HKd.out _).mono ?_
    rintro e w9 ⟨rfl, rfl⟩
    go_wp2
    go_end0
    exact ⟨rfl, _, _, _, _, HS4.out.more (fun b _ h => absurd h id), by simp⟩
end Go.Proofs.Ytopehmpjfndgjaa
