/- Texts in one: DepKj. -/
import Derived.Test.YtopehmpjfndgjaaJ21
/- take: j. -/
namespace Go.Proofs.Ytopehmpjfndgjaa
open Go.ChangeShapes Go.WideShapes Go.ChangeAt Go.RowKit
set_option linter.unusedVariables false
set_option linter.unusedSimpArgs false

attribute [local go_sem ↓] ldO_eq stL_eq stP_eq bsO_eq
set_option maxRecDepth 100000 in
set_option maxHeartbeats 1600000 in
theorem take_j (n0 : Nat) (w0 : World) (fb : Nat) (r : Nat → List Int) (c : List Int) (L : List Oq) (R : Nat → W.Sl) (C O : W.Sl) (op csr imm : Int) (rd r1 r2 : Nat) (aq rl : Bool) (o : W.Opr) (w : World) (hS : Fs n0 w0 fb (fun _ => False) r c L R C O w) (h1 : r1 < 32) (h2 : r2 < 32) (hd : rd < 32) (hrd : ((rd : Int) != 0) = true) (hk : (o.k != 0) = false) (hc3 : (W.kind op == 3) = false) (hc4 : (op == 4) = true)
    (p1 : (r r1).Pairwise (· < ·)) (p2 : (r r2).Pairwise (· < ·)) (p3 : c.Pairwise (· < ·)) (z1 : (r r1).length ≤ 200) (z2 : (r r2).length ≤ 200) (z3 : c.length ≤ 200) (zL : L.length ≤ 4096) :
    Calls Try.prog 17 #[.pointer (some ⟨fb, 0, none⟩), .agg #[.int .i64 op, .int .i64 (rd : Int), .int .i64 (r1 : Int), .int .i64 (r2 : Int), .int .i64 csr, .int .u32 imm, .bool aq, .bool rl], .agg (opC o W.Sl.nil W.Sl.nil W.Sl.nil)] w fun e w' => e = .returned (.tuple #[]) ∧ ∃ R' C' O' L', Fs n0 w0 fb (fun _ => False) (updL r rd (W.resL L.length op o.k (r r1) (r r2))) (W.uni c (W.uni (r r1) (r r2))) L' R' C' O' w' ∧ L'.map Oq.pure = L.map Oq.pure ++ [] := by
  have T := Tk.start w fb ⟨op, rd, r1, r2, csr, imm, aq, rl⟩ (opC o W.Sl.nil W.Sl.nil W.Sl.nil) R C O hS.f
  have hS0 := (hS.more (H := Tw w.heap.size) (fun b hb k => by rcases k with k | k <;> omega)).below (((Below.refl _ w).alloc (Nat.le_refl _) (.cells #[.int .i64 op, .int .i64 (rd : Int), .int .i64 (r1 : Int), .int .i64 (r2 : Int), .int .i64 csr, .int .u32 imm, .bool aq, .bool rl] 47)).alloc (by simp) (.cells (opC o W.Sl.nil W.Sl.nil W.Sl.nil) 32))
  have hK := fun w => kind_any op w
  have hOn := own_n hS.ow
  have hlt := hS.f.lt
  have hn0 := hS.nf
  have hob : some (w.heap.size + 1) ≠ (slV O).ownBlock := fun e => by
    have := (hS.ow.lt _ e.symm).2
    omega
  have U0 : 0 < 1 := by decide
  have hob0 : some w.heap.size ≠ (slV O).ownBlock := fun e => by
    have := (hS.ow.lt _ e.symm).2
    omega
  have hob3 := hS.of
  clear hS
  generalize W.kind op = KD at *
  unfold opC at *
  have q1 : (0 : Int) ≤ (r1 : Int) := Int.natCast_nonneg _
  have q2 : (0 : Int) ≤ (r2 : Int) := Int.natCast_nonneg _
  have q3 : (r1 : Int) < 32 := by omega
  have q4 : (r2 : Int) < 32 := by omega
  have HKd : Hid _ := hK
  clear hK
  go_enter Try.func17, Try.ntmps17
  go_wp2_with (fail)
  generalize World.alloc (World.alloc w _) _ = W0 at *
  have i0 := T.i0
  have i1 := T.i1
  have i2 := T.i2
  have i3 := T.i3
  have o0 := T.o.c 0 rfl
  have g1 := T.f.rg r1 h1
  have g2 := T.f.rg r2 h2
  have fl := T.f.lt
  go_quiet (fail)
  have T1 : Tk _ _ _ _ _ _ _ (W0.drewN nq) := T.below (below_drewN (Below.refl _ _) _)
  have S1 := hS0.below (below_drewN (Below.refl W0.heap.size W0) nq)
  clear T hS0 i0 i1 i2 i3 o0 g1 g2 fl
  generalize World.drewN W0 nq = W1 at *
  have i0 := T1.i0
  have i1 := T1.i1
  have o0 := T1.o.c 0 rfl
  have fl := T1.f.lt
  have lA := S1.rl r1 h1
  have lB := S1.rl r2 h2
  have q5 : (0 : Int) ≤ (rd : Int) := Int.natCast_nonneg _
  have q6 : (rd : Int) < 32 := by omega
  go_wp2_with (fail)
  have hsz : w.heap.size + 1 < W1.heap.size := T1.o.lt
  have hRes := result_x fb R C O op o.k (R r1) (R r2) (r r1) (r r2) W1.drew (S1.f.below (Below.refl _ _).drew) (lA.below (Below.refl _ _).drew) (lB.below (Below.refl _ _).drew) p1 p2 (by omega) ((S1.below (Below.refl _ _).drew).none hsz)
  have HR : Hid (Calls _ _ _ _ _) := hRes
  clear hRes i0 i1 o0
  have HT : Hid (_ ∧ _ ∧ _ ∧ _) := ⟨T1, S1, lA, lB⟩
  clear T1 S1 lA lB
  go_region_held3 (fun w' => w'.cell? ⟨w.heap.size, 1, none⟩ = some (.int .i64 (rd : Int)) ∧ w'.cell? ⟨w.heap.size, 0, none⟩ = some (.int .i64 op) ∧ w'.cell? ⟨w.heap.size + 1, 0, none⟩ = some (.int .i64 o.k) ∧ ∀ u : W.Sl, (stL ⟨fb, rd, none⟩ (slV u)).run Try.prog w' = .ok () (w'.setCell ⟨fb, rd, none⟩ (slV u)))
    (first
      | exact (HT.out.1.below (Below.refl _ _).drew).s3 hd rfl
      | exact ((HT.out.1.below (Below.refl _ _).drew).below b2).s3 hd rfl
      | exact (((HT.out.1.below (Below.refl _ _).drew).below b2).setR rd hd u).s3 hd rfl
      | with_reducible assumption)
    ((go_at_call 24; refine HR.out.mono ?_; rintro e w2 ⟨⟨u, rfl, hu⟩, b2⟩))
  all_goals
    have T2 := ((HT.out.1.below (Below.refl _ _).drew).below b2).setR rd hd u
    have S2 := ((HT.out.2.1.below (Below.refl _ _).drew).below b2).setR rd hd u _ hu
    have lA2 := (((HT.out.2.2.1.below (Below.refl _ _).drew).below b2).set fb rd (slV u) (Or.inl rfl))
    have lB2 := (((HT.out.2.2.2.below (Below.refl _ _).drew).below b2).set fb rd (slV u) (Or.inl rfl))
    clear HT HR b2 hu
    rw [hOn] at S2
    generalize World.setCell w2 ⟨fb, rd, none⟩ (slV u) = W3 at *
    have i0 := T2.i0
    have o0 := T2.o.c 0 rfl
    have fl := T2.f.lt
    have HT2 : Hid (_ ∧ _ ∧ _ ∧ _) := ⟨T2, S2, lA2, lB2⟩
    have h32 : W3.drew.cell? ⟨fb, 32, none⟩ = some (slV C) := T2.f.ct
    have h31 : W3.cell? ⟨fb, 32, none⟩ = some (slV C) := T2.f.ct
    clear T2 S2 lA2 lB2
    go_wp2_with (fail)
    refine (HKd.out _).mono ?_
    rintro e w9 ⟨rfl, rfl⟩
    go_wp2_with (fail)
    go_region_with (first
      | ((go_at_call_of 27 (slV (R r1)); refine (union_x (R r1) (R r2) (r r1) (r r2) _ (HT2.out.2.2.1.below (Below.refl _ _).drew) (HT2.out.2.2.2.below (Below.refl _ _).drew) p1 p2 (by omega) ((HT2.out.2.1.below (Below.refl _ _).drew).none (HT2.out.1.below (Below.refl _ _).drew).o.lt)).mono ?_; rintro e wa ⟨⟨t1, rfl, k1⟩, ba⟩; have h33 : wa.cell? ⟨fb, 32, none⟩ = some (slV C) := ((HT2.out.1.below (Below.refl _ _).drew).below ba).f.ct))
      | ((go_at_call_of 27 (slV C); refine (union_x C t1 c _ _ ((HT2.out.2.1.below (Below.refl _ _).drew).below ba).cl k1 p3 (W.pw_uni _ _ p2) (by have := W.uni_len (r r1) (r r2); omega) (((HT2.out.2.1.below (Below.refl _ _).drew).below ba).none ((HT2.out.1.below (Below.refl _ _).drew).below ba).o.lt)).mono ?_; rintro e wb ⟨⟨t2, rfl, k2⟩, bb⟩; have st8 : (stL ⟨fb, 32, none⟩ (slV t2)).run Try.prog wb = .ok () (wb.setCell ⟨fb, 32, none⟩ (slV t2)) := stL_at (((HT2.out.1.below (Below.refl _ _).drew).below ba).below bb).f.ct ((((HT2.out.1.below (Below.refl _ _).drew).below ba).below bb).f.fz 32) t2.a t2.n t2.c)))
    all_goals
      have S8 := (((HT2.out.2.1.below (Below.refl _ _).drew).below ba).below bb).setC t2 _ k2
      have HS4 : Hid (Fs _ _ _ _ _ _ _ _ _ _ _) := S8
      clear S8 HT2 k1 k2 ba bb
      go_wp2
      go_end0
      exact ⟨rfl, _, _, _, _, HS4.out.more (fun b _ h => absurd h id), by simp⟩
end Go.Proofs.Ytopehmpjfndgjaa
