/- begin, from a used look: nothing was hidden. -/
import Derived.Test.YtibohlbkkaghkaaDoorPpoO0
namespace Go.Proofs.YtibohlbkkaghkaaDoor
open Go.ChangeShapes Go.WideShapes Go.ChangeAt Go.RowKit
set_option linter.unusedVariables false
set_option maxRecDepth 100000
set_option linter.unusedSimpArgs false
variable {Φ : Nat → Option Obj}
set_option maxHeartbeats 1600000 in
theorem begin_n (w0 : World) (d : Kd) (w : World) (h : LkF Φ w0 d w) (b : Nat) (hb : b < d.n) (hn : d.n ≤ 4096) (hH : d.H = W.Sl.nil) (hh : d.hid = []) (lg lo lc : Nat) (hl : d.l = .slice (some ⟨lg, lo, none⟩) d.n lc) (z : W.Oz) (hz : OzAt lg (lo + b * 13) z w0) :
    Calls Tryd.prog 66 #[.pointer (some ⟨d.kb, 0, none⟩), .int .i64 (b : Int)] w fun e w' => e = .returned (.tuple #[]) ∧ LkF Φ w0 { d with b := d.A b, k := W.keep0 (d.A b).t, G := W.hangG (W.cl b d.G) (d.A b).t (d.P b) z } w' := by
  obtain ⟨kb, ab, pb, rb, gb, n, l, A, PP, R, G, B, k, H, hid⟩ := d
  dsimp only at *
  subst hH hh hl
  obtain ⟨x0, x1, x2⟩ := h.act b hb
  have al := h.a.lt
  have pc := h.p.c b hb
  have pl := h.p.lt
  have k0 := h.k.c 0 (by decide)
  have k1 := h.k.c 1 (by decide)
  have k2 := h.k.c 2 (by decide)
  have k4 := h.k.c 4 (by decide)
  have k5 := h.k.c 5 (by decide)
  have k6 := h.k.c 6 (by decide)
  have k7 := h.k.c 7 (by decide)
  have k8 := h.k.c 8 (by decide)
  have k9 := h.k.c 9 (by decide)
  have kl := h.k.lt
  have fz := h.k.fz
  have ka := h.ka
  simp only [Kd.f] at k0 k1 k2 k4 k5 k6 k7 k8 k9
  unfold slV W.Sl.nil at k9
  dsimp only at *
  have hB : (b : Int) < (n : Int) := by omega
  have HK : Hid (LkF _ _ _ _ ∧ OzAt _ _ _ _) := ⟨h, hz⟩
  clear h hz
  generalize hX : A b = X at *
  obtain ⟨⟨F, Z⟩, T⟩ := X
  dsimp only at *
  have L1 : LkF Φ w0 ⟨kb, ab, pb, rb, gb, n, .slice (some ⟨lg, lo, none⟩) n lc, A, PP, R, G, ⟨⟨F, Z⟩, T⟩, 32, W.Sl.nil, []⟩ (((((w.setCell ⟨kb, 5, none⟩ (.int .u32 F)).setCell ⟨kb, 6, none⟩ (.int .u64 Z)).setCell ⟨kb, 7, none⟩ (.int .u8 T)).setCell ⟨kb, 8, none⟩ (.int .u8 32)).setCell ⟨kb, 9, none⟩ (.slice none 0 0)).drew := by
    have q := (HK.out.1.setB ⟨⟨F, Z⟩, T⟩).setK 32
    have q2 := q.setH W.Sl.nil [] (fun s hs => by cases hs) ⟨rfl, rfl, rfl, Nat.le_refl _, fun _ _ _ => rfl⟩ q.h (fun b hb => Or.inl hb)
    exact q2.below (Below.refl _ _).drew
  have HL1 : Hid _ := L1
  clear L1
  unfold W.keep0 W.hangG W.a8 W.o8
  dsimp only
  cases q64 : (bits BinOp.and IntKind.u8 T 64 != 0) <;> cases q96 : (bits BinOp.and IntKind.u8 T 96 != 0) <;> cases q2 : (bits BinOp.and IntKind.u8 T 2 != 0)
  · go_enter Tryd.func66, Tryd.ntmps66
    go_wp2
    go_region
    have L1 := HL1.out
    clear HL1 x0 x1 x2 k0 k1 k2 k4 k5 k6 k7 k8 k9 kl fz pc pl al
    generalize World.drew _ = W1 at *
    have k7 := L1.k.c 7 (by decide)
    have k8 := L1.k.c 8 (by decide)
    have k4 := L1.k.c 4 (by decide)
    have kl := L1.k.lt
    have fz := L1.k.fz
    simp only [Kd.f] at k7 k8 k4 kl fz
    have L2 := L1
    try dsimp only at L2
    have HL2 : Hid _ := L2
    clear L1 L2
    go_wp2
    have L2 := HL2.out
    clear HL2 k7 k8 k4 kl fz
    try generalize World.setCell _ _ _ = W2 at *
    have hcl := fun ty => L2.g.clears0 b (Nat.le_of_lt hb) n ty
    have L3 := L2.clearG b (Nat.le_of_lt hb)
    dsimp only at hcl L3
    generalize hW3 : World.setCells _ gb 0 _ = W3 at *
    clear hW3
    have k0 := L3.k.c 0 (by decide)
    have k2 := L3.k.c 2 (by decide)
    have kl := L3.k.lt
    have pc := L3.p.c b hb
    have pl := L3.p.lt
    simp only [Kd.f] at k0 k2 kl pc pl
    change LkF Φ w0 ⟨kb, ab, pb, rb, gb, n, .slice (some ⟨lg, lo, none⟩) n lc, A, PP, R, W.cl b G, _, _, _, _⟩ W3 at L3
    have N1 := fun W4 (hb4 : Below W3.heap.size W3 W4) s hs hF => note_any w0 _ W4 (L3.below hb4) hn 8 (by decide) s [PP b] hs hF
    have HN1 : Hid _ := N1
    have gl3 := L3.g.lt
    dsimp only at gl3
    clear L2 L3 N1
    go_wp2_with (fail)
    refine (HN1.out _ ((Below.refl _ _).alloc (Nat.le_refl _) _) ⟨some ⟨W3.heap.size, 0, none⟩, 1, 1⟩ (li_one W3 _ (PP b)) (fun g o _ e => by cases e; omega)).mono ?_
    rintro e w4 ⟨rfl, L4⟩
    have HKO := HK.out.2
    obtain ⟨oo, _, _, ⟨s1, a1, a2⟩, ⟨s2, e1, e2⟩, ⟨s3, f1, f2⟩⟩ := HKO
    have gl := oo.lt
    clear oo HN1 k0 k2 kl pc pl gl3 hcl
    have c5 := (L4.bl.cell (p := ⟨lg, lo + b * 13 + 10, none⟩) gl).trans a1
    have gl5 : lg < w4.heap.size := Nat.lt_of_lt_of_le gl L4.bl.size
    have k0 := L4.k.c 0 (by decide)
    have k7 := L4.k.c 7 (by decide)
    have kl := L4.k.lt
    simp only [Kd.f] at k0 k7 kl
    have N5 := note_any w0 _ w4 L4 hn 9 (by decide) s1 _ (a2.below L4.bl) (a2.old L4.ng)
    have HN5 : Hid (Calls _ _ _ _ _) := N5
    clear N5 L4
    obtain ⟨s1a, s1n, s1c⟩ := s1
    unfold slV at c5 HN5
    dsimp only at c5 HN5
    go_wp2_with (fail)
    refine HN5.out.mono ?_
    rintro e w5 ⟨rfl, L5⟩
    clear c5 gl5 k0 k7 kl HN5
    have c6 := (L5.bl.cell (p := ⟨lg, lo + b * 13 + 11, none⟩) gl).trans e1
    have gl6 : lg < w5.heap.size := Nat.lt_of_lt_of_le gl L5.bl.size
    have k0 := L5.k.c 0 (by decide)
    have k7 := L5.k.c 7 (by decide)
    have kl := L5.k.lt
    simp only [Kd.f] at k0 k7 kl
    have N6 := note_any w0 _ w5 L5 hn 10 (by decide) s2 _ (e2.below L5.bl) (e2.old L5.ng)
    have HN6 : Hid (Calls _ _ _ _ _) := N6
    clear N6 L5
    obtain ⟨s2a, s2n, s2c⟩ := s2
    unfold slV at c6 HN6
    dsimp only at c6 HN6
    go_wp2_with (fail)
    refine HN6.out.mono ?_
    rintro e w6 ⟨rfl, L6⟩
    clear c6 gl6 k0 k7 kl HN6
    have k7 := L6.k.c 7 (by decide)
    have kl := L6.k.lt
    simp only [Kd.f] at k7 kl
    have HF : Hid _ := L6
    clear L6
    go_wp2
    go_end0
    exact ⟨rfl, HF.out⟩
  · go_enter Tryd.func66, Tryd.ntmps66
    go_wp2
    go_region
    have L1 := HL1.out
    clear HL1 x0 x1 x2 k0 k1 k2 k4 k5 k6 k7 k8 k9 kl fz pc pl al
    generalize World.drew _ = W1 at *
    have k7 := L1.k.c 7 (by decide)
    have k8 := L1.k.c 8 (by decide)
    have k4 := L1.k.c 4 (by decide)
    have kl := L1.k.lt
    have fz := L1.k.fz
    simp only [Kd.f] at k7 k8 k4 kl fz
    have L2 := (L1.setK (bits BinOp.or IntKind.u8 32 128))
    try dsimp only at L2
    have HL2 : Hid _ := L2
    clear L1 L2
    go_wp2
    have L2 := HL2.out
    clear HL2 k7 k8 k4 kl fz
    try generalize World.setCell _ _ _ = W2 at *
    have hcl := fun ty => L2.g.clears0 b (Nat.le_of_lt hb) n ty
    have L3 := L2.clearG b (Nat.le_of_lt hb)
    dsimp only at hcl L3
    generalize hW3 : World.setCells _ gb 0 _ = W3 at *
    clear hW3
    have k0 := L3.k.c 0 (by decide)
    have k2 := L3.k.c 2 (by decide)
    have kl := L3.k.lt
    have pc := L3.p.c b hb
    have pl := L3.p.lt
    simp only [Kd.f] at k0 k2 kl pc pl
    change LkF Φ w0 ⟨kb, ab, pb, rb, gb, n, .slice (some ⟨lg, lo, none⟩) n lc, A, PP, R, W.cl b G, _, _, _, _⟩ W3 at L3
    have N1 := fun W4 (hb4 : Below W3.heap.size W3 W4) s hs hF => note_any w0 _ W4 (L3.below hb4) hn 8 (by decide) s [PP b] hs hF
    have HN1 : Hid _ := N1
    have gl3 := L3.g.lt
    dsimp only at gl3
    clear L2 L3 N1
    go_wp2_with (fail)
    refine (HN1.out _ ((Below.refl _ _).alloc (Nat.le_refl _) _) ⟨some ⟨W3.heap.size, 0, none⟩, 1, 1⟩ (li_one W3 _ (PP b)) (fun g o _ e => by cases e; omega)).mono ?_
    rintro e w4 ⟨rfl, L4⟩
    have HKO := HK.out.2
    obtain ⟨oo, _, _, ⟨s1, a1, a2⟩, ⟨s2, e1, e2⟩, ⟨s3, f1, f2⟩⟩ := HKO
    have gl := oo.lt
    clear oo HN1 k0 k2 kl pc pl gl3 hcl
    have c5 := (L4.bl.cell (p := ⟨lg, lo + b * 13 + 10, none⟩) gl).trans a1
    have gl5 : lg < w4.heap.size := Nat.lt_of_lt_of_le gl L4.bl.size
    have k0 := L4.k.c 0 (by decide)
    have k7 := L4.k.c 7 (by decide)
    have kl := L4.k.lt
    simp only [Kd.f] at k0 k7 kl
    have N5 := note_any w0 _ w4 L4 hn 9 (by decide) s1 _ (a2.below L4.bl) (a2.old L4.ng)
    have HN5 : Hid (Calls _ _ _ _ _) := N5
    clear N5 L4
    obtain ⟨s1a, s1n, s1c⟩ := s1
    unfold slV at c5 HN5
    dsimp only at c5 HN5
    go_wp2_with (fail)
    refine HN5.out.mono ?_
    rintro e w5 ⟨rfl, L5⟩
    clear c5 gl5 k0 k7 kl HN5
    have c6 := (L5.bl.cell (p := ⟨lg, lo + b * 13 + 11, none⟩) gl).trans e1
    have gl6 : lg < w5.heap.size := Nat.lt_of_lt_of_le gl L5.bl.size
    have k0 := L5.k.c 0 (by decide)
    have k7 := L5.k.c 7 (by decide)
    have kl := L5.k.lt
    simp only [Kd.f] at k0 k7 kl
    have N6 := note_any w0 _ w5 L5 hn 10 (by decide) s2 _ (e2.below L5.bl) (e2.old L5.ng)
    have HN6 : Hid (Calls _ _ _ _ _) := N6
    clear N6 L5
    obtain ⟨s2a, s2n, s2c⟩ := s2
    unfold slV at c6 HN6
    dsimp only at c6 HN6
    go_wp2_with (fail)
    refine HN6.out.mono ?_
    rintro e w6 ⟨rfl, L6⟩
    clear c6 gl6 k0 k7 kl HN6
    have c7 := (L6.bl.cell (p := ⟨lg, lo + b * 13 + 12, none⟩) gl).trans f1
    have gl7 : lg < w6.heap.size := Nat.lt_of_lt_of_le gl L6.bl.size
    have k0 := L6.k.c 0 (by decide)
    have k7 := L6.k.c 7 (by decide)
    have kl := L6.k.lt
    simp only [Kd.f] at k0 k7 kl
    have N7 := note_any w0 _ w6 L6 hn 11 (by decide) s3 _ (f2.below L6.bl) (f2.old L6.ng)
    have HN7 : Hid (Calls _ _ _ _ _) := N7
    clear N7 L6
    obtain ⟨s3a, s3n, s3c⟩ := s3
    unfold slV at c7 HN7
    dsimp only at c7 HN7
    go_wp2_with (fail)
    refine HN7.out.mono ?_
    rintro e w7 ⟨rfl, L7⟩
    clear c7 gl7 k0 k7 kl HN7
    have k7 := L7.k.c 7 (by decide)
    have kl := L7.k.lt
    simp only [Kd.f] at k7 kl
    have HF : Hid _ := L7
    clear L7
    go_wp2
    go_end0
    exact ⟨rfl, HF.out⟩
  · go_enter Tryd.func66, Tryd.ntmps66
    go_wp2
    go_region
    have L1 := HL1.out
    clear HL1 x0 x1 x2 k0 k1 k2 k4 k5 k6 k7 k8 k9 kl fz pc pl al
    generalize World.drew _ = W1 at *
    have k7 := L1.k.c 7 (by decide)
    have k8 := L1.k.c 8 (by decide)
    have k4 := L1.k.c 4 (by decide)
    have kl := L1.k.lt
    have fz := L1.k.fz
    simp only [Kd.f] at k7 k8 k4 kl fz
    have L2 := (L1.setK (bits BinOp.or IntKind.u8 32 64))
    try dsimp only at L2
    have HL2 : Hid _ := L2
    clear L1 L2
    go_wp2
    have L2 := HL2.out
    clear HL2 k7 k8 k4 kl fz
    try generalize World.setCell _ _ _ = W2 at *
    have hcl := fun ty => L2.g.clears0 b (Nat.le_of_lt hb) n ty
    have L3 := L2.clearG b (Nat.le_of_lt hb)
    dsimp only at hcl L3
    generalize hW3 : World.setCells _ gb 0 _ = W3 at *
    clear hW3
    have k0 := L3.k.c 0 (by decide)
    have k2 := L3.k.c 2 (by decide)
    have kl := L3.k.lt
    have pc := L3.p.c b hb
    have pl := L3.p.lt
    simp only [Kd.f] at k0 k2 kl pc pl
    change LkF Φ w0 ⟨kb, ab, pb, rb, gb, n, .slice (some ⟨lg, lo, none⟩) n lc, A, PP, R, W.cl b G, _, _, _, _⟩ W3 at L3
    have N1 := fun W4 (hb4 : Below W3.heap.size W3 W4) s hs hF => note_any w0 _ W4 (L3.below hb4) hn 8 (by decide) s [PP b] hs hF
    have HN1 : Hid _ := N1
    have gl3 := L3.g.lt
    dsimp only at gl3
    clear L2 L3 N1
    go_wp2_with (fail)
    refine (HN1.out _ ((Below.refl _ _).alloc (Nat.le_refl _) _) ⟨some ⟨W3.heap.size, 0, none⟩, 1, 1⟩ (li_one W3 _ (PP b)) (fun g o _ e => by cases e; omega)).mono ?_
    rintro e w4 ⟨rfl, L4⟩
    have HKO := HK.out.2
    obtain ⟨oo, _, _, ⟨s1, a1, a2⟩, ⟨s2, e1, e2⟩, ⟨s3, f1, f2⟩⟩ := HKO
    have gl := oo.lt
    clear oo HN1 k0 k2 kl pc pl gl3 hcl
    have c5 := (L4.bl.cell (p := ⟨lg, lo + b * 13 + 10, none⟩) gl).trans a1
    have gl5 : lg < w4.heap.size := Nat.lt_of_lt_of_le gl L4.bl.size
    have k0 := L4.k.c 0 (by decide)
    have k7 := L4.k.c 7 (by decide)
    have kl := L4.k.lt
    simp only [Kd.f] at k0 k7 kl
    have N5 := note_any w0 _ w4 L4 hn 9 (by decide) s1 _ (a2.below L4.bl) (a2.old L4.ng)
    have HN5 : Hid (Calls _ _ _ _ _) := N5
    clear N5 L4
    obtain ⟨s1a, s1n, s1c⟩ := s1
    unfold slV at c5 HN5
    dsimp only at c5 HN5
    go_wp2_with (fail)
    refine HN5.out.mono ?_
    rintro e w5 ⟨rfl, L5⟩
    clear c5 gl5 k0 k7 kl HN5
    have c6 := (L5.bl.cell (p := ⟨lg, lo + b * 13 + 11, none⟩) gl).trans e1
    have gl6 : lg < w5.heap.size := Nat.lt_of_lt_of_le gl L5.bl.size
    have k0 := L5.k.c 0 (by decide)
    have k7 := L5.k.c 7 (by decide)
    have kl := L5.k.lt
    simp only [Kd.f] at k0 k7 kl
    have N6 := note_any w0 _ w5 L5 hn 10 (by decide) s2 _ (e2.below L5.bl) (e2.old L5.ng)
    have HN6 : Hid (Calls _ _ _ _ _) := N6
    clear N6 L5
    obtain ⟨s2a, s2n, s2c⟩ := s2
    unfold slV at c6 HN6
    dsimp only at c6 HN6
    go_wp2_with (fail)
    refine HN6.out.mono ?_
    rintro e w6 ⟨rfl, L6⟩
    clear c6 gl6 k0 k7 kl HN6
    have k7 := L6.k.c 7 (by decide)
    have kl := L6.k.lt
    simp only [Kd.f] at k7 kl
    have HF : Hid _ := L6
    clear L6
    go_wp2
    go_end0
    exact ⟨rfl, HF.out⟩
  · go_enter Tryd.func66, Tryd.ntmps66
    go_wp2
    go_region
    have L1 := HL1.out
    clear HL1 x0 x1 x2 k0 k1 k2 k4 k5 k6 k7 k8 k9 kl fz pc pl al
    generalize World.drew _ = W1 at *
    have k7 := L1.k.c 7 (by decide)
    have k8 := L1.k.c 8 (by decide)
    have k4 := L1.k.c 4 (by decide)
    have kl := L1.k.lt
    have fz := L1.k.fz
    simp only [Kd.f] at k7 k8 k4 kl fz
    have L2 := ((L1.setK (bits BinOp.or IntKind.u8 32 64)).setK (bits BinOp.or IntKind.u8 (bits BinOp.or IntKind.u8 32 64) 128))
    try dsimp only at L2
    have HL2 : Hid _ := L2
    clear L1 L2
    go_wp2
    have L2 := HL2.out
    clear HL2 k7 k8 k4 kl fz
    try generalize World.setCell _ _ _ = W2 at *
    have hcl := fun ty => L2.g.clears0 b (Nat.le_of_lt hb) n ty
    have L3 := L2.clearG b (Nat.le_of_lt hb)
    dsimp only at hcl L3
    generalize hW3 : World.setCells _ gb 0 _ = W3 at *
    clear hW3
    have k0 := L3.k.c 0 (by decide)
    have k2 := L3.k.c 2 (by decide)
    have kl := L3.k.lt
    have pc := L3.p.c b hb
    have pl := L3.p.lt
    simp only [Kd.f] at k0 k2 kl pc pl
    change LkF Φ w0 ⟨kb, ab, pb, rb, gb, n, .slice (some ⟨lg, lo, none⟩) n lc, A, PP, R, W.cl b G, _, _, _, _⟩ W3 at L3
    have N1 := fun W4 (hb4 : Below W3.heap.size W3 W4) s hs hF => note_any w0 _ W4 (L3.below hb4) hn 8 (by decide) s [PP b] hs hF
    have HN1 : Hid _ := N1
    have gl3 := L3.g.lt
    dsimp only at gl3
    clear L2 L3 N1
    go_wp2_with (fail)
    refine (HN1.out _ ((Below.refl _ _).alloc (Nat.le_refl _) _) ⟨some ⟨W3.heap.size, 0, none⟩, 1, 1⟩ (li_one W3 _ (PP b)) (fun g o _ e => by cases e; omega)).mono ?_
    rintro e w4 ⟨rfl, L4⟩
    have HKO := HK.out.2
    obtain ⟨oo, _, _, ⟨s1, a1, a2⟩, ⟨s2, e1, e2⟩, ⟨s3, f1, f2⟩⟩ := HKO
    have gl := oo.lt
    clear oo HN1 k0 k2 kl pc pl gl3 hcl
    have c5 := (L4.bl.cell (p := ⟨lg, lo + b * 13 + 10, none⟩) gl).trans a1
    have gl5 : lg < w4.heap.size := Nat.lt_of_lt_of_le gl L4.bl.size
    have k0 := L4.k.c 0 (by decide)
    have k7 := L4.k.c 7 (by decide)
    have kl := L4.k.lt
    simp only [Kd.f] at k0 k7 kl
    have N5 := note_any w0 _ w4 L4 hn 9 (by decide) s1 _ (a2.below L4.bl) (a2.old L4.ng)
    have HN5 : Hid (Calls _ _ _ _ _) := N5
    clear N5 L4
    obtain ⟨s1a, s1n, s1c⟩ := s1
    unfold slV at c5 HN5
    dsimp only at c5 HN5
    go_wp2_with (fail)
    refine HN5.out.mono ?_
    rintro e w5 ⟨rfl, L5⟩
    clear c5 gl5 k0 k7 kl HN5
    have c6 := (L5.bl.cell (p := ⟨lg, lo + b * 13 + 11, none⟩) gl).trans e1
    have gl6 : lg < w5.heap.size := Nat.lt_of_lt_of_le gl L5.bl.size
    have k0 := L5.k.c 0 (by decide)
    have k7 := L5.k.c 7 (by decide)
    have kl := L5.k.lt
    simp only [Kd.f] at k0 k7 kl
    have N6 := note_any w0 _ w5 L5 hn 10 (by decide) s2 _ (e2.below L5.bl) (e2.old L5.ng)
    have HN6 : Hid (Calls _ _ _ _ _) := N6
    clear N6 L5
    obtain ⟨s2a, s2n, s2c⟩ := s2
    unfold slV at c6 HN6
    dsimp only at c6 HN6
    go_wp2_with (fail)
    refine HN6.out.mono ?_
    rintro e w6 ⟨rfl, L6⟩
    clear c6 gl6 k0 k7 kl HN6
    have c7 := (L6.bl.cell (p := ⟨lg, lo + b * 13 + 12, none⟩) gl).trans f1
    have gl7 : lg < w6.heap.size := Nat.lt_of_lt_of_le gl L6.bl.size
    have k0 := L6.k.c 0 (by decide)
    have k7 := L6.k.c 7 (by decide)
    have kl := L6.k.lt
    simp only [Kd.f] at k0 k7 kl
    have N7 := note_any w0 _ w6 L6 hn 11 (by decide) s3 _ (f2.below L6.bl) (f2.old L6.ng)
    have HN7 : Hid (Calls _ _ _ _ _) := N7
    clear N7 L6
    obtain ⟨s3a, s3n, s3c⟩ := s3
    unfold slV at c7 HN7
    dsimp only at c7 HN7
    go_wp2_with (fail)
    refine HN7.out.mono ?_
    rintro e w7 ⟨rfl, L7⟩
    clear c7 gl7 k0 k7 kl HN7
    have k7 := L7.k.c 7 (by decide)
    have kl := L7.k.lt
    simp only [Kd.f] at k7 kl
    have HF : Hid _ := L7
    clear L7
    go_wp2
    go_end0
    exact ⟨rfl, HF.out⟩
  · go_enter Tryd.func66, Tryd.ntmps66
    go_wp2
    go_region
    have L1 := HL1.out
    clear HL1 x0 x1 x2 k0 k1 k2 k4 k5 k6 k7 k8 k9 kl fz pc pl al
    generalize World.drew _ = W1 at *
    have k7 := L1.k.c 7 (by decide)
    have k8 := L1.k.c 8 (by decide)
    have k4 := L1.k.c 4 (by decide)
    have kl := L1.k.lt
    have fz := L1.k.fz
    simp only [Kd.f] at k7 k8 k4 kl fz
    have L2 := (L1.setK (bits BinOp.or IntKind.u8 32 8))
    try dsimp only at L2
    have HL2 : Hid _ := L2
    clear L1 L2
    go_wp2
    have L2 := HL2.out
    clear HL2 k7 k8 k4 kl fz
    try generalize World.setCell _ _ _ = W2 at *
    have hcl := fun ty => L2.g.clears0 b (Nat.le_of_lt hb) n ty
    have L3 := L2.clearG b (Nat.le_of_lt hb)
    dsimp only at hcl L3
    generalize hW3 : World.setCells _ gb 0 _ = W3 at *
    clear hW3
    have k0 := L3.k.c 0 (by decide)
    have k2 := L3.k.c 2 (by decide)
    have kl := L3.k.lt
    have pc := L3.p.c b hb
    have pl := L3.p.lt
    simp only [Kd.f] at k0 k2 kl pc pl
    change LkF Φ w0 ⟨kb, ab, pb, rb, gb, n, .slice (some ⟨lg, lo, none⟩) n lc, A, PP, R, W.cl b G, _, _, _, _⟩ W3 at L3
    have N1 := fun W4 (hb4 : Below W3.heap.size W3 W4) s hs hF => note_any w0 _ W4 (L3.below hb4) hn 8 (by decide) s [PP b] hs hF
    have HN1 : Hid _ := N1
    have gl3 := L3.g.lt
    dsimp only at gl3
    clear L2 L3 N1
    go_wp2_with (fail)
    refine (HN1.out _ ((Below.refl _ _).alloc (Nat.le_refl _) _) ⟨some ⟨W3.heap.size, 0, none⟩, 1, 1⟩ (li_one W3 _ (PP b)) (fun g o _ e => by cases e; omega)).mono ?_
    rintro e w4 ⟨rfl, L4⟩
    have HKO := HK.out.2
    obtain ⟨oo, _, _, ⟨s1, a1, a2⟩, ⟨s2, e1, e2⟩, ⟨s3, f1, f2⟩⟩ := HKO
    have gl := oo.lt
    clear oo HN1 k0 k2 kl pc pl gl3 hcl
    have c5 := (L4.bl.cell (p := ⟨lg, lo + b * 13 + 10, none⟩) gl).trans a1
    have gl5 : lg < w4.heap.size := Nat.lt_of_lt_of_le gl L4.bl.size
    have k0 := L4.k.c 0 (by decide)
    have k7 := L4.k.c 7 (by decide)
    have kl := L4.k.lt
    simp only [Kd.f] at k0 k7 kl
    have N5 := note_any w0 _ w4 L4 hn 9 (by decide) s1 _ (a2.below L4.bl) (a2.old L4.ng)
    have HN5 : Hid (Calls _ _ _ _ _) := N5
    clear N5 L4
    obtain ⟨s1a, s1n, s1c⟩ := s1
    unfold slV at c5 HN5
    dsimp only at c5 HN5
    go_wp2_with (fail)
    refine HN5.out.mono ?_
    rintro e w5 ⟨rfl, L5⟩
    clear c5 gl5 k0 k7 kl HN5
    have c6 := (L5.bl.cell (p := ⟨lg, lo + b * 13 + 11, none⟩) gl).trans e1
    have gl6 : lg < w5.heap.size := Nat.lt_of_lt_of_le gl L5.bl.size
    have k0 := L5.k.c 0 (by decide)
    have k7 := L5.k.c 7 (by decide)
    have kl := L5.k.lt
    simp only [Kd.f] at k0 k7 kl
    have N6 := note_any w0 _ w5 L5 hn 10 (by decide) s2 _ (e2.below L5.bl) (e2.old L5.ng)
    have HN6 : Hid (Calls _ _ _ _ _) := N6
    clear N6 L5
    obtain ⟨s2a, s2n, s2c⟩ := s2
    unfold slV at c6 HN6
    dsimp only at c6 HN6
    go_wp2_with (fail)
    refine HN6.out.mono ?_
    rintro e w6 ⟨rfl, L6⟩
    clear c6 gl6 k0 k7 kl HN6
    have k7 := L6.k.c 7 (by decide)
    have kl := L6.k.lt
    simp only [Kd.f] at k7 kl
    have HF : Hid _ := L6
    clear L6
    go_wp2
    go_end0
    exact ⟨rfl, HF.out⟩
  · go_enter Tryd.func66, Tryd.ntmps66
    go_wp2
    go_region
    have L1 := HL1.out
    clear HL1 x0 x1 x2 k0 k1 k2 k4 k5 k6 k7 k8 k9 kl fz pc pl al
    generalize World.drew _ = W1 at *
    have k7 := L1.k.c 7 (by decide)
    have k8 := L1.k.c 8 (by decide)
    have k4 := L1.k.c 4 (by decide)
    have kl := L1.k.lt
    have fz := L1.k.fz
    simp only [Kd.f] at k7 k8 k4 kl fz
    have L2 := ((L1.setK (bits BinOp.or IntKind.u8 32 8)).setK (bits BinOp.or IntKind.u8 (bits BinOp.or IntKind.u8 32 8) 128))
    try dsimp only at L2
    have HL2 : Hid _ := L2
    clear L1 L2
    go_wp2
    have L2 := HL2.out
    clear HL2 k7 k8 k4 kl fz
    try generalize World.setCell _ _ _ = W2 at *
    have hcl := fun ty => L2.g.clears0 b (Nat.le_of_lt hb) n ty
    have L3 := L2.clearG b (Nat.le_of_lt hb)
    dsimp only at hcl L3
    generalize hW3 : World.setCells _ gb 0 _ = W3 at *
    clear hW3
    have k0 := L3.k.c 0 (by decide)
    have k2 := L3.k.c 2 (by decide)
    have kl := L3.k.lt
    have pc := L3.p.c b hb
    have pl := L3.p.lt
    simp only [Kd.f] at k0 k2 kl pc pl
    change LkF Φ w0 ⟨kb, ab, pb, rb, gb, n, .slice (some ⟨lg, lo, none⟩) n lc, A, PP, R, W.cl b G, _, _, _, _⟩ W3 at L3
    have N1 := fun W4 (hb4 : Below W3.heap.size W3 W4) s hs hF => note_any w0 _ W4 (L3.below hb4) hn 8 (by decide) s [PP b] hs hF
    have HN1 : Hid _ := N1
    have gl3 := L3.g.lt
    dsimp only at gl3
    clear L2 L3 N1
    go_wp2_with (fail)
    refine (HN1.out _ ((Below.refl _ _).alloc (Nat.le_refl _) _) ⟨some ⟨W3.heap.size, 0, none⟩, 1, 1⟩ (li_one W3 _ (PP b)) (fun g o _ e => by cases e; omega)).mono ?_
    rintro e w4 ⟨rfl, L4⟩
    have HKO := HK.out.2
    obtain ⟨oo, _, _, ⟨s1, a1, a2⟩, ⟨s2, e1, e2⟩, ⟨s3, f1, f2⟩⟩ := HKO
    have gl := oo.lt
    clear oo HN1 k0 k2 kl pc pl gl3 hcl
    have c5 := (L4.bl.cell (p := ⟨lg, lo + b * 13 + 10, none⟩) gl).trans a1
    have gl5 : lg < w4.heap.size := Nat.lt_of_lt_of_le gl L4.bl.size
    have k0 := L4.k.c 0 (by decide)
    have k7 := L4.k.c 7 (by decide)
    have kl := L4.k.lt
    simp only [Kd.f] at k0 k7 kl
    have N5 := note_any w0 _ w4 L4 hn 9 (by decide) s1 _ (a2.below L4.bl) (a2.old L4.ng)
    have HN5 : Hid (Calls _ _ _ _ _) := N5
    clear N5 L4
    obtain ⟨s1a, s1n, s1c⟩ := s1
    unfold slV at c5 HN5
    dsimp only at c5 HN5
    go_wp2_with (fail)
    refine HN5.out.mono ?_
    rintro e w5 ⟨rfl, L5⟩
    clear c5 gl5 k0 k7 kl HN5
    have c6 := (L5.bl.cell (p := ⟨lg, lo + b * 13 + 11, none⟩) gl).trans e1
    have gl6 : lg < w5.heap.size := Nat.lt_of_lt_of_le gl L5.bl.size
    have k0 := L5.k.c 0 (by decide)
    have k7 := L5.k.c 7 (by decide)
    have kl := L5.k.lt
    simp only [Kd.f] at k0 k7 kl
    have N6 := note_any w0 _ w5 L5 hn 10 (by decide) s2 _ (e2.below L5.bl) (e2.old L5.ng)
    have HN6 : Hid (Calls _ _ _ _ _) := N6
    clear N6 L5
    obtain ⟨s2a, s2n, s2c⟩ := s2
    unfold slV at c6 HN6
    dsimp only at c6 HN6
    go_wp2_with (fail)
    refine HN6.out.mono ?_
    rintro e w6 ⟨rfl, L6⟩
    clear c6 gl6 k0 k7 kl HN6
    have c7 := (L6.bl.cell (p := ⟨lg, lo + b * 13 + 12, none⟩) gl).trans f1
    have gl7 : lg < w6.heap.size := Nat.lt_of_lt_of_le gl L6.bl.size
    have k0 := L6.k.c 0 (by decide)
    have k7 := L6.k.c 7 (by decide)
    have kl := L6.k.lt
    simp only [Kd.f] at k0 k7 kl
    have N7 := note_any w0 _ w6 L6 hn 11 (by decide) s3 _ (f2.below L6.bl) (f2.old L6.ng)
    have HN7 : Hid (Calls _ _ _ _ _) := N7
    clear N7 L6
    obtain ⟨s3a, s3n, s3c⟩ := s3
    unfold slV at c7 HN7
    dsimp only at c7 HN7
    go_wp2_with (fail)
    refine HN7.out.mono ?_
    rintro e w7 ⟨rfl, L7⟩
    clear c7 gl7 k0 k7 kl HN7
    have k7 := L7.k.c 7 (by decide)
    have kl := L7.k.lt
    simp only [Kd.f] at k7 kl
    have HF : Hid _ := L7
    clear L7
    go_wp2
    go_end0
    exact ⟨rfl, HF.out⟩
  · go_enter Tryd.func66, Tryd.ntmps66
    go_wp2
    go_region
    have L1 := HL1.out
    clear HL1 x0 x1 x2 k0 k1 k2 k4 k5 k6 k7 k8 k9 kl fz pc pl al
    generalize World.drew _ = W1 at *
    have k7 := L1.k.c 7 (by decide)
    have k8 := L1.k.c 8 (by decide)
    have k4 := L1.k.c 4 (by decide)
    have kl := L1.k.lt
    have fz := L1.k.fz
    simp only [Kd.f] at k7 k8 k4 kl fz
    have L2 := ((L1.setK (bits BinOp.or IntKind.u8 32 8)).setK (bits BinOp.or IntKind.u8 (bits BinOp.or IntKind.u8 32 8) 64))
    try dsimp only at L2
    have HL2 : Hid _ := L2
    clear L1 L2
    go_wp2
    have L2 := HL2.out
    clear HL2 k7 k8 k4 kl fz
    try generalize World.setCell _ _ _ = W2 at *
    have hcl := fun ty => L2.g.clears0 b (Nat.le_of_lt hb) n ty
    have L3 := L2.clearG b (Nat.le_of_lt hb)
    dsimp only at hcl L3
    generalize hW3 : World.setCells _ gb 0 _ = W3 at *
    clear hW3
    have k0 := L3.k.c 0 (by decide)
    have k2 := L3.k.c 2 (by decide)
    have kl := L3.k.lt
    have pc := L3.p.c b hb
    have pl := L3.p.lt
    simp only [Kd.f] at k0 k2 kl pc pl
    change LkF Φ w0 ⟨kb, ab, pb, rb, gb, n, .slice (some ⟨lg, lo, none⟩) n lc, A, PP, R, W.cl b G, _, _, _, _⟩ W3 at L3
    have N1 := fun W4 (hb4 : Below W3.heap.size W3 W4) s hs hF => note_any w0 _ W4 (L3.below hb4) hn 8 (by decide) s [PP b] hs hF
    have HN1 : Hid _ := N1
    have gl3 := L3.g.lt
    dsimp only at gl3
    clear L2 L3 N1
    go_wp2_with (fail)
    refine (HN1.out _ ((Below.refl _ _).alloc (Nat.le_refl _) _) ⟨some ⟨W3.heap.size, 0, none⟩, 1, 1⟩ (li_one W3 _ (PP b)) (fun g o _ e => by cases e; omega)).mono ?_
    rintro e w4 ⟨rfl, L4⟩
    have HKO := HK.out.2
    obtain ⟨oo, _, _, ⟨s1, a1, a2⟩, ⟨s2, e1, e2⟩, ⟨s3, f1, f2⟩⟩ := HKO
    have gl := oo.lt
    clear oo HN1 k0 k2 kl pc pl gl3 hcl
    have c5 := (L4.bl.cell (p := ⟨lg, lo + b * 13 + 10, none⟩) gl).trans a1
    have gl5 : lg < w4.heap.size := Nat.lt_of_lt_of_le gl L4.bl.size
    have k0 := L4.k.c 0 (by decide)
    have k7 := L4.k.c 7 (by decide)
    have kl := L4.k.lt
    simp only [Kd.f] at k0 k7 kl
    have N5 := note_any w0 _ w4 L4 hn 9 (by decide) s1 _ (a2.below L4.bl) (a2.old L4.ng)
    have HN5 : Hid (Calls _ _ _ _ _) := N5
    clear N5 L4
    obtain ⟨s1a, s1n, s1c⟩ := s1
    unfold slV at c5 HN5
    dsimp only at c5 HN5
    go_wp2_with (fail)
    refine HN5.out.mono ?_
    rintro e w5 ⟨rfl, L5⟩
    clear c5 gl5 k0 k7 kl HN5
    have c6 := (L5.bl.cell (p := ⟨lg, lo + b * 13 + 11, none⟩) gl).trans e1
    have gl6 : lg < w5.heap.size := Nat.lt_of_lt_of_le gl L5.bl.size
    have k0 := L5.k.c 0 (by decide)
    have k7 := L5.k.c 7 (by decide)
    have kl := L5.k.lt
    simp only [Kd.f] at k0 k7 kl
    have N6 := note_any w0 _ w5 L5 hn 10 (by decide) s2 _ (e2.below L5.bl) (e2.old L5.ng)
    have HN6 : Hid (Calls _ _ _ _ _) := N6
    clear N6 L5
    obtain ⟨s2a, s2n, s2c⟩ := s2
    unfold slV at c6 HN6
    dsimp only at c6 HN6
    go_wp2_with (fail)
    refine HN6.out.mono ?_
    rintro e w6 ⟨rfl, L6⟩
    clear c6 gl6 k0 k7 kl HN6
    have k7 := L6.k.c 7 (by decide)
    have kl := L6.k.lt
    simp only [Kd.f] at k7 kl
    have HF : Hid _ := L6
    clear L6
    go_wp2
    go_end0
    exact ⟨rfl, HF.out⟩
  · go_enter Tryd.func66, Tryd.ntmps66
    go_wp2
    go_region
    have L1 := HL1.out
    clear HL1 x0 x1 x2 k0 k1 k2 k4 k5 k6 k7 k8 k9 kl fz pc pl al
    generalize World.drew _ = W1 at *
    have k7 := L1.k.c 7 (by decide)
    have k8 := L1.k.c 8 (by decide)
    have k4 := L1.k.c 4 (by decide)
    have kl := L1.k.lt
    have fz := L1.k.fz
    simp only [Kd.f] at k7 k8 k4 kl fz
    have L2 := (((L1.setK (bits BinOp.or IntKind.u8 32 8)).setK (bits BinOp.or IntKind.u8 (bits BinOp.or IntKind.u8 32 8) 64)).setK (bits BinOp.or IntKind.u8 (bits BinOp.or IntKind.u8 (bits BinOp.or IntKind.u8 32 8) 64) 128))
    try dsimp only at L2
    have HL2 : Hid _ := L2
    clear L1 L2
    go_wp2
    have L2 := HL2.out
    clear HL2 k7 k8 k4 kl fz
    try generalize World.setCell _ _ _ = W2 at *
    have hcl := fun ty => L2.g.clears0 b (Nat.le_of_lt hb) n ty
    have L3 := L2.clearG b (Nat.le_of_lt hb)
    dsimp only at hcl L3
    generalize hW3 : World.setCells _ gb 0 _ = W3 at *
    clear hW3
    have k0 := L3.k.c 0 (by decide)
    have k2 := L3.k.c 2 (by decide)
    have kl := L3.k.lt
    have pc := L3.p.c b hb
    have pl := L3.p.lt
    simp only [Kd.f] at k0 k2 kl pc pl
    change LkF Φ w0 ⟨kb, ab, pb, rb, gb, n, .slice (some ⟨lg, lo, none⟩) n lc, A, PP, R, W.cl b G, _, _, _, _⟩ W3 at L3
    have N1 := fun W4 (hb4 : Below W3.heap.size W3 W4) s hs hF => note_any w0 _ W4 (L3.below hb4) hn 8 (by decide) s [PP b] hs hF
    have HN1 : Hid _ := N1
    have gl3 := L3.g.lt
    dsimp only at gl3
    clear L2 L3 N1
    go_wp2_with (fail)
    refine (HN1.out _ ((Below.refl _ _).alloc (Nat.le_refl _) _) ⟨some ⟨W3.heap.size, 0, none⟩, 1, 1⟩ (li_one W3 _ (PP b)) (fun g o _ e => by cases e; omega)).mono ?_
    rintro e w4 ⟨rfl, L4⟩
    have HKO := HK.out.2
    obtain ⟨oo, _, _, ⟨s1, a1, a2⟩, ⟨s2, e1, e2⟩, ⟨s3, f1, f2⟩⟩ := HKO
    have gl := oo.lt
    clear oo HN1 k0 k2 kl pc pl gl3 hcl
    have c5 := (L4.bl.cell (p := ⟨lg, lo + b * 13 + 10, none⟩) gl).trans a1
    have gl5 : lg < w4.heap.size := Nat.lt_of_lt_of_le gl L4.bl.size
    have k0 := L4.k.c 0 (by decide)
    have k7 := L4.k.c 7 (by decide)
    have kl := L4.k.lt
    simp only [Kd.f] at k0 k7 kl
    have N5 := note_any w0 _ w4 L4 hn 9 (by decide) s1 _ (a2.below L4.bl) (a2.old L4.ng)
    have HN5 : Hid (Calls _ _ _ _ _) := N5
    clear N5 L4
    obtain ⟨s1a, s1n, s1c⟩ := s1
    unfold slV at c5 HN5
    dsimp only at c5 HN5
    go_wp2_with (fail)
    refine HN5.out.mono ?_
    rintro e w5 ⟨rfl, L5⟩
    clear c5 gl5 k0 k7 kl HN5
    have c6 := (L5.bl.cell (p := ⟨lg, lo + b * 13 + 11, none⟩) gl).trans e1
    have gl6 : lg < w5.heap.size := Nat.lt_of_lt_of_le gl L5.bl.size
    have k0 := L5.k.c 0 (by decide)
    have k7 := L5.k.c 7 (by decide)
    have kl := L5.k.lt
    simp only [Kd.f] at k0 k7 kl
    have N6 := note_any w0 _ w5 L5 hn 10 (by decide) s2 _ (e2.below L5.bl) (e2.old L5.ng)
    have HN6 : Hid (Calls _ _ _ _ _) := N6
    clear N6 L5
    obtain ⟨s2a, s2n, s2c⟩ := s2
    unfold slV at c6 HN6
    dsimp only at c6 HN6
    go_wp2_with (fail)
    refine HN6.out.mono ?_
    rintro e w6 ⟨rfl, L6⟩
    clear c6 gl6 k0 k7 kl HN6
    have c7 := (L6.bl.cell (p := ⟨lg, lo + b * 13 + 12, none⟩) gl).trans f1
    have gl7 : lg < w6.heap.size := Nat.lt_of_lt_of_le gl L6.bl.size
    have k0 := L6.k.c 0 (by decide)
    have k7 := L6.k.c 7 (by decide)
    have kl := L6.k.lt
    simp only [Kd.f] at k0 k7 kl
    have N7 := note_any w0 _ w6 L6 hn 11 (by decide) s3 _ (f2.below L6.bl) (f2.old L6.ng)
    have HN7 : Hid (Calls _ _ _ _ _) := N7
    clear N7 L6
    obtain ⟨s3a, s3n, s3c⟩ := s3
    unfold slV at c7 HN7
    dsimp only at c7 HN7
    go_wp2_with (fail)
    refine HN7.out.mono ?_
    rintro e w7 ⟨rfl, L7⟩
    clear c7 gl7 k0 k7 kl HN7
    have k7 := L7.k.c 7 (by decide)
    have kl := L7.k.lt
    simp only [Kd.f] at k7 kl
    have HF : Hid _ := L7
    clear L7
    go_wp2
    go_end0
    exact ⟨rfl, HF.out⟩
end Go.Proofs.YtibohlbkkaghkaaDoor
