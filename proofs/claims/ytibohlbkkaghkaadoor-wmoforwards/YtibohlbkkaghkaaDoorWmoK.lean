/- wmo: stepsOf. -/
import Derived.Test.YtibohlbkkaghkaaDoorWmoJ
import Derived.Deep.CutRange
namespace Go.Proofs.YtibohlbkkaghkaaDoor
open Go.ChangeShapes Go.WideShapes Go.ChangeAt Go.RowKit Go.Maps
set_option linter.unusedVariables false
set_option linter.unusedSimpArgs false

namespace W
def lrO (x : Nat → Oz) (pl : Nat → Int) (i : Nat) : Int := if 0 ≤ pairO x i then pl (pairO x i).toNat else 0
/-- The steps of the first i operations of a hart. -/
def innS (x : Nat → Oz) (S : Nat → S3) (pl : Nat → Int) (h : Int) (q : Nat → StR) : Nat → (Nat → StR)
  | 0 => q
  | i + 1 => if pl i = 0 then innS x S pl h q i else updQ (innS x S pl h q i) (pl i).toNat ⟨(x i).o, S i, h, lrO x pl i, fun _ => 0⟩
/-- The steps of the first h harts, each gone along its list. -/
def sts (x : Nat → Nat → Oz) (S : Nat → Nat → S3) (n : Nat → Nat) (pl : Nat → Nat → Int) : Nat → (Nat → StR)
  | 0 => fun _ => zSt
  | h + 1 => (fol (innS (x h) (S h) (pl h) (h : Int) (sts x S n pl h) (n h)) (fun i => (pl h i).toNat) (n h)).2
/-- All steps. -/
def stp (x : Nat → Nat → Oz) (S : Nat → Nat → S3) (n : Nat → Nat) (pl : Nat → Nat → Int) (K N : Nat) : Nat → StR := (fol (sts x S n pl K) (fun p => p) (N + 1)).2
theorem byt_of (o : Opr) (h : FitB o) (a0 : 0 ≤ o.ad) (a1 : o.ad < 4294967296) : Byt o := by
  unfold FitB at h
  exact ⟨by omega, by omega, a0, by omega⟩
theorem inn_byt (x : Nat → Oz) (S : Nat → S3) (pl : Nat → Int) (h : Int) (q : Nat → StR) (hq : ∀ p, Byt (q p).o) : ∀ i, (∀ j, j < i → Byt (x j).o) → ∀ p, Byt (innS x S pl h q i p).o
  | 0, _, p => hq p
  | i + 1, hx, p => by
    have h1 := inn_byt x S pl h q hq i (fun j hj => hx j (by omega))
    unfold innS
    split
    · exact h1 p
    · unfold updQ
      split
      · exact hx i (by omega)
      · exact h1 p
theorem sts_byt (x : Nat → Nat → Oz) (S : Nat → Nat → S3) (n : Nat → Nat) (pl : Nat → Nat → Int) : ∀ h, (∀ j, j < h → ∀ i, i < n j → Byt (x j i).o) → ∀ p, Byt (sts x S n pl h p).o
  | 0, _, p => ⟨Int.le_refl _, (by decide : (0 : Int) ≤ 4), Int.le_refl _, (by decide : (0 : Int) + 0 ≤ 4294967296)⟩
  | h + 1, hx, p => by
    have h1 := sts_byt x S n pl h (fun j hj => hx j (by omega))
    unfold sts
    rw [fol_o]
    exact inn_byt _ _ _ _ _ h1 _ (fun j hj => hx h (by omega) j hj) p
theorem plc_bd (r : Nat → Nat × Nat) : ∀ (N h i : Nat), 0 ≤ plc r N h i ∧ plc r N h i ≤ (N : Int)
  | 0, h, i => ⟨Int.le_refl _, Int.le_refl _⟩
  | N + 1, h, i => by
    have := plc_bd r N h i
    unfold plc
    split
    · omega
    · omega
end W
theorem Sb2.setL {b N : Nat} {q : Nat → StR} {w : World} (h : Sb2 b N q w) (p : Nat) (v : Int) : Sb2 b N (updQ q p { q p with lr := v }) (w.setCell ⟨b, p * 19 + 14, none⟩ (.int .i64 v)) := by
  refine h.set p 14 (by decide) _ _ rfl (fun i hi hne => ?_)
  unfold stF
  dsimp only
  by_cases h1 : i % 19 < 13
  · rw [if_pos h1, if_pos h1]
  · rw [if_neg h1, if_neg h1]
    by_cases h2 : i % 19 = 13
    · rw [if_pos h2, if_pos h2]
    · rw [if_neg h2, if_neg h2, if_neg (by omega), if_neg (by omega)]
/-- The two that stepsOf makes, in either order. -/
structure Mk2 (w : World) (M sb lb : Nat) (q : Nat → StR) (w' : World) : Prop where
  s : Sb2 sb M q w'
  l : Bc lb M (fun _ => .int .i64 0) w'
  ne : lb ≠ sb
  s0 : w.heap.size ≤ sb
  l0 : w.heap.size ≤ lb
  b : Below w.heap.size w w'
theorem bcz (w : World) (M : Nat) (T : TypeId) : Bc w.heap.size M (fun _ => .int .i64 0) (w.alloc (.cells (madeCells #[.int .i64 0] M) T)) := (Bc.made w #[.int .i64 0] M T).congr fun i hi => by
  show (#[Value.int .i64 0] : Array Value)[i % 1]! = _
  rw [Nat.mod_one]
  rfl
theorem Mk2.a (w : World) (M : Nat) (T T2 : TypeId) : Mk2 w M w.heap.size (w.heap.size + 1) (fun _ => zSt) ((w.alloc (.cells (madeCells (stC zSt) (M * 19)) T)).alloc (.cells (madeCells #[.int .i64 0] M) T2)) := by
  have e : (w.alloc (.cells (madeCells (stC zSt) (M * 19)) T)).heap.size = w.heap.size + 1 := by simp
  have hl := bcz (w.alloc (.cells (madeCells (stC zSt) (M * 19)) T)) M T2
  rw [e] at hl
  exact ⟨(Sb2.made w M T).below ((Below.refl _ _).alloc (Nat.le_refl _) _), hl, by omega, Nat.le_refl _, by omega, ((Below.refl _ _).alloc (Nat.le_refl _) _).alloc (by simp) _⟩
theorem Mk2.b' (w : World) (M : Nat) (T T2 : TypeId) : Mk2 w M (w.heap.size + 1) w.heap.size (fun _ => zSt) ((w.alloc (.cells (madeCells #[.int .i64 0] M) T2)).alloc (.cells (madeCells (stC zSt) (M * 19)) T)) := by
  have e : (w.alloc (.cells (madeCells #[.int .i64 0] M) T2)).heap.size = w.heap.size + 1 := by simp
  have hs := Sb2.made (w.alloc (.cells (madeCells #[.int .i64 0] M) T2)) M T
  rw [e] at hs
  exact ⟨hs, (bcz w M T2).below ((Below.refl _ _).alloc (Nat.le_refl _) _), by omega, by omega, Nat.le_refl _, ((Below.refl _ _).alloc (Nat.le_refl _) _).alloc (by simp) _⟩
theorem Mk2.drew {w : World} {M sb lb : Nat} {q : Nat → StR} {w' : World} (h : Mk2 w M sb lb q w') : Mk2 w M sb lb q w'.drew := ⟨h.s.below (Below.refl _ _).drew, h.l.below (Below.refl _ _).drew, h.ne, h.s0, h.l0, h.b.drew⟩
attribute [local go_sem ↓] ldO_eq bdS_eq stS_eq
set_option maxRecDepth 10000 in
set_option maxHeartbeats 3200000 in
theorem stepsOf_any (b K KC : Nat) (a : Nat → Option Addr) (n c : Nat → Nat) (x : Nat → Nat → W.Oz) (S : Nat → Nat → S3) (base PB N : Nat) (pb : Nat → Nat) (f : Nat → Nat → Int) (w : World) (h : Hf b K a n c x S w) (v : W.Vd K n x) (hP : Pl base PB K n pb f K w) (hf : ∀ h i, 0 ≤ f h i ∧ f h i ≤ (N : Int)) (hN : N ≤ 4096) :
    Calls Tryd.prog 28 #[.slice (some ⟨b, 0, none⟩) K KC, .slice (some ⟨PB, 0, none⟩) K K, .int .i64 (N : Int)] w fun e w' => (∃ sb, e = .returned (.slice (some ⟨sb, 0, none⟩) (N + 1) (N + 1)) ∧ w.heap.size ≤ sb ∧ Sb2 sb (N + 1) (W.stp x S n f K N) w') ∧ Below w.heap.size w w' := by
  have k1 := v.k
  obtain ⟨OS, hOS, hmS⟩ : ∃ o : Obj, Hid (o = (.cells (madeCells (stC zSt) ((N + 1) * 19)) 85)) ∧ ∀ w, (Instr.makeSlice 69 (.int .i64 ((N : Int) + 1)) (.int .i64 ((N : Int) + 1))).run Tryd.prog w = .ok (.slice (some ⟨w.heap.size, 0, none⟩) (N + 1) (N + 1)) (w.alloc o) := ⟨_, rfl, make_steps (N + 1) (by omega)⟩
  obtain ⟨OL, hOL, hmL⟩ : ∃ o : Obj, Hid (o = (.cells (madeCells #[.int .i64 0] (N + 1)) 3)) ∧ ∀ w, (Instr.makeSlice 23 (.int .i64 ((N : Int) + 1)) (.int .i64 ((N : Int) + 1))).run Tryd.prog w = .ok (.slice (some ⟨w.heap.size, 0, none⟩) (N + 1) (N + 1)) (w.alloc o) := ⟨_, rfl, make_ints (N + 1) (by omega)⟩
  have HH : Hid (_ ∧ _ ∧ _ ∧ _) := ⟨h, v, hP, hf⟩
  clear h v hP hf
  go_enter Tryd.func28, Tryd.ntmps28
  go_wp2_with (fail)
  go_cut [7, 8] from 15 to 21 (fun s l wx => ∃ sb lb, s = .slice (some ⟨sb, 0, none⟩) (N + 1) (N + 1) ∧ l = .slice (some ⟨lb, 0, none⟩) (N + 1) (N + 1) ∧ Mk2 w (N + 1) sb lb (fun _ => zSt) wx)
  case first =>
    go_region
    all_goals
      go_wp2
      go_meet
      case rel => (first
        | exact ⟨_, _, rfl, rfl, by rw [hOS.out, hOL.out]; exact (Mk2.a w (N + 1) _ _).drew⟩
        | exact ⟨_, _, rfl, rfl, by rw [hOS.out, hOL.out]; exact (Mk2.b' w (N + 1) _ _).drew⟩)
  case rest =>
    obtain ⟨sb, lb, rfl, rfl, hM⟩ := hcut
    clear hmS hmL hOS hOL
    have HM : Hid _ := hM
    clear hM
    go_wp2
    go_loopw [23] (fun i wr => ∃ j : Nat, j ≤ K ∧ i = .int .i64 (j : Int) ∧ Mk2 w (N + 1) sb lb (W.sts x S n f j) wr) (fun i _ => K - (intOf i).toNat)
    case atStart => exact ⟨0, by omega, rfl, HM.out⟩
    case round =>
      clear HM
      obtain ⟨j, hj, rfl, hM⟩ := hrel
      by_cases hlt : j < K
      · have hjn : (j : Int) < (K : Int) := by omega
        have hm := HH.out.1.below hM.b
        have g0 := hm.hs.cl j hlt
        have lt := hm.hs.lt
        have nle := HH.out.2.1.le j hlt
        have hpr := pairs_any (a j) (n j) (c j) (x j) wr (hm.hs.ol j hlt) nle
        have HX : Hid (Calls _ _ _ _ _ ∧ _) := ⟨hpr, hM⟩
        clear hpr hM hm
        go_wp2_with (fail)
        refine HX.out.1.mono ?_
        rintro e w1 ⟨⟨pg, rfl, hpg, hBp⟩, b1⟩
        have hM1 : Mk2 w (N + 1) sb lb (W.sts x S n f j) w1 := ⟨HX.out.2.s.below b1, HX.out.2.l.below b1, HX.out.2.ne, HX.out.2.s0, HX.out.2.l0, HX.out.2.b.trans (b1.mono HX.out.2.b.size)⟩
        have pgs : pg ≠ sb := by have := HX.out.2.s.b.lt; omega
        clear HX b1 g0 lt
        have P1 := HH.out.2.2.1.below hM1.b
        have p1 := P1.o.c j hlt
        rw [if_pos hlt] at p1
        have p1l := P1.o.lt
        have HY : Hid (_ ∧ _) := ⟨hM1, hBp⟩
        clear P1 hM1 hBp
        go_wp2
        go_loopw [35] (fun t wy => ∃ i : Nat, i ≤ n j ∧ t = .int .i64 (i : Int) ∧ Sb2 sb (N + 1) (W.innS (x j) (S j) (f j) (j : Int) (W.sts x S n f j) i) wy ∧ w1.grownBy wy (some sb)) (fun t _ => n j - (intOf t).toNat)
        case atStart => exact ⟨0, by omega, rfl, HY.out.1.s, ⟨rfl, rfl, rfl, Nat.le_refl _, fun _ _ _ => rfl⟩⟩
        case round =>
          clear p1 p1l
          obtain ⟨i, hi, rfl, hS, hg⟩ := hrel
          have bw : Below w.heap.size w wr := Below.grown HY.out.1.b hg HY.out.1.b.size (fun d e => by cases e; exact HY.out.1.s0)
          by_cases hli : i < n j
          · have hin : (i : Int) < (n j : Int) := by omega
            have P1 := HH.out.2.2.1.below bw
            have q0 := (P1.i j hlt).c i hli
            have q0l := (P1.i j hlt).lt
            have q1 := P1.o.c j hlt
            rw [if_pos hlt] at q1
            have q1l := P1.o.lt
            have eI : W.innS (x j) (S j) (f j) (j : Int) (W.sts x S n f j) (i + 1) = if f j i = 0 then W.innS (x j) (S j) (f j) (j : Int) (W.sts x S n f j) i else updQ (W.innS (x j) (S j) (f j) (j : Int) (W.sts x S n f j) i) (f j i).toNat ⟨(x j i).o, S j i, (j : Int), W.lrO (x j) (f j) i, fun _ => 0⟩ := rfl
            have fb := HH.out.2.2.2 j i
            try dsimp only at q0
            by_cases p0 : f j i = 0
            · rw [p0] at q0
              rw [if_pos p0] at eI
              have HZ : Hid (_ ∧ _ ∧ _) := ⟨hS, hg, eI⟩
              clear hS hg eI P1 bw
              go_wp2
              go_roundw
              case rel => exact ⟨i + 1, by omega, by go_num, by rw [HZ.out.2.2]; exact HZ.out.1, HZ.out.2.1⟩
              case measure => simp [intOf]; omega
            · rw [if_neg p0] at eI
              obtain ⟨p, hp⟩ := Int.eq_ofNat_of_zero_le fb.1
              rw [hp, Int.toNat_natCast] at eI
              rw [hp] at q0 fb p0
              have pz : ((p : Int) == 0) = false := by simpa using p0
              have pN : p < N + 1 := by omega
              have pNi : (p : Int) < (N : Int) + 1 := by omega
              obtain ⟨g, o, ha, gl, hc⟩ := (HH.out.1.below bw).fl j hlt (by omega)
              have ld := ldO_any (x j i).o (S j i) (hc i hli)
              have bd := bdS_2 (x j i).o (S j i) (j : Int)
              have sto := hS.store p pN ⟨(x j i).o, S j i, (j : Int), 0, fun _ => 0⟩
              have hS2 := hS.put p pN ⟨(x j i).o, S j i, (j : Int), 0, fun _ => 0⟩
              have hg2 := gcomp hg (gsetCells sb (stC ⟨(x j i).o, S j i, (j : Int), 0, fun _ => 0⟩).toList (p * 19) wr) (fun d e => by cases e; exact Or.inl rfl)
              have sbl := hS.b.lt
              have bc2 := (HY.out.2.grown hg2 (by simpa using pgs)).c i hli
              have bl2 := (HY.out.2.grown hg2 (by simpa using pgs)).lt
              try dsimp only at bc2
              rw [ha]
              clear hc
              generalize wr.setCells sb (p * 19) (stC ⟨(x j i).o, S j i, (j : Int), 0, fun _ => 0⟩).toList = wr2 at *
              generalize stC ⟨(x j i).o, S j i, (j : Int), 0, fun _ => 0⟩ = CS at *
              have bw2 : Below w.heap.size w wr2 := Below.grown HY.out.1.b hg2 HY.out.1.b.size (fun d e => by cases e; exact HY.out.1.s0)
              have P2 := HH.out.2.2.1.below bw2
              have r1 := P2.o.c j hlt
              rw [if_pos hlt] at r1
              have r1l := P2.o.lt
              have r2l := (P2.i j hlt).lt
              have sl2 := hS2.b.lt
              have sfz := hS2.b.fz
              have s14 := hS2.cell p 14 pN (by decide) _ rfl
              generalize stF _ 14 = v14 at s14
              have r2c := (P2.i j hlt).c
              by_cases h0 : 0 ≤ W.pairO (x j) i
              · obtain ⟨Pq, hPq⟩ := Int.eq_ofNat_of_zero_le h0
                have hlP := (W.pairO_lt (x j) i).1
                rw [hPq] at hlP bc2
                have r2 := r2c Pq (by omega)
                have hPn : (Pq : Int) < (n j : Int) := by omega
                have eL : W.lrO (x j) (f j) i = f j Pq := by unfold W.lrO; rw [if_pos h0, hPq, Int.toNat_natCast]
                rw [eL] at eI
                have hS3 := hS2.setL p (f j Pq)
                rw [updQ_twice, updQ_same] at hS3
                try dsimp only at hS3
                have hg3 := gcomp hg2 (gsetCell wr2 sb (p * 19 + 14) (.int .i64 (f j Pq))) (fun d e => by cases e; exact Or.inl rfl)
                have hS4 := hS3.below (Below.refl _ _).drew
                have hg4 := gcomp hg3 (gdrew _) (fun d e => by cases e)
                have HZ : Hid (_ ∧ _ ∧ _) := ⟨hS4, hg4, eI⟩
                clear hS hS2 hS3 hS4 hg hg2 hg3 hg4 eI P1 P2 bw bw2 r2c eL h0 hPq
                generalize f j Pq = fP at *
                go_wp2
                go_region
                go_wp2
                go_roundw
                case rel => exact ⟨i + 1, by omega, by go_num, by rw [HZ.out.2.2]; exact HZ.out.1, HZ.out.2.1⟩
                case measure => simp [intOf]; omega
              · have eL : W.lrO (x j) (f j) i = 0 := by unfold W.lrO; rw [if_neg h0]
                rw [eL] at eI
                have HZ : Hid (_ ∧ _ ∧ _) := ⟨hS2, hg2, eI⟩
                clear hS hS2 hg hg2 eI P1 P2 bw bw2 r2c eL r1 r1l r2l s14 sfz sl2
                generalize W.pairO (x j) i = PP at *
                go_wp2
                go_roundw
                case rel => exact ⟨i + 1, by omega, by go_num, by rw [HZ.out.2.2]; exact HZ.out.1, HZ.out.2.1⟩
                case measure => simp [intOf]; omega
          · obtain rfl : i = n j := by omega
            have hin : ¬ ((n j : Nat) : Int) < (n j : Int) := by omega
            have P1 := HH.out.2.2.1.below bw
            have q1 := P1.o.c j hlt
            rw [if_pos hlt] at q1
            have q1l := P1.o.lt
            have fln : ∀ i, ((f j i).toNat : Int) = f j i := fun i => by have := (HH.out.2.2.2 j i).1; omega
            have hl1 : Bc (pb j) (n j) (fun i => .int .i64 (((f j i).toNat : Nat) : Int)) wr := (P1.i j hlt).congr fun i _ => by rw [fln]
            have pbs : pb j ≠ sb := by have := (HH.out.2.2.1.i j hlt).lt; have := HY.out.1.s0; omega
            have byt := W.inn_byt (x j) (S j) (f j) (j : Int) (W.sts x S n f j) (W.sts_byt x S n f j (fun t ht i hi => W.byt_of _ ((HH.out.2.1.s t (by omega)).b i hi) ((HH.out.2.1.s t (by omega)).a0 i hi) ((HH.out.2.1.s t (by omega)).a1 i hi))) (n j) (fun i hi => W.byt_of _ ((HH.out.2.1.s j hlt).b i hi) ((HH.out.2.1.s j hlt).a0 i hi) ((HH.out.2.1.s j hlt).a1 i hi))
            have fo := follow_any sb (N + 1) _ (pb j) (n j) (fun i => (f j i).toNat) wr hS hl1 pbs (by omega) (by omega) (fun i _ => by have := HH.out.2.2.2 j i; omega) (fun i _ => byt _)
            have HZ : Hid (Calls _ _ _ _ _ ∧ _ ∧ _) := ⟨fo, hg, bw⟩
            clear fo hg bw hS hl1 byt P1
            go_wp2_with (fail)
            refine HZ.out.1.mono ?_
            rintro e w5 ⟨rfl, hS5, hg5⟩
            have hg6 := gcomp HZ.out.2.1 hg5 (fun d e => by cases e; exact Or.inl rfl)
            have M5 : Mk2 w (N + 1) sb lb (W.sts x S n f (j + 1)) w5 := ⟨hS5, HY.out.1.l.grown hg6 (by simpa using HY.out.1.ne), HY.out.1.ne, HY.out.1.s0, HY.out.1.l0, Below.grown HY.out.1.b hg6 HY.out.1.b.size (fun d e => by cases e; exact HY.out.1.s0)⟩
            have HM5 : Hid _ := M5
            clear M5 hS5 hg5 hg6 HZ
            go_wp2
            go_roundw
            case rel => exact ⟨j + 1, by omega, by go_num, HM5.out⟩
            case measure => simp [intOf]; omega
      · obtain rfl : j = K := by omega
        have hjn : ¬ (j : Int) < (j : Int) := by omega
        have HM : Hid _ := hM
        clear hM
        go_wp2
        go_loopw [80] (fun t wy => ∃ i : Nat, i ≤ N + 1 ∧ t = .int .i64 (i : Int) ∧ Sb2 sb (N + 1) (W.sts x S n f j) wy ∧ Bc lb (N + 1) (fun q => .int .i64 (if q < i then (q : Int) else 0)) wy ∧ Below w.heap.size w wy) (fun t _ => N + 1 - (intOf t).toNat)
        case atStart => exact ⟨0, by omega, rfl, HM.out.s, HM.out.l.congr (fun q _ => by rw [if_neg (by omega)]), HM.out.b⟩
        case round =>
          obtain ⟨i, hi, rfl, hS, hL, hB⟩ := hrel
          by_cases hli : i < N + 1
          · have hin : (i : Int) < (N : Int) + 1 := by omega
            have c0 := hL.c i hli
            have cl := hL.lt
            have cf := hL.fz
            have hS2 := hS.other (gsetCell wr lb i (.int .i64 (i : Int))) (by simpa using HM.out.ne.symm)
            have hL2 := (hL.set i (.int .i64 (i : Int))).congr (g := fun q => .int .i64 (if q < i + 1 then (q : Int) else 0)) (fun q _ => by
              unfold updV
              by_cases e : q = i
              · rw [if_pos e, if_pos (by omega), e]
              · rw [if_neg e]
                dsimp only
                by_cases e2 : q < i
                · rw [if_pos e2, if_pos (by omega)]
                · rw [if_neg e2, if_neg (by omega)])
            have hB2 := hB.setCell (p := ⟨lb, i, none⟩) HM.out.l0 (.int .i64 (i : Int))
            have HZ : Hid (_ ∧ _ ∧ _) := ⟨hS2, hL2, hB2⟩
            clear hS hL hB hS2 hL2 hB2
            go_wp2
            go_roundw
            case rel => exact ⟨i + 1, by omega, by go_num, HZ.out.1, HZ.out.2.1, HZ.out.2.2⟩
            case measure => simp [intOf]; omega
          · obtain rfl : i = N + 1 := by omega
            have hin : ¬ ((N + 1 : Nat) : Int) < (N : Int) + 1 := by omega
            have hl1 : Bc lb (N + 1) (fun q => .int .i64 (((fun p => p) q : Nat) : Int)) wr := hL.congr fun q hq => by rw [if_pos hq]
            have byt := W.sts_byt x S n f j (fun t ht i hi => W.byt_of _ ((HH.out.2.1.s t (by omega)).b i hi) ((HH.out.2.1.s t (by omega)).a0 i hi) ((HH.out.2.1.s t (by omega)).a1 i hi))
            have fo := follow_any sb (N + 1) _ lb (N + 1) (fun p => p) wr hS hl1 HM.out.ne (by omega) (by omega) (fun i hi => hi) (fun i _ => byt _)
            have HZ : Hid (Calls _ _ _ _ _ ∧ _) := ⟨fo, hB⟩
            clear fo hB hS hl1 byt hL
            go_wp2_with (fail)
            refine HZ.out.1.mono ?_
            rintro e w5 ⟨rfl, hS5, hg5⟩
            have B5 : Below w.heap.size w w5 := Below.grown HZ.out.2 hg5 HZ.out.2.size (fun d e => by cases e; exact HM.out.s0)
            have HW : Hid (_ ∧ _ ∧ _) := ⟨HM.out.s0, hS5, B5⟩
            clear hS5 hg5 B5 HZ HM
            go_wp2
            go_ret
            exact ⟨⟨sb, rfl, HW.out.1, HW.out.2.1⟩, HW.out.2.2⟩
end Go.Proofs.YtibohlbkkaghkaaDoor
