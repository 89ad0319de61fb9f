/- HomePuts: the walk. -/
import Derived.Test.YtadkpelcbnljbaaHomS
import Derived.Deep.CutRange
namespace Go.Proofs.Ytadkpelcbnljbaa
open Go.ChangeShapes Go.WideShapes Go.ChangeAt Go.RowKit
set_option linter.unusedVariables false
set_option linter.unusedSimpArgs false
attribute [local go_sem ↓] ldM_eq stM_eq bdM_eq bsM_eq
variable {n0 hb : Nat} {s s' : W.Hm} {sv av sv' av' sv'' av'' : Value} {w w' w'' : World}
theorem LnAt.low {db B : Nat} {x0 x1 x2 x3 : Int} (h : LnAt db x0 x1 x2 x3 w) (hb : Below B w w') (hl : db < B) : LnAt db x0 x1 x2 x3 w' := (hb.block db hl).trans h
theorem bdM_put (k f : Int) (h d : Bool) (x0 x1 x2 x3 : Int) (w : World) : (bdM #[(0, .int .i64 k), (2, .int .i64 f), (3, .int .i64 (-1)), (5, .bool h), (6, .bool d), (4, .agg #[.int .u32 x0, .int .u32 x1, .int .u32 x2, .int .u32 x3])]).run Try.prog w = .ok (mgV ⟨k, 0, f, -1, x0, x1, x2, x3, h, d, false⟩) w := by kernel_rfl
section
variable (a0 a1 a2 a3 b0 b1 b2 b3 : Int)
theorem p1s : W.take (W.hm0 0 3 a0 a1 a2 a3) (W.up 2 0 0) = (⟨0, 3, a0, a1, a2, a3, 0, [], 0, 2, [], -1, W.mg0⟩, [⟨7, 0, -1, 0, a0, a1, a2, a3, true, false, true⟩]) := by rfl
theorem p2s : W.take ⟨0, 3, a0, a1, a2, a3, 0, [], 0, 2, [], -1, W.mg0⟩ (W.up 12 0 0) = (⟨0, 3, a0, a1, a2, a3, 0, [], -1, 2, [], -1, W.mg0⟩, []) := by rfl
theorem p3s : W.take ⟨0, 3, a0, a1, a2, a3, 0, [], -1, 2, [], -1, W.mg0⟩ (W.up 2 0 1) = (⟨0, 3, a0, a1, a2, a3, 0, [], 1, 2, [], 0, W.mg0⟩, [⟨6, 0, -1, 0, 0, 0, 0, 0, false, false, false⟩]) := by rfl
theorem p3t : W.tk ⟨0, 3, a0, a1, a2, a3, 0, [], 1, 2, [], 0, W.mg0⟩ (W.up 3 0 0) = false := by rfl
theorem p4s : W.take ⟨0, 3, a0, a1, a2, a3, 0, [], 1, 2, [], 0, W.mg0⟩ ⟨11, 0, 0, -1, b0, b1, b2, b3, true, true, false⟩ = (⟨0, 3, a0, a1, a2, a3, 1, [], 1, 2, [], -1, W.mg0⟩, [⟨7, 0, -1, 1, b0, b1, b2, b3, true, true, true⟩]) := by rfl
theorem p5s : W.take ⟨0, 3, a0, a1, a2, a3, 1, [], 1, 2, [], -1, W.mg0⟩ (W.up 12 0 1) = (⟨0, 3, a0, a1, a2, a3, 1, [], -1, 2, [], -1, W.mg0⟩, []) := by rfl
theorem p6s (d : Bool) : W.take ⟨0, 3, a0, a1, a2, a3, 1, [], -1, 2, [], -1, W.mg0⟩ ⟨3, 0, 0, -1, b0, b1, b2, b3, true, d, false⟩ = (⟨0, 3, a0, a1, a2, a3, 1, [], -1, 2, [], -1, W.mg0⟩, [⟨9, 0, -1, 0, 0, 0, 0, 0, false, false, false⟩]) := by cases d <;> rfl
theorem p7s : W.take ⟨0, 3, a0, a1, a2, a3, 0, [], -1, 2, [], -1, W.mg0⟩ ⟨3, 0, 0, -1, b0, b1, b2, b3, true, true, false⟩ = (⟨0, 3, b0, b1, b2, b3, -1, [], -1, 2, [], -1, W.mg0⟩, [⟨9, 0, -1, 0, 0, 0, 0, 0, false, false, false⟩]) := by rfl
theorem p8s : W.take ⟨0, 3, a0, a1, a2, a3, 0, [], -1, 2, [], -1, W.mg0⟩ ⟨3, 0, 0, -1, b0, b1, b2, b3, true, false, false⟩ = (⟨0, 3, a0, a1, a2, a3, -1, [], -1, 2, [], -1, W.mg0⟩, [⟨9, 0, -1, 0, 0, 0, 0, 0, false, false, false⟩]) := by rfl
end

set_option maxRecDepth 10000 in
set_option maxHeartbeats 1600000 in
theorem puts_any (dirty stale : Bool) (a0 a1 a2 a3 b0 b1 b2 b3 : Int) (w : World) :
    Calls Try.prog 5 #[.bool dirty, .bool stale, .agg #[.int .u32 a0, .int .u32 a1, .int .u32 a2, .int .u32 a3], .agg #[.int .u32 b0, .int .u32 b1, .int .u32 b2, .int .u32 b3]] w fun e w' => e = .returned (.bool true) ∧ Below w.heap.size w w' := by
  have hb1 := below_alloc w (.cells #[.int .u32 a0, .int .u32 a1, .int .u32 a2, .int .u32 a3] 24)
  have la := lnAt_new w a0 a1 a2 a3
  have hb2 := below_alloc (w.alloc (.cells #[.int .u32 a0, .int .u32 a1, .int .u32 a2, .int .u32 a3] 24)) (.cells #[.int .u32 b0, .int .u32 b1, .int .u32 b2, .int .u32 b3] 24)
  have lb := lnAt_new (w.alloc (.cells #[.int .u32 a0, .int .u32 a1, .int .u32 a2, .int .u32 a3] 24)) b0 b1 b2 b3
  have e1 : (w.alloc (.cells #[.int .u32 a0, .int .u32 a1, .int .u32 a2, .int .u32 a3] 24)).heap.size = w.heap.size + 1 := by simp
  rw [e1] at lb
  have HW : Hid (LnAt w.heap.size a0 a1 a2 a3 _ ∧ LnAt (w.heap.size + 1) b0 b1 b2 b3 _ ∧ Below w.heap.size w _) := ⟨la.below hb2, lb, hb1.trans (hb2.mono hb1.size)⟩
  clear hb1 hb2 la lb e1
  go_enter Try.func5, Try.ntmps5
  go_wp2_with (fail)
  generalize World.alloc (World.alloc w _) _ = W1 at *
  refine (first18_any W1).mono ?_
  rintro e w1 ⟨rfl, hb1⟩
  have HA : Hid (_ ∧ _ ∧ _) := ⟨HW.out.1.below hb1, HW.out.2.1.below hb1, HW.out.2.2.trans (hb1.mono HW.out.2.2.size)⟩
  clear hb1 HW
  have HQ : Hid (w.heap.size < w1.heap.size ∧ w.heap.size + 1 < w1.heap.size) := ⟨HA.out.1.lt, HA.out.2.1.lt⟩
  generalize w.heap.size + 1 = tb at *
  have HLE : Hid (Below w.heap.size w w1 ∧ w.heap.size ≤ w1.heap.size) := ⟨HA.out.2.2, HA.out.2.2.size⟩
  obtain ⟨ta, hta⟩ : ∃ ta, w.heap.size = ta := ⟨_, rfl⟩
  have HA : Hid (LnAt ta a0 a1 a2 a3 w1 ∧ LnAt tb b0 b1 b2 b3 w1) := ⟨hta ▸ HA.out.1, HA.out.2.1⟩
  rw [hta] at HQ ⊢
  have q0 := HA.out.1.c0
  have q1 := HA.out.1.c1
  have q2 := HA.out.1.c2
  have q3 := HA.out.1.c3
  clear hta
  go_wp2_with (fail)
  refine (new_any 0 3 a0 a1 a2 a3 w1).mono ?_
  rintro e w2 ⟨rfl, hH, hb⟩
  have HH : Hid (_) := Hq.new 0 3 a0 a1 a2 a3 w1 w2 (by decide) (by decide) hH hb
  clear hH hb q0 q1 q2 q3
  generalize w1.heap.size + 1 = hb at *
  have bd0 := bdM_up0
  have bdp := bdM_put
  go_wp2_with (fail)
  refine (HH.out.take (W.up 2 0 0) (by decide)).mono ?_
  rintro e w3 ⟨sl1, rfl, _, h1, _⟩
  rw [p1s] at h1
  have HH : Hid (_) := h1.sub (fun b (hp : False) => Or.inl hp)
  clear h1
  go_wp2_with (fail)
  refine (HH.out.take (W.up 12 0 0) (by decide)).mono ?_
  rintro e w4 ⟨sl2, rfl, _, h1, _⟩
  rw [p2s] at h1
  have HH : Hid (_) := h1.sub (fun b (hp : False) => Or.inl hp)
  clear h1
  go_wp2_with (fail)
  refine HH.out.owner.mono ?_
  rintro e w5 ⟨rfl, rfl⟩
  dsimp only
  go_wp2_with (fail)
  refine HH.out.busy.mono ?_
  rintro e w5 ⟨rfl, rfl⟩
  dsimp only
  cases stale
  · cases dirty
    · have lb := HA.out.2.low HH.out.b HQ.out.2
      have p0 := lb.c0
      have p1 := lb.c1
      have p2 := lb.c2
      have p3 := lb.c3
      clear lb
      go_wp2_with (fail)
      refine (HH.out.take ⟨3, 0, 0, -1, b0, b1, b2, b3, true, false, false⟩ (by constructor <;> (dsimp only; decide))).mono ?_
      rintro e w8 ⟨sl8, rfl, hm8, h1, _⟩
      rw [p8s] at hm8 h1
      obtain ⟨b8, o8, c8, rfl, hc8, hl8, hr8⟩ := ms_1 hm8
      have k1 : w8.cell? ⟨b8, o8, none⟩ = some (.int .i64 9) := hr8 0 _ rfl
      have k2 : w8.cell? ⟨b8, o8 + 3, none⟩ = some (.int .i64 0) := hr8 3 _ rfl
      have HH : Hid (_) := h1.sub (fun b (hp : False) => Or.inl hp)
      clear h1 hm8 hr8 p0 p1 p2 p3
      unfold slV
      dsimp only
      go_wp2_with (fail)
      refine HH.out.busy.mono ?_
      rintro e w9 ⟨rfl, rfl⟩
      dsimp only
      have la := HA.out.1.low HH.out.b HQ.out.1
      have q0 := la.c0
      have q1 := la.c1
      have q2 := la.c2
      have q3 := la.c3
      have lb := HA.out.2.low HH.out.b HQ.out.2
      have p0 := lb.c0
      have p1 := lb.c1
      have p2 := lb.c2
      have p3 := lb.c3
      have ltb := lb.lt
      clear la lb
      go_upto_region 26 with fail
      have ln := lnAt_new w8 a0 a1 a2 a3
      have HH := HH.out.below (below_alloc w8 (.cells #[.int .u32 a0, .int .u32 a1, .int .u32 a2, .int .u32 a3] 24))
      have HZ : Hid (_ ∧ _) := ⟨HH, ln⟩
      clear HH ln q0 q1 q2 q3 p0 p1 p2 p3 k1 k2
      generalize World.alloc w8 _ = W9 at *
      generalize w8.heap.size = tw at *
      have HK : Hid (∀ w', Below W9.heap.size W9 w' → w'.cell? ⟨tw, 0, none⟩ = some (.int .u32 a0) ∧ w'.cell? ⟨tw, 1, none⟩ = some (.int .u32 a1) ∧ w'.cell? ⟨tw, 2, none⟩ = some (.int .u32 a2) ∧ w'.cell? ⟨tw, 3, none⟩ = some (.int .u32 a3)) := fun w' hb => by
        have := HZ.out.2.below hb
        exact ⟨this.c0, this.c1, this.c2, this.c3⟩
      have hbd : Below W9.heap.size W9 W9.drew := (Below.refl _ _).drew
      go_region_held3 (fun w' => w'.cell? ⟨tw, 0, none⟩ = some (.int .u32 a0) ∧ w'.cell? ⟨tw, 1, none⟩ = some (.int .u32 a1) ∧ w'.cell? ⟨tw, 2, none⟩ = some (.int .u32 a2) ∧ w'.cell? ⟨tw, 3, none⟩ = some (.int .u32 a3))
        (first
          | exact HK.out _ hbd
          | exact HK.out _ hbA2
          | exact HK.out _ hbB2)
        (first
          | (go_at_call 22; refine (HZ.out.1.below hbd).data.mono ?_; rintro e wA ⟨rfl, hbA⟩; have hbA2 := hbd.trans hbA)
          | (go_at_call 21; refine (sameline_self a0 a1 a2 a3 _).mono ?_; rintro e wB ⟨rfl, hbB⟩; have hbB2 := hbA2.trans (hbB.mono hbA2.size))
          | (go_at_call 14; refine (HZ.out.1.below hbB2).owner.mono ?_; rintro e wC ⟨rfl, rfl⟩))
      all_goals
        go_wp2
        go_ret
        exact ⟨rfl, HLE.out.1.trans (((HZ.out.1.below hbB2).b).mono HLE.out.2)⟩
    · have lb := HA.out.2.low HH.out.b HQ.out.2
      have p0 := lb.c0
      have p1 := lb.c1
      have p2 := lb.c2
      have p3 := lb.c3
      clear lb
      go_wp2_with (fail)
      refine (HH.out.take ⟨3, 0, 0, -1, b0, b1, b2, b3, true, true, false⟩ (by constructor <;> (dsimp only; decide))).mono ?_
      rintro e w8 ⟨sl8, rfl, hm8, h1, _⟩
      rw [p7s] at hm8 h1
      obtain ⟨b8, o8, c8, rfl, hc8, hl8, hr8⟩ := ms_1 hm8
      have k1 : w8.cell? ⟨b8, o8, none⟩ = some (.int .i64 9) := hr8 0 _ rfl
      have k2 : w8.cell? ⟨b8, o8 + 3, none⟩ = some (.int .i64 0) := hr8 3 _ rfl
      have HH : Hid (_) := h1.sub (fun b (hp : False) => Or.inl hp)
      clear h1 hm8 hr8 p0 p1 p2 p3
      unfold slV
      dsimp only
      go_wp2_with (fail)
      refine HH.out.busy.mono ?_
      rintro e w9 ⟨rfl, rfl⟩
      dsimp only
      have la := HA.out.1.low HH.out.b HQ.out.1
      have q0 := la.c0
      have q1 := la.c1
      have q2 := la.c2
      have q3 := la.c3
      have lb := HA.out.2.low HH.out.b HQ.out.2
      have p0 := lb.c0
      have p1 := lb.c1
      have p2 := lb.c2
      have p3 := lb.c3
      have ltb := lb.lt
      clear la lb
      go_upto_region 26 with fail
      have ln := lnAt_new w8 b0 b1 b2 b3
      have HH := HH.out.below (below_alloc w8 (.cells #[.int .u32 b0, .int .u32 b1, .int .u32 b2, .int .u32 b3] 24))
      have HZ : Hid (_ ∧ _) := ⟨HH, ln⟩
      clear HH ln q0 q1 q2 q3 p0 p1 p2 p3 k1 k2
      generalize World.alloc w8 _ = W9 at *
      generalize w8.heap.size = tw at *
      have HK : Hid (∀ w', Below W9.heap.size W9 w' → w'.cell? ⟨tw, 0, none⟩ = some (.int .u32 b0) ∧ w'.cell? ⟨tw, 1, none⟩ = some (.int .u32 b1) ∧ w'.cell? ⟨tw, 2, none⟩ = some (.int .u32 b2) ∧ w'.cell? ⟨tw, 3, none⟩ = some (.int .u32 b3)) := fun w' hb => by
        have := HZ.out.2.below hb
        exact ⟨this.c0, this.c1, this.c2, this.c3⟩
      have hbd : Below W9.heap.size W9 W9.drew := (Below.refl _ _).drew
      go_region_held3 (fun w' => w'.cell? ⟨tw, 0, none⟩ = some (.int .u32 b0) ∧ w'.cell? ⟨tw, 1, none⟩ = some (.int .u32 b1) ∧ w'.cell? ⟨tw, 2, none⟩ = some (.int .u32 b2) ∧ w'.cell? ⟨tw, 3, none⟩ = some (.int .u32 b3))
        (first
          | exact HK.out _ hbd
          | exact HK.out _ hbA2
          | exact HK.out _ hbB2)
        (first
          | (go_at_call 22; refine (HZ.out.1.below hbd).data.mono ?_; rintro e wA ⟨rfl, hbA⟩; have hbA2 := hbd.trans hbA)
          | (go_at_call 21; refine (sameline_self b0 b1 b2 b3 _).mono ?_; rintro e wB ⟨rfl, hbB⟩; have hbB2 := hbA2.trans (hbB.mono hbA2.size))
          | (go_at_call 14; refine (HZ.out.1.below hbB2).owner.mono ?_; rintro e wC ⟨rfl, rfl⟩))
      all_goals
        go_wp2
        go_ret
        exact ⟨rfl, HLE.out.1.trans (((HZ.out.1.below hbB2).b).mono HLE.out.2)⟩
  · go_wp2_with (fail)
    refine (HH.out.take (W.up 2 0 1) (by decide)).mono ?_
    rintro e w5 ⟨sl5, rfl, _, h1, _⟩
    rw [p3s] at h1
    have HH : Hid (_) := h1.sub (fun b (hp : False) => Or.inl hp)
    clear h1
    go_wp2_with (fail)
    refine (HH.out.takes (W.up 3 0 0) (by decide)).mono ?_
    rintro e w6 ⟨rfl, hb6⟩
    rw [p3t]
    have HH : Hid (_) := HH.out.below hb6
    clear hb6
    have lb := HA.out.2.low HH.out.b HQ.out.2
    have p0 := lb.c0
    have p1 := lb.c1
    have p2 := lb.c2
    have p3 := lb.c3
    clear lb
    go_wp2_with (fail)
    refine (HH.out.take ⟨11, 0, 0, -1, b0, b1, b2, b3, true, true, false⟩ (by constructor <;> (dsimp only; decide))).mono ?_
    rintro e w7 ⟨sl7, rfl, _, h1, _⟩
    rw [p4s] at h1
    have HH : Hid (_) := h1.sub (fun b (hp : False) => Or.inl hp)
    clear h1 p0 p1 p2 p3
    go_wp2_with (fail)
    refine (HH.out.take (W.up 12 0 1) (by decide)).mono ?_
    rintro e w7 ⟨sl7, rfl, _, h1, _⟩
    rw [p5s] at h1
    have HH : Hid (_) := h1.sub (fun b (hp : False) => Or.inl hp)
    clear h1
    cases dirty
    · have lb := HA.out.2.low HH.out.b HQ.out.2
      have p0 := lb.c0
      have p1 := lb.c1
      have p2 := lb.c2
      have p3 := lb.c3
      clear lb
      go_wp2_with (fail)
      refine (HH.out.take ⟨3, 0, 0, -1, b0, b1, b2, b3, true, false, false⟩ (by constructor <;> (dsimp only; decide))).mono ?_
      rintro e w8 ⟨sl8, rfl, hm8, h1, _⟩
      rw [p6s] at hm8 h1
      obtain ⟨b8, o8, c8, rfl, hc8, hl8, hr8⟩ := ms_1 hm8
      have k1 : w8.cell? ⟨b8, o8, none⟩ = some (.int .i64 9) := hr8 0 _ rfl
      have k2 : w8.cell? ⟨b8, o8 + 3, none⟩ = some (.int .i64 0) := hr8 3 _ rfl
      have HH : Hid (_) := h1.sub (fun b (hp : False) => Or.inl hp)
      clear h1 hm8 hr8 p0 p1 p2 p3
      unfold slV
      dsimp only
      go_wp2_with (fail)
      refine HH.out.busy.mono ?_
      rintro e w9 ⟨rfl, rfl⟩
      dsimp only
      have la := HA.out.1.low HH.out.b HQ.out.1
      have q0 := la.c0
      have q1 := la.c1
      have q2 := la.c2
      have q3 := la.c3
      have lb := HA.out.2.low HH.out.b HQ.out.2
      have p0 := lb.c0
      have p1 := lb.c1
      have p2 := lb.c2
      have p3 := lb.c3
      have ltb := lb.lt
      clear la lb
      go_upto_region 26 with fail
      have ln := lnAt_new w8 a0 a1 a2 a3
      have HH := HH.out.below (below_alloc w8 (.cells #[.int .u32 a0, .int .u32 a1, .int .u32 a2, .int .u32 a3] 24))
      have HZ : Hid (_ ∧ _) := ⟨HH, ln⟩
      clear HH ln q0 q1 q2 q3 p0 p1 p2 p3 k1 k2
      generalize World.alloc w8 _ = W9 at *
      generalize w8.heap.size = tw at *
      have HK : Hid (∀ w', Below W9.heap.size W9 w' → w'.cell? ⟨tw, 0, none⟩ = some (.int .u32 a0) ∧ w'.cell? ⟨tw, 1, none⟩ = some (.int .u32 a1) ∧ w'.cell? ⟨tw, 2, none⟩ = some (.int .u32 a2) ∧ w'.cell? ⟨tw, 3, none⟩ = some (.int .u32 a3)) := fun w' hb => by
        have := HZ.out.2.below hb
        exact ⟨this.c0, this.c1, this.c2, this.c3⟩
      have hbd : Below W9.heap.size W9 W9.drew := (Below.refl _ _).drew
      go_region_held3 (fun w' => w'.cell? ⟨tw, 0, none⟩ = some (.int .u32 a0) ∧ w'.cell? ⟨tw, 1, none⟩ = some (.int .u32 a1) ∧ w'.cell? ⟨tw, 2, none⟩ = some (.int .u32 a2) ∧ w'.cell? ⟨tw, 3, none⟩ = some (.int .u32 a3))
        (first
          | exact HK.out _ hbd
          | exact HK.out _ hbA2
          | exact HK.out _ hbB2)
        (first
          | (go_at_call 22; refine (HZ.out.1.below hbd).data.mono ?_; rintro e wA ⟨rfl, hbA⟩; have hbA2 := hbd.trans hbA)
          | (go_at_call 21; refine (sameline_self a0 a1 a2 a3 _).mono ?_; rintro e wB ⟨rfl, hbB⟩; have hbB2 := hbA2.trans (hbB.mono hbA2.size))
          | (go_at_call 14; refine (HZ.out.1.below hbB2).owner.mono ?_; rintro e wC ⟨rfl, rfl⟩))
      all_goals
        go_wp2
        go_ret
        exact ⟨rfl, HLE.out.1.trans (((HZ.out.1.below hbB2).b).mono HLE.out.2)⟩
    · have lb := HA.out.2.low HH.out.b HQ.out.2
      have p0 := lb.c0
      have p1 := lb.c1
      have p2 := lb.c2
      have p3 := lb.c3
      clear lb
      go_wp2_with (fail)
      refine (HH.out.take ⟨3, 0, 0, -1, b0, b1, b2, b3, true, true, false⟩ (by constructor <;> (dsimp only; decide))).mono ?_
      rintro e w8 ⟨sl8, rfl, hm8, h1, _⟩
      rw [p6s] at hm8 h1
      obtain ⟨b8, o8, c8, rfl, hc8, hl8, hr8⟩ := ms_1 hm8
      have k1 : w8.cell? ⟨b8, o8, none⟩ = some (.int .i64 9) := hr8 0 _ rfl
      have k2 : w8.cell? ⟨b8, o8 + 3, none⟩ = some (.int .i64 0) := hr8 3 _ rfl
      have HH : Hid (_) := h1.sub (fun b (hp : False) => Or.inl hp)
      clear h1 hm8 hr8 p0 p1 p2 p3
      unfold slV
      dsimp only
      go_wp2_with (fail)
      refine HH.out.busy.mono ?_
      rintro e w9 ⟨rfl, rfl⟩
      dsimp only
      have la := HA.out.1.low HH.out.b HQ.out.1
      have q0 := la.c0
      have q1 := la.c1
      have q2 := la.c2
      have q3 := la.c3
      have lb := HA.out.2.low HH.out.b HQ.out.2
      have p0 := lb.c0
      have p1 := lb.c1
      have p2 := lb.c2
      have p3 := lb.c3
      have ltb := lb.lt
      clear la lb
      go_upto_region 26 with fail
      have ln := lnAt_new w8 a0 a1 a2 a3
      have HH := HH.out.below (below_alloc w8 (.cells #[.int .u32 a0, .int .u32 a1, .int .u32 a2, .int .u32 a3] 24))
      have HZ : Hid (_ ∧ _) := ⟨HH, ln⟩
      clear HH ln q0 q1 q2 q3 p0 p1 p2 p3 k1 k2
      generalize World.alloc w8 _ = W9 at *
      generalize w8.heap.size = tw at *
      have HK : Hid (∀ w', Below W9.heap.size W9 w' → w'.cell? ⟨tw, 0, none⟩ = some (.int .u32 a0) ∧ w'.cell? ⟨tw, 1, none⟩ = some (.int .u32 a1) ∧ w'.cell? ⟨tw, 2, none⟩ = some (.int .u32 a2) ∧ w'.cell? ⟨tw, 3, none⟩ = some (.int .u32 a3)) := fun w' hb => by
        have := HZ.out.2.below hb
        exact ⟨this.c0, this.c1, this.c2, this.c3⟩
      have hbd : Below W9.heap.size W9 W9.drew := (Below.refl _ _).drew
      go_region_held3 (fun w' => w'.cell? ⟨tw, 0, none⟩ = some (.int .u32 a0) ∧ w'.cell? ⟨tw, 1, none⟩ = some (.int .u32 a1) ∧ w'.cell? ⟨tw, 2, none⟩ = some (.int .u32 a2) ∧ w'.cell? ⟨tw, 3, none⟩ = some (.int .u32 a3))
        (first
          | exact HK.out _ hbd
          | exact HK.out _ hbA2
          | exact HK.out _ hbB2)
        (first
          | (go_at_call 22; refine (HZ.out.1.below hbd).data.mono ?_; rintro e wA ⟨rfl, hbA⟩; have hbA2 := hbd.trans hbA)
          | (go_at_call 21; refine (sameline_self a0 a1 a2 a3 _).mono ?_; rintro e wB ⟨rfl, hbB⟩; have hbB2 := hbA2.trans (hbB.mono hbA2.size))
          | (go_at_call 14; refine (HZ.out.1.below hbB2).owner.mono ?_; rintro e wC ⟨rfl, rfl⟩))
      all_goals
        go_wp2
        go_ret
        exact ⟨rfl, HLE.out.1.trans (((HZ.out.1.below hbB2).b).mono HLE.out.2)⟩
end Go.Proofs.Ytadkpelcbnljbaa
