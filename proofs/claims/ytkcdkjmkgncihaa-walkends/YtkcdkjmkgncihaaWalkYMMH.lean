/- WalkEnds, way MMH. -/
import Derived.Test.YtkcdkjmkgncihaaWalkW
import Derived.Deep.CutRange
import Derived.Deep.CutBlock
namespace Go.Proofs.Ytkcdkjmkgncihaa
open Go.ChangeShapes Go.WideShapes Go.ChangeAt Go.RowKit
set_option linter.unusedVariables false
set_option linter.unusedSimpArgs false

set_option maxRecDepth 100000 in
set_option maxHeartbeats 6400000 in
theorem ends_MMH (satp mode va acc : Int) (s0 : 0 ≤ satp) (s1 : satp < 4294967296) (v0 : 0 ≤ va) (v1 : va < 4294967296) (a : Option Addr) (n cap : Nat) (u : Nat → Int) (w : World) (hn : n ≤ 64) (hn0 : 0 < n) (hwd : Wd a n cap u w) (hu : ∀ j, 0 ≤ u j ∧ u j < 4294967296)
    (A1 : Int) (q1 : Nat) (hq1 : q1 < n) (hA0 : 0 ≤ A1) (hA1 : A1 < 4294967296) (hA2 : A1 / 4 = q1) (hA3 : A1 % 4 = 0) (U1 : Int) (hU1 : u q1 = U1) (hon : W.onB satp mode = true)
    (A2 : Int) (q2 : Nat) (hq2 : q2 < n) (hB0 : 0 ≤ A2) (hB1 : A2 < 4294967296) (hB2 : A2 / 4 = q2) (hB3 : A2 % 4 = 0) (U2 : Int) (hU2 : u q2 = U2)
    (h0 : W.nextS satp mode va acc (4 * n) 0 (fun _ => 0) (fun _ => 0) = W.moreS A1)
    (h1 : W.nextS satp mode va acc (4 * n) 1 (fun _ => A1) (fun _ => U1) = W.moreS A2)
    (pa : Int) (hp0 : 0 ≤ pa) (h2 : W.nextS satp mode va acc (4 * n) 2 (W.two A1 A2) (W.two U1 U2) = W.hereS pa) (hpa : pa % 4096 = va % 4096) (hmay : W.may U2 acc mode = true) :
    Calls Try.prog 3 #[.slice a n cap, .int .u32 satp, .int .i64 mode, .int .u32 va, .int .i64 acc] w fun x w' => x = .returned (.bool true) ∧ Below w.heap.size w w' := by
  obtain ⟨i0, hi, hx⟩ := Option.map_eq_some_iff.1 (show (Try.prog.info? 32).map (fun i => (i.zero, i.size, i.bytes)) = some (some (.agg #[.int .u32 0, .int .u32 0, .int .u32 0, .int .i64 0, .bool false]), 5, 32) by kernel_rfl)
  simp only [Prod.mk.injEq] at hx
  obtain ⟨hz0, hz1, hz2⟩ := hx
  have hen := fun w => entries_any satp mode s0 s1 w
  rw [hon, cond_true] at hen
  replace h0 : Hid _ := h0
  replace h1 : Hid _ := h1
  replace h2 : Hid _ := h2
  have hA4 : A1.tdiv 4 = q1 := by rw [Int.tdiv_eq_ediv_of_nonneg hA0]; exact hA2
  have hA5 : A1.tmod 4 = 0 := by rw [Int.tmod_eq_emod_of_nonneg hA0]; exact hA3
  have hA6 : (q1 : Int) < n := by omega
  have hA7 : IntKind.u32.wrap (q1 : Int) = q1 := by rw [IntKind.wrap_u32']; omega
  have hA8 : IntKind.i64.wrap (q1 : Int) = q1 := IntWalk.i64_in _ (by omega)
  have hu1 := hu q1
  rw [hU1] at hu1
  have hB4 : A2.tdiv 4 = q2 := by rw [Int.tdiv_eq_ediv_of_nonneg hB0]; exact hB2
  have hB5 : A2.tmod 4 = 0 := by rw [Int.tmod_eq_emod_of_nonneg hB0]; exact hB3
  have hB6 : (q2 : Int) < n := by omega
  have hB7 : IntKind.u32.wrap (q2 : Int) = q2 := by rw [IntKind.wrap_u32']; omega
  have hB8 : IntKind.i64.wrap (q2 : Int) = q2 := IntWalk.i64_in _ (by omega)
  have hu2 := hu q2
  rw [hU2] at hu2
  clear hu
  go_enter Try.func3, Try.ntmps3
  go_wp2_with (first
    | (go_at_call 7; refine (first9_any _).mono ?_; rintro x w1 ⟨rfl, hb1⟩)
    | (go_at_call 8; refine (hwd _ hb1).mono ?_; rintro x w2 ⟨am, cm, rfl, hmw, hb2⟩; replace hb2 := bnext hb1 hb2; obtain ⟨g, rfl, gl, gc⟩ := hmw hn0; clear hmw hb1 hwd))
  have d1 := gc q1 hq1
  rw [hU1] at d1
  have d2 := gc q2 hq2
  rw [hU2] at d2
  clear gc
  have hbW : Below w2.heap.size w2 w2 := Below.refl _ _
  refine wp_loop_rounds 7 ?_
  rw [rounds_succ]
  go_upto_block 1 with fail
  go_cut [13, 14] from 32 to 400 (fun v mk wx => mk = .int .i64 0 ∧ wx.ownsRow w2.heap.size 32 5 v 1 (ptL ⟨A1, U1, 0, 0, false⟩) ∧ Below w2.heap.size w2 wx)
  case first =>
    go_wp2_with (fail)
    refine (next_nil satp mode va acc (4 * n) s0 s1 v0 v1 _ _ _ _ h0.out).mono ?_
    unfold W.moreS
    dsimp only
    rintro x w3 ⟨rfl, hb⟩
    have hbm := bnext hbW hb
    clear hb h0 hbW
    go_upto_block 2 with fail
    have os := Sp.new 3 0 A1 0 0 w3
    replace hbm := bnew hbm (.cells #[.int .i64 3, .int .u32 0, .int .u32 A1, .int .u32 0, .int .u32 0] 28)
    generalize World.alloc w3 _ = W3 at *
    obtain ⟨x0, x1, x2, x3, x4, xz⟩ := os.cells
    go_wp2_with (go_at_call 10; refine (hen _).mono ?_; rintro e w' ⟨rfl, kk, rfl⟩)
    replace os := os.below (below_drewN (Below.refl _ _) kk)
    replace hbm := below_drewN hbm kk
    clear x0 x1 x2 x3 x4 xz
    generalize World.drewN W3 kk = W4 at *
    have hown := World.ownsRow_nil W4 w2.heap.size 32 5
    have c1 := (hbm.cell (p := ⟨g, q1, none⟩) gl).trans d1
    obtain ⟨x0, x1, x2, x3, x4, xz⟩ := os.cells
    have hsz := hbm.size
    have hpl := ptL_one ⟨A1, U1, 0, 0, false⟩
    go_region_held3 (fun w' => w'.cell? ⟨w3.heap.size, 2, none⟩ = some (.int .u32 A1) ∧ w'.cell? ⟨g, q1, none⟩ = some (.int .u32 U1)) (first | (refine ⟨?_, ?_⟩ <;> assumption) | go_keep)
      (first
        | ((refine step_own _ _ _ _ _ w2.heap.size 32 i0 (.agg #[.int .u32 0, .int .u32 0, .int .u32 0, .int .i64 0, .bool false]) 5 32 Try.underlying26 hi hz0 hz1 hz2 rfl (by decide) (.slice none 0 0) 0 [] ?a1 ?a3 ⟨W4.heap.size, 0, none⟩ 1 1 (ptL ⟨A1, U1, 0, 0, false⟩) ?a2 rfl ?a4 hpl (by decide) (by decide) ?a6 ?_
            case a1 => rfl
            case a2 => rfl
            case a3 => exact World.ownsRow.alloc (w := W4.drew) hown _
            case a4 => exact World.news_of_block (cs := #[.int .u32 A1, .int .u32 U1, .int .u32 0, .int .i64 0, .bool false]) (heap_alloc_new W4.drew _)
            case a6 => simp; omega
            intro v' w6 hown6 hg6
            have y1 := cell_grown (w := W4.drew) _ hg6 x2 os.lt (by simp [Value.ownBlock])
            have y2 := cell_grown (w := W4.drew) _ hg6 c1 (Nat.lt_of_lt_of_le gl hsz) (by simp [Value.ownBlock])
            have hb6 : Below w2.heap.size w2 w6 := (Below.alloc (w := W4.drew) hbm.drew hsz _).grown hg6 (by simp; omega) (by intro k hk; cases hk)))
        | fail)
    all_goals
      go_wp2
      go_meet
      case rel => exact ⟨rfl, hown6, hb6⟩
  case rest =>
    clear hbW h0
    obtain ⟨rfl, hown, hbW⟩ := hcut
    obtain ⟨L, cl, rfl, hLb, hle⟩ := own_le1 ⟨A1, U1, 0, 0, false⟩ hown hu1
    go_wp2
    rw [rounds_succ]
    go_upto_block 1 with fail
    go_cut [13, 14] from 32 to 400 (fun v mk wx => mk = .int .i64 0 ∧ wx.ownsRow w2.heap.size 32 5 v 2 (ptL ⟨A1, U1, 0, 0, false⟩ ++ ptL ⟨A2, U2, 0, 0, false⟩) ∧ Below w2.heap.size w2 wx)
    case first =>
      go_wp2_with (fail)
      refine (next_le1 satp mode va acc (4 * n) s0 s1 v0 v1 _ _ _ _ hle _ h1.out).mono ?_
      unfold W.moreS
      dsimp only
      rintro x w3 ⟨rfl, hb⟩
      have hbm := bnext hbW hb
      replace hown := own_below hown hb
      replace hle := hle.below hb
      clear hb h1 hbW
      go_upto_block 2 with fail
      have os := Sp.new 3 0 A2 0 0 w3
      replace hbm := bnew hbm (.cells #[.int .i64 3, .int .u32 0, .int .u32 A2, .int .u32 0, .int .u32 0] 28)
      replace hown := hown.alloc (.cells #[.int .i64 3, .int .u32 0, .int .u32 A2, .int .u32 0, .int .u32 0] 28)
      have hlL := hle.lt
      generalize World.alloc w3 _ = W3 at *
      obtain ⟨x0, x1, x2, x3, x4, xz⟩ := os.cells
      go_wp2_with (go_at_call 10; refine (hen _).mono ?_; rintro e w' ⟨rfl, kk, rfl⟩)
      replace os := os.below (below_drewN (Below.refl _ _) kk)
      replace hbm := below_drewN hbm kk
      replace hown := own_below hown (below_drewN (Below.refl _ _) kk)
      clear x0 x1 x2 x3 x4 xz
      generalize World.drewN W3 kk = W4 at *
      have c1 := (hbm.cell (p := ⟨g, q2, none⟩) gl).trans d2
      obtain ⟨x0, x1, x2, x3, x4, xz⟩ := os.cells
      have hsz := hbm.size
      have hpl := ptL_one ⟨A2, U2, 0, 0, false⟩
      go_region_held3 (fun w' => w'.cell? ⟨w3.heap.size, 2, none⟩ = some (.int .u32 A2) ∧ w'.cell? ⟨g, q2, none⟩ = some (.int .u32 U2)) (first | (refine ⟨?_, ?_⟩ <;> assumption) | go_keep)
        (first
          | ((refine step_own _ _ _ _ _ w2.heap.size 32 i0 (.agg #[.int .u32 0, .int .u32 0, .int .u32 0, .int .i64 0, .bool false]) 5 32 Try.underlying26 hi hz0 hz1 hz2 rfl (by decide) (.slice (some ⟨L, 0, none⟩) 1 cl) 1 (ptL ⟨A1, U1, 0, 0, false⟩) ?a1 ?a3 ⟨W4.heap.size, 0, none⟩ 1 1 (ptL ⟨A2, U2, 0, 0, false⟩) ?a2 rfl ?a4 hpl (by decide) (by decide) ?a6 ?_
              case a1 => rfl
              case a2 => rfl
              case a3 => exact World.ownsRow.alloc (w := W4.drew) hown _
              case a4 => exact World.news_of_block (cs := #[.int .u32 A2, .int .u32 U2, .int .u32 0, .int .i64 0, .bool false]) (heap_alloc_new W4.drew _)
              case a6 => simp; omega
              intro v' w6 hown6 hg6
              have y1 := cell_grown (w := W4.drew) _ hg6 x2 os.lt (by simp only [Value.ownBlock]; intro h; injection h with h; omega)
              have y2 := cell_grown (w := W4.drew) _ hg6 c1 (Nat.lt_of_lt_of_le gl hsz) (by simp only [Value.ownBlock]; intro h; injection h with h; omega)
              have hb6 : Below w2.heap.size w2 w6 := (Below.alloc (w := W4.drew) hbm.drew hsz _).grown hg6 (by simp; omega) (by intro k hk; simp only [Value.ownBlock, Option.some.injEq] at hk; omega)))
          | fail)
      all_goals
        go_wp2
        go_meet
        case rel => exact ⟨rfl, hown6, hb6⟩
    case rest =>
      clear hbW h1 hown hle
      obtain ⟨rfl, hown, hbW⟩ := hcut
      obtain ⟨L2, cl2, rfl, hLb, hle⟩ := own_le2 ⟨A1, U1, 0, 0, false⟩ ⟨A2, U2, 0, 0, false⟩ hown hu1 hu2
      go_wp2
      rw [rounds_succ]
      go_wp2_with (fail)
      refine (next_le2 satp mode va acc (4 * n) s0 s1 v0 v1 _ _ _ _ _ hle _ h2.out).mono ?_
      unfold W.hereS
      dsimp only
      rintro x w5 ⟨rfl, hb⟩
      have hbm := bnext hbW hb
      replace hle := hle.below hb
      clear hb h2 hbW
      have hpt : (pa.tmod 4096 != va.tmod 4096) = false := by rw [Int.tmod_eq_emod_of_nonneg hp0, Int.tmod_eq_emod_of_nonneg v0, hpa]; simp
      have hpu : (pa % 4096 != va % 4096) = false := by rw [hpa]; simp
      clear hpa
      obtain ⟨k0, k1, k2, k3, k4⟩ := hle.last2
      dsimp only at k0 k1 k2 k3 k4
      have hlL := hle.lt
      go_wp2_with (go_at_call 12; refine (may_any _ _ _ _).mono ?_; rintro e w' ⟨rfl, rfl⟩)
      go_ret
      exact ⟨rfl, bnext hb2 (bnew hbm _)⟩
end Go.Proofs.Ytkcdkjmkgncihaa
