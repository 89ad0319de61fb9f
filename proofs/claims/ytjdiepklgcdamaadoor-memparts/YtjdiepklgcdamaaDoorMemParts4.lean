/- MemParts, walked. -/
import Derived.Test.YtjdiepklgcdamaaDoorMemO
import Derived.Test.YtjdiepklgcdamaaDoorMemQ
import Derived.BigQuiet
namespace Go.Proofs.YtjdiepklgcdamaaDoor
open Go.ChangeShapes Go.WideShapes Go.ChangeAt Go.RowKit
set_option linter.unusedVariables false
set_option linter.unusedSimpArgs false

theorem lineOf_b4 (A : Nat) (w : World) (hA : A < 4294967296) : Calls Tryd.prog 30 #[.int .u32 (A : Int)] w fun e w' => e = .returned (.int .i64 ((A / 16 : Nat) : Int)) ∧ Below w.heap.size w w' :=
  (lineOf_any A w hA).mono fun e w' ⟨x, y⟩ => ⟨x, y ▸ Below.refl _ _⟩

set_option maxRecDepth 100000 in
set_option maxHeartbeats 6400000 in
theorem memParts_4 (L : Nat → Int) (hL : ∀ k, 0 ≤ L k ∧ L k < 4294967296) (A : Nat) (s v : Int) (v0 : 0 ≤ v) (v1 : v < 4294967296) (hA : A < 4294967296) (hs : s = 4) (hal : W.al A s = true) (w : World) : Calls Tryd.prog 4 #[lineV L, .int .u32 (A : Int), .int .i64 s, .int .u32 v] w fun e w' => e = .returned (.bool true) ∧ Below w.heap.size w w' := by
  have hsH : Hid (s = 4) := hs
  clear hs
  have b1 := (Below.refl w.heap.size w).alloc (Nat.le_refl _) (.cells #[.int .u32 (L 0), .int .u32 (L 1), .int .u32 (L 2), .int .u32 (L 3)] 38)
  have q := Ln.new L w
  rw [show lineV L = .agg #[.int .u32 (L 0), .int .u32 (L 1), .int .u32 (L 2), .int .u32 (L 3)] from rfl]
  go_enter Tryd.func4, Tryd.ntmps4
  go_wp2_with (go_at_call 8; refine (first7_any _).mono ?_; rintro e w1 ⟨rfl, hw1⟩; replace q := q.below hw1; replace b1 := b1.trans (hw1.mono b1.size); clear hw1; obtain ⟨c0, c1, c2, c3, cz⟩ := q.cells)
  refine (part_any L _ _ _ hA).mono ?_
  rintro e w2 ⟨rfl, hb⟩
  replace q := q.below hb
  replace b1 := b1.trans (hb.mono b1.size)
  clear hb c0 c1 c2 c3 cz
  obtain ⟨c0, c1, c2, c3, cz⟩ := q.cells
  go_wp2_with fail
  refine (with_any L _ _ _ _ hA).mono ?_
  have hMr := wl_rg hL A s v
  have rp := rpart_any L hL A s
  have rq := rwith_any L A s v v0 v1
  have hX : Hid (∀ j, j < 16 → W.al A s = true → W.part (W.wl L A s v) j 1 = if A % 16 ≤ j ∧ (j : Int) < (A % 16 : Nat) + s then v / W.pw (j - A % 16) % 256 else W.part L j 1) := fun j hj ha => part_wl L hL A j s v v0 v1 ha hj
  have hY : Hid (W.al A s = false → W.wl L A s v = L ∧ W.part L A s = 0) := fun ha => ⟨by funext j; simp [W.wl, ha], by simp [W.part, ha]⟩
  generalize W.wl L A s v = M at *
  generalize W.part L A s = P at *
  have rp' : Hid (∀ w : World, A < 4294967296 → Calls Tryd.prog 28 #[lineV L, .int .u32 (A : Int), .int .i64 s] w fun e w' => e = .returned (.int .u32 P) ∧ Below w.heap.size w w') := rp
  have rq' : Hid (∀ w : World, A < 4294967296 → Calls Tryd.prog 29 #[lineV L, .int .u32 (A : Int), .int .i64 s, .int .u32 v] w fun e w' => e = .returned (lineV M) ∧ Below w.heap.size w w') := rq
  clear rp rq
  unfold lineV
  rintro e w3 ⟨rfl, hb⟩
  replace q := q.below hb
  replace b1 := b1.trans (hb.mono b1.size)
  clear hb c0 c1 c2 c3 cz
  go_wp2_with fail
  have q2 := Ln.new M w3
  replace q := q.alloc (.cells #[.int .u32 (M 0), .int .u32 (M 1), .int .u32 (M 2), .int .u32 (M 3)] 38)
  replace b1 := b1.alloc b1.size (.cells #[.int .u32 (M 0), .int .u32 (M 1), .int .u32 (M 2), .int .u32 (M 3)] 38)
  generalize World.alloc w3 _ = w4 at *
  generalize w3.heap.size = g3 at *
  have u1 : IntKind.u32.wrap ((A : Int) / 16) = (A : Int) / 16 := by rw [IntKind.wrap_u32]; omega
  have u2 : IntKind.i64.wrap ((A : Int) / 16) = (A : Int) / 16 := by rw [IntKind.wrap_i64]; omega
  have hS0 := SL.of b1.drew (q.below (Below.refl _ _).drew) (q2.below (Below.refl _ _).drew)
  clear q q2 b1
  go_region_held3 (fun w' => Below w.heap.size w w' ∧ w.heap.size < w'.heap.size ∧ g3 < w'.heap.size ∧ w'.cell? ⟨w.heap.size, 0, none⟩ = some (.int .u32 (L 0)) ∧ w'.cell? ⟨w.heap.size, 1, none⟩ = some (.int .u32 (L 1)) ∧ w'.cell? ⟨w.heap.size, 2, none⟩ = some (.int .u32 (L 2)) ∧ w'.cell? ⟨w.heap.size, 3, none⟩ = some (.int .u32 (L 3)) ∧ w'.cell? ⟨g3, 0, none⟩ = some (.int .u32 (M 0)) ∧ w'.cell? ⟨g3, 1, none⟩ = some (.int .u32 (M 1)) ∧ w'.cell? ⟨g3, 2, none⟩ = some (.int .u32 (M 2)) ∧ w'.cell? ⟨g3, 3, none⟩ = some (.int .u32 (M 3)))
      (first
        | with_reducible assumption
        | (with_reducible refine SL.below (a := w.heap.size) (b := g3) (L := L) (M := M) (w := w) ?_ hm; with_reducible assumption)
        | (refine SL.below (a := w.heap.size) (b := g3) (L := L) (M := M) (w := w) ?_ hm; assumption))
      (first
        | (go_at_call 28; refine (rp'.out _ hA).mono ?_; rintro e w' ⟨rfl, hm⟩)
        | (go_at_call 29; refine (rq'.out _ hA).mono ?_; unfold lineV; rintro e w' ⟨rfl, hm⟩)
        | (go_at_call 23; refine (sameLine_yes M _).mono ?_; rintro e w' ⟨rfl, hm⟩)
        | (go_at_call 30; refine (lineOf_b4 A _ hA).mono ?_; rintro e w' ⟨rfl, hm⟩))
  all_goals
    have hS : Below w.heap.size w w' ∧ w.heap.size < w'.heap.size ∧ g3 < w'.heap.size ∧ w'.cell? ⟨w.heap.size, 0, none⟩ = some (.int .u32 (L 0)) ∧ w'.cell? ⟨w.heap.size, 1, none⟩ = some (.int .u32 (L 1)) ∧ w'.cell? ⟨w.heap.size, 2, none⟩ = some (.int .u32 (L 2)) ∧ w'.cell? ⟨w.heap.size, 3, none⟩ = some (.int .u32 (L 3)) ∧ w'.cell? ⟨g3, 0, none⟩ = some (.int .u32 (M 0)) ∧ w'.cell? ⟨g3, 1, none⟩ = some (.int .u32 (M 1)) ∧ w'.cell? ⟨g3, 2, none⟩ = some (.int .u32 (M 2)) ∧ w'.cell? ⟨g3, 3, none⟩ = some (.int .u32 (M 3)) := by assumption
    obtain ⟨hB, gl, gm, c0, c1, c2, c3, d0, d1, d2, d3⟩ := hS
    clear hS0 hL hMr u1 u2
    have hX' : Hid (∀ j, j < 16 → W.part M j 1 = if A % 16 ≤ j ∧ (j : Int) < (A % 16 : Nat) + s then v / W.pw (j - A % 16) % 256 else W.part L j 1) := fun j hj => hX.out j hj hal
    clear hX hY rp' rq'
    have h2 : (A : Int) % (max s 1) = 0 := by
      rw [hsH.out] at hal ⊢
      rw [show max (4 : Int) 1 = 4 from rfl]
      first
        | omega
        | (simp only [W.al] at hal; simpa using hal)
    obtain ⟨T, hT⟩ : ∃ T, A % 16 = T := ⟨_, rfl⟩
    have hT1 : (A : Int) % 16 = T := by omega
    have hT2 : T < 16 := by omega
    rw [hT] at hX'
    have hs := hsH.out
    subst hs
    clear hal
    go_wp2
    go_loopw [13] (fun i wr => ∃ j : Nat, j ≤ 16 ∧ i = .int .i64 j ∧ Below w.heap.size w wr ∧ w.heap.size < wr.heap.size ∧ g3 < wr.heap.size ∧ wr.cell? ⟨w.heap.size, 0, none⟩ = some (.int .u32 (L 0)) ∧ wr.cell? ⟨w.heap.size, 1, none⟩ = some (.int .u32 (L 1)) ∧ wr.cell? ⟨w.heap.size, 2, none⟩ = some (.int .u32 (L 2)) ∧ wr.cell? ⟨w.heap.size, 3, none⟩ = some (.int .u32 (L 3)) ∧ wr.cell? ⟨g3, 0, none⟩ = some (.int .u32 (M 0)) ∧ wr.cell? ⟨g3, 1, none⟩ = some (.int .u32 (M 1)) ∧ wr.cell? ⟨g3, 2, none⟩ = some (.int .u32 (M 2)) ∧ wr.cell? ⟨g3, 3, none⟩ = some (.int .u32 (M 3))) (fun i _ => 16 - (intOf i).toNat)
    case atStart => exact ⟨0, by omega, rfl, hB, gl, gm, c0, c1, c2, c3, d0, d1, d2, d3⟩
    case round =>
      clear hB gl gm c0 c1 c2 c3 d0 d1 d2 d3
      obtain ⟨j, hj, rfl, hB, gl, gm, c0, c1, c2, c3, d0, d1, d2, d3⟩ := hrel
      by_cases hlt : j < 16
      · have hx := hX'.out j hlt
        have hju : IntKind.u32.wrap (j : Int) = j := by rw [IntKind.wrap_u32]; omega
        by_cases ht : T ≤ j
        · have hn : (T : Int) ≤ j := by omega
          by_cases ht2 : (j : Int) < T + 4
          · have hd : j - T = 0 ∨ j - T = 1 ∨ j - T = 2 ∨ j - T = 3 := by omega
            rcases hd with hd | hd | hd | hd
            · have hx2 : W.part M j 1 = v % 256 := by rw [hx, if_pos (by omega), hd]; simp [W.pw]
              clear hx
              have hdz : (j : Int) - T = 0 := by omega
              have hand : bits .and .u32 (v) 255 = v % 256 := W.low_and (v) 8 (by decide) (by omega) (by omega)
              have hx3 : Hid (W.part M j 1 = v % 256) := hx2
              clear hx2
              have e1 : IntKind.i64.wrap (A : Int) = A := by rw [IntKind.wrap_i64]; omega
              have e2 : (A : Int).tmod 16 = T := by rw [Int.tmod_eq_emod_of_nonneg (by omega)]; exact hT1
              have e3 : IntKind.i64.wrap 0 = 0 := by kernel_rfl
              have e4 : IntKind.i64.wrap 0 = 0 := by kernel_rfl
              have e5 : IntKind.u64.wrap 0 = 0 := by kernel_rfl
              go_wp2_with fail
              refine wp_region_quiet (C := fun w' => Below w.heap.size w w' ∧ w.heap.size < w'.heap.size ∧ g3 < w'.heap.size ∧ w'.cell? ⟨w.heap.size, 0, none⟩ = some (.int .u32 (L 0)) ∧ w'.cell? ⟨w.heap.size, 1, none⟩ = some (.int .u32 (L 1)) ∧ w'.cell? ⟨w.heap.size, 2, none⟩ = some (.int .u32 (L 2)) ∧ w'.cell? ⟨w.heap.size, 3, none⟩ = some (.int .u32 (L 3)) ∧ w'.cell? ⟨g3, 0, none⟩ = some (.int .u32 (M 0)) ∧ w'.cell? ⟨g3, 1, none⟩ = some (.int .u32 (M 1)) ∧ w'.cell? ⟨g3, 2, none⟩ = some (.int .u32 (M 2)) ∧ w'.cell? ⟨g3, 3, none⟩ = some (.int .u32 (M 3))) (by kernel_rfl) (by kernel_rfl) ⟨hB.drew, gl, gm, c0, c1, c2, c3, d0, d1, d2, d3⟩ ?_
              clear hB gl gm c0 c1 c2 c3 d0 d1 d2 d3
              simp only [List.toList_toArray]
              repeat (first
                | go_big_quiet_skip
                | (go_big_quiet_want; go_big_quiet_op; go_big_quiet_on)
                | (go_big_quiet_want
                   apply Exists.intro
                   refine ⟨fun wq hw => ?_, ?_⟩
                   · (try dsimp only at hw)
                     go_simp
                     first
                       | rfl
                       | (go_at_call_of 26 (Value.agg #[Value.int IntKind.u32 (M 0), Value.int IntKind.u32 (M 1), Value.int IntKind.u32 (M 2), Value.int IntKind.u32 (M 3)]); refine (part_any M j 1 _ (by omega)).mono ?_; rw [hx3.out]; rintro e w5 ⟨rfl, hm⟩; exact ⟨rfl, SL.below (a := w.heap.size) (b := g3) (L := L) (M := M) (w := w) hw hm⟩)
                   (try simp only [Act.put, List.setIfInBounds_toArray, List.set_cons_zero, List.set_cons_succ])
                   go_big_quiet_on))
              refine wpQuiet_nil ?_
              intro w9 hS9
              go_wp2
              go_roundw
              case rel => exact ⟨j + 1, by omega, by go_num, hS9⟩
              case measure => simp [intOf]; omega
            · have hx2 : W.part M j 1 = v / 256 % 256 := by rw [hx, if_pos (by omega), hd]; simp [W.pw]
              clear hx
              have hdz : (j : Int) - T = 1 := by omega
              have hand : bits .and .u32 (v / 256) 255 = v / 256 % 256 := W.low_and (v / 256) 8 (by decide) (by omega) (by omega)
              have hx3 : Hid (W.part M j 1 = v / 256 % 256) := hx2
              clear hx2
              have e1 : IntKind.i64.wrap (A : Int) = A := by rw [IntKind.wrap_i64]; omega
              have e2 : (A : Int).tmod 16 = T := by rw [Int.tmod_eq_emod_of_nonneg (by omega)]; exact hT1
              have e3 : IntKind.i64.wrap 1 = 1 := by kernel_rfl
              have e4 : IntKind.i64.wrap 8 = 8 := by kernel_rfl
              have e5 : IntKind.u64.wrap 8 = 8 := by kernel_rfl
              go_wp2_with fail
              refine wp_region_quiet (C := fun w' => Below w.heap.size w w' ∧ w.heap.size < w'.heap.size ∧ g3 < w'.heap.size ∧ w'.cell? ⟨w.heap.size, 0, none⟩ = some (.int .u32 (L 0)) ∧ w'.cell? ⟨w.heap.size, 1, none⟩ = some (.int .u32 (L 1)) ∧ w'.cell? ⟨w.heap.size, 2, none⟩ = some (.int .u32 (L 2)) ∧ w'.cell? ⟨w.heap.size, 3, none⟩ = some (.int .u32 (L 3)) ∧ w'.cell? ⟨g3, 0, none⟩ = some (.int .u32 (M 0)) ∧ w'.cell? ⟨g3, 1, none⟩ = some (.int .u32 (M 1)) ∧ w'.cell? ⟨g3, 2, none⟩ = some (.int .u32 (M 2)) ∧ w'.cell? ⟨g3, 3, none⟩ = some (.int .u32 (M 3))) (by kernel_rfl) (by kernel_rfl) ⟨hB.drew, gl, gm, c0, c1, c2, c3, d0, d1, d2, d3⟩ ?_
              clear hB gl gm c0 c1 c2 c3 d0 d1 d2 d3
              simp only [List.toList_toArray]
              repeat (first
                | go_big_quiet_skip
                | (go_big_quiet_want; go_big_quiet_op; go_big_quiet_on)
                | (go_big_quiet_want
                   apply Exists.intro
                   refine ⟨fun wq hw => ?_, ?_⟩
                   · (try dsimp only at hw)
                     go_simp
                     first
                       | rfl
                       | (go_at_call_of 26 (Value.agg #[Value.int IntKind.u32 (M 0), Value.int IntKind.u32 (M 1), Value.int IntKind.u32 (M 2), Value.int IntKind.u32 (M 3)]); refine (part_any M j 1 _ (by omega)).mono ?_; rw [hx3.out]; rintro e w5 ⟨rfl, hm⟩; exact ⟨rfl, SL.below (a := w.heap.size) (b := g3) (L := L) (M := M) (w := w) hw hm⟩)
                   (try simp only [Act.put, List.setIfInBounds_toArray, List.set_cons_zero, List.set_cons_succ])
                   go_big_quiet_on))
              refine wpQuiet_nil ?_
              intro w9 hS9
              go_wp2
              go_roundw
              case rel => exact ⟨j + 1, by omega, by go_num, hS9⟩
              case measure => simp [intOf]; omega
            · have hx2 : W.part M j 1 = v / 65536 % 256 := by rw [hx, if_pos (by omega), hd]; simp [W.pw]
              clear hx
              have hdz : (j : Int) - T = 2 := by omega
              have hand : bits .and .u32 (v / 65536) 255 = v / 65536 % 256 := W.low_and (v / 65536) 8 (by decide) (by omega) (by omega)
              have hx3 : Hid (W.part M j 1 = v / 65536 % 256) := hx2
              clear hx2
              have e1 : IntKind.i64.wrap (A : Int) = A := by rw [IntKind.wrap_i64]; omega
              have e2 : (A : Int).tmod 16 = T := by rw [Int.tmod_eq_emod_of_nonneg (by omega)]; exact hT1
              have e3 : IntKind.i64.wrap 2 = 2 := by kernel_rfl
              have e4 : IntKind.i64.wrap 16 = 16 := by kernel_rfl
              have e5 : IntKind.u64.wrap 16 = 16 := by kernel_rfl
              go_wp2_with fail
              refine wp_region_quiet (C := fun w' => Below w.heap.size w w' ∧ w.heap.size < w'.heap.size ∧ g3 < w'.heap.size ∧ w'.cell? ⟨w.heap.size, 0, none⟩ = some (.int .u32 (L 0)) ∧ w'.cell? ⟨w.heap.size, 1, none⟩ = some (.int .u32 (L 1)) ∧ w'.cell? ⟨w.heap.size, 2, none⟩ = some (.int .u32 (L 2)) ∧ w'.cell? ⟨w.heap.size, 3, none⟩ = some (.int .u32 (L 3)) ∧ w'.cell? ⟨g3, 0, none⟩ = some (.int .u32 (M 0)) ∧ w'.cell? ⟨g3, 1, none⟩ = some (.int .u32 (M 1)) ∧ w'.cell? ⟨g3, 2, none⟩ = some (.int .u32 (M 2)) ∧ w'.cell? ⟨g3, 3, none⟩ = some (.int .u32 (M 3))) (by kernel_rfl) (by kernel_rfl) ⟨hB.drew, gl, gm, c0, c1, c2, c3, d0, d1, d2, d3⟩ ?_
              clear hB gl gm c0 c1 c2 c3 d0 d1 d2 d3
              simp only [List.toList_toArray]
              repeat (first
                | go_big_quiet_skip
                | (go_big_quiet_want; go_big_quiet_op; go_big_quiet_on)
                | (go_big_quiet_want
                   apply Exists.intro
                   refine ⟨fun wq hw => ?_, ?_⟩
                   · (try dsimp only at hw)
                     go_simp
                     first
                       | rfl
                       | (go_at_call_of 26 (Value.agg #[Value.int IntKind.u32 (M 0), Value.int IntKind.u32 (M 1), Value.int IntKind.u32 (M 2), Value.int IntKind.u32 (M 3)]); refine (part_any M j 1 _ (by omega)).mono ?_; rw [hx3.out]; rintro e w5 ⟨rfl, hm⟩; exact ⟨rfl, SL.below (a := w.heap.size) (b := g3) (L := L) (M := M) (w := w) hw hm⟩)
                   (try simp only [Act.put, List.setIfInBounds_toArray, List.set_cons_zero, List.set_cons_succ])
                   go_big_quiet_on))
              refine wpQuiet_nil ?_
              intro w9 hS9
              go_wp2
              go_roundw
              case rel => exact ⟨j + 1, by omega, by go_num, hS9⟩
              case measure => simp [intOf]; omega
            · have hx2 : W.part M j 1 = v / 16777216 % 256 := by rw [hx, if_pos (by omega), hd]; simp [W.pw]
              clear hx
              have hdz : (j : Int) - T = 3 := by omega
              have hand : bits .and .u32 (v / 16777216) 255 = v / 16777216 % 256 := W.low_and (v / 16777216) 8 (by decide) (by omega) (by omega)
              have hx3 : Hid (W.part M j 1 = v / 16777216 % 256) := hx2
              clear hx2
              have e1 : IntKind.i64.wrap (A : Int) = A := by rw [IntKind.wrap_i64]; omega
              have e2 : (A : Int).tmod 16 = T := by rw [Int.tmod_eq_emod_of_nonneg (by omega)]; exact hT1
              have e3 : IntKind.i64.wrap 3 = 3 := by kernel_rfl
              have e4 : IntKind.i64.wrap 24 = 24 := by kernel_rfl
              have e5 : IntKind.u64.wrap 24 = 24 := by kernel_rfl
              go_wp2_with fail
              refine wp_region_quiet (C := fun w' => Below w.heap.size w w' ∧ w.heap.size < w'.heap.size ∧ g3 < w'.heap.size ∧ w'.cell? ⟨w.heap.size, 0, none⟩ = some (.int .u32 (L 0)) ∧ w'.cell? ⟨w.heap.size, 1, none⟩ = some (.int .u32 (L 1)) ∧ w'.cell? ⟨w.heap.size, 2, none⟩ = some (.int .u32 (L 2)) ∧ w'.cell? ⟨w.heap.size, 3, none⟩ = some (.int .u32 (L 3)) ∧ w'.cell? ⟨g3, 0, none⟩ = some (.int .u32 (M 0)) ∧ w'.cell? ⟨g3, 1, none⟩ = some (.int .u32 (M 1)) ∧ w'.cell? ⟨g3, 2, none⟩ = some (.int .u32 (M 2)) ∧ w'.cell? ⟨g3, 3, none⟩ = some (.int .u32 (M 3))) (by kernel_rfl) (by kernel_rfl) ⟨hB.drew, gl, gm, c0, c1, c2, c3, d0, d1, d2, d3⟩ ?_
              clear hB gl gm c0 c1 c2 c3 d0 d1 d2 d3
              simp only [List.toList_toArray]
              repeat (first
                | go_big_quiet_skip
                | (go_big_quiet_want; go_big_quiet_op; go_big_quiet_on)
                | (go_big_quiet_want
                   apply Exists.intro
                   refine ⟨fun wq hw => ?_, ?_⟩
                   · (try dsimp only at hw)
                     go_simp
                     first
                       | rfl
                       | (go_at_call_of 26 (Value.agg #[Value.int IntKind.u32 (M 0), Value.int IntKind.u32 (M 1), Value.int IntKind.u32 (M 2), Value.int IntKind.u32 (M 3)]); refine (part_any M j 1 _ (by omega)).mono ?_; rw [hx3.out]; rintro e w5 ⟨rfl, hm⟩; exact ⟨rfl, SL.below (a := w.heap.size) (b := g3) (L := L) (M := M) (w := w) hw hm⟩)
                   (try simp only [Act.put, List.setIfInBounds_toArray, List.set_cons_zero, List.set_cons_succ])
                   go_big_quiet_on))
              refine wpQuiet_nil ?_
              intro w9 hS9
              go_wp2
              go_roundw
              case rel => exact ⟨j + 1, by omega, by go_num, hS9⟩
              case measure => simp [intOf]; omega
          · skip
            have hx2 : W.part M j 1 = W.part L j 1 := by rw [hx, if_neg (by omega)]
            clear hx
            obtain ⟨y, hy0⟩ : ∃ y, W.part L j 1 = y := ⟨_, rfl⟩
            rw [hy0] at hx2
            have hy : Hid (W.part L j 1 = y) := hy0
            have hx3 : Hid (W.part M j 1 = y) := hx2
            clear hy0 hx2
            go_wp2_with fail
            refine wp_region_quiet (C := fun w' => Below w.heap.size w w' ∧ w.heap.size < w'.heap.size ∧ g3 < w'.heap.size ∧ w'.cell? ⟨w.heap.size, 0, none⟩ = some (.int .u32 (L 0)) ∧ w'.cell? ⟨w.heap.size, 1, none⟩ = some (.int .u32 (L 1)) ∧ w'.cell? ⟨w.heap.size, 2, none⟩ = some (.int .u32 (L 2)) ∧ w'.cell? ⟨w.heap.size, 3, none⟩ = some (.int .u32 (L 3)) ∧ w'.cell? ⟨g3, 0, none⟩ = some (.int .u32 (M 0)) ∧ w'.cell? ⟨g3, 1, none⟩ = some (.int .u32 (M 1)) ∧ w'.cell? ⟨g3, 2, none⟩ = some (.int .u32 (M 2)) ∧ w'.cell? ⟨g3, 3, none⟩ = some (.int .u32 (M 3))) (by kernel_rfl) (by kernel_rfl) ⟨hB.drew, gl, gm, c0, c1, c2, c3, d0, d1, d2, d3⟩ ?_
            clear hB gl gm c0 c1 c2 c3 d0 d1 d2 d3
            simp only [List.toList_toArray]
            repeat (first
              | go_big_quiet_skip
              | (go_big_quiet_want; go_big_quiet_op; go_big_quiet_on)
              | (go_big_quiet_want
                 apply Exists.intro
                 refine ⟨fun wq hw => ?_, ?_⟩
                 · (try dsimp only at hw)
                   go_simp
                   first
                     | rfl
                     | (go_at_call_of 26 (Value.agg #[Value.int IntKind.u32 (M 0), Value.int IntKind.u32 (M 1), Value.int IntKind.u32 (M 2), Value.int IntKind.u32 (M 3)]); refine (part_any M j 1 _ (by omega)).mono ?_; rw [hx3.out]; rintro e w5 ⟨rfl, hm⟩; exact ⟨rfl, SL.below (a := w.heap.size) (b := g3) (L := L) (M := M) (w := w) hw hm⟩)
                     | (go_at_call_of 26 (Value.agg #[Value.int IntKind.u32 (L 0), Value.int IntKind.u32 (L 1), Value.int IntKind.u32 (L 2), Value.int IntKind.u32 (L 3)]); refine (part_any L j 1 _ (by omega)).mono ?_; rw [hy.out]; rintro e w5 ⟨rfl, hm⟩; exact ⟨rfl, SL.below (a := w.heap.size) (b := g3) (L := L) (M := M) (w := w) hw hm⟩)
                 (try simp only [Act.put, List.setIfInBounds_toArray, List.set_cons_zero, List.set_cons_succ])
                 go_big_quiet_on))
            refine wpQuiet_nil ?_
            intro w9 hS9
            go_wp2
            go_roundw
            case rel => exact ⟨j + 1, by omega, by go_num, hS9⟩
            case measure => simp [intOf]; omega
        · have hn : ¬ (T : Int) ≤ j := by omega
          have hx2 : W.part M j 1 = W.part L j 1 := by rw [hx, if_neg (by omega)]
          clear hx
          obtain ⟨y, hy0⟩ : ∃ y, W.part L j 1 = y := ⟨_, rfl⟩
          rw [hy0] at hx2
          have hy : Hid (W.part L j 1 = y) := hy0
          have hx3 : Hid (W.part M j 1 = y) := hx2
          clear hy0 hx2
          go_wp2_with fail
          refine wp_region_quiet (C := fun w' => Below w.heap.size w w' ∧ w.heap.size < w'.heap.size ∧ g3 < w'.heap.size ∧ w'.cell? ⟨w.heap.size, 0, none⟩ = some (.int .u32 (L 0)) ∧ w'.cell? ⟨w.heap.size, 1, none⟩ = some (.int .u32 (L 1)) ∧ w'.cell? ⟨w.heap.size, 2, none⟩ = some (.int .u32 (L 2)) ∧ w'.cell? ⟨w.heap.size, 3, none⟩ = some (.int .u32 (L 3)) ∧ w'.cell? ⟨g3, 0, none⟩ = some (.int .u32 (M 0)) ∧ w'.cell? ⟨g3, 1, none⟩ = some (.int .u32 (M 1)) ∧ w'.cell? ⟨g3, 2, none⟩ = some (.int .u32 (M 2)) ∧ w'.cell? ⟨g3, 3, none⟩ = some (.int .u32 (M 3))) (by kernel_rfl) (by kernel_rfl) ⟨hB.drew, gl, gm, c0, c1, c2, c3, d0, d1, d2, d3⟩ ?_
          clear hB gl gm c0 c1 c2 c3 d0 d1 d2 d3
          simp only [List.toList_toArray]
          repeat (first
            | go_big_quiet_skip
            | (go_big_quiet_want; go_big_quiet_op; go_big_quiet_on)
            | (go_big_quiet_want
               apply Exists.intro
               refine ⟨fun wq hw => ?_, ?_⟩
               · (try dsimp only at hw)
                 go_simp
                 first
                   | rfl
                   | (go_at_call_of 26 (Value.agg #[Value.int IntKind.u32 (M 0), Value.int IntKind.u32 (M 1), Value.int IntKind.u32 (M 2), Value.int IntKind.u32 (M 3)]); refine (part_any M j 1 _ (by omega)).mono ?_; rw [hx3.out]; rintro e w5 ⟨rfl, hm⟩; exact ⟨rfl, SL.below (a := w.heap.size) (b := g3) (L := L) (M := M) (w := w) hw hm⟩)
                   | (go_at_call_of 26 (Value.agg #[Value.int IntKind.u32 (L 0), Value.int IntKind.u32 (L 1), Value.int IntKind.u32 (L 2), Value.int IntKind.u32 (L 3)]); refine (part_any L j 1 _ (by omega)).mono ?_; rw [hy.out]; rintro e w5 ⟨rfl, hm⟩; exact ⟨rfl, SL.below (a := w.heap.size) (b := g3) (L := L) (M := M) (w := w) hw hm⟩)
               (try simp only [Act.put, List.setIfInBounds_toArray, List.set_cons_zero, List.set_cons_succ])
               go_big_quiet_on))
          refine wpQuiet_nil ?_
          intro w9 hS9
          go_wp2
          go_roundw
          case rel => exact ⟨j + 1, by omega, by go_num, hS9⟩
          case measure => simp [intOf]; omega
      · have hk' : j = 16 := by omega
        subst hk'
        go_wp2
        go_ret
        exact ⟨rfl, hB⟩
end Go.Proofs.YtjdiepklgcdamaaDoor
