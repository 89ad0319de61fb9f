/- MemParts, walked. -/
import Derived.Test.YtjdiepklgcdamaaDoorMemO
import Derived.Test.YtjdiepklgcdamaaDoorMemQ
namespace Go.Proofs.YtjdiepklgcdamaaDoor
open Go.ChangeShapes Go.WideShapes Go.ChangeAt Go.RowKit
set_option linter.unusedVariables false
set_option linter.unusedSimpArgs false

theorem lineOf_bno (A : Nat) (w : World) (hA : A < 4294967296) : Calls Tryd.prog 30 #[.int .u32 (A : Int)] w fun e w' => e = .returned (.int .i64 ((A / 16 : Nat) : Int)) ∧ Below w.heap.size w w' :=
  (lineOf_any A w hA).mono fun e w' ⟨x, y⟩ => ⟨x, y ▸ Below.refl _ _⟩

set_option maxRecDepth 100000 in
set_option maxHeartbeats 6400000 in
theorem memParts_no (L : Nat → Int) (hL : ∀ k, 0 ≤ L k ∧ L k < 4294967296) (A : Nat) (s v : Int) (v0 : 0 ≤ v) (v1 : v < 4294967296) (hA : A < 4294967296) (hal : W.al A s = false) (w : World) : Calls Tryd.prog 4 #[lineV L, .int .u32 (A : Int), .int .i64 s, .int .u32 v] w fun e w' => e = .returned (.bool true) ∧ Below w.heap.size w w' := by
  have b1 := (Below.refl w.heap.size w).alloc (Nat.le_refl _) (.cells #[.int .u32 (L 0), .int .u32 (L 1), .int .u32 (L 2), .int .u32 (L 3)] 38)
  have q := Ln.new L w
  rw [show lineV L = .agg #[.int .u32 (L 0), .int .u32 (L 1), .int .u32 (L 2), .int .u32 (L 3)] from rfl]
  go_enter Tryd.func4, Tryd.ntmps4
  go_wp2_with (go_at_call 8; refine (first7_any _).mono ?_; rintro e w1 ⟨rfl, hw1⟩; replace q := q.below hw1; replace b1 := b1.trans (hw1.mono b1.size); clear hw1; obtain ⟨c0, c1, c2, c3, cz⟩ := q.cells)
  refine (part_any L _ _ _ hA).mono ?_
  rintro e w2 ⟨rfl, hb⟩
  replace q := q.below hb
  replace b1 := b1.trans (hb.mono b1.size)
  clear hb c0 c1 c2 c3 cz
  obtain ⟨c0, c1, c2, c3, cz⟩ := q.cells
  go_wp2_with fail
  refine (with_any L _ _ _ _ hA).mono ?_
  have hMr := wl_rg hL A s v
  have rp := rpart_any L hL A s
  have rq := rwith_any L A s v v0 v1
  have hX : Hid (∀ j, j < 16 → W.al A s = true → W.part (W.wl L A s v) j 1 = if A % 16 ≤ j ∧ (j : Int) < (A % 16 : Nat) + s then v / W.pw (j - A % 16) % 256 else W.part L j 1) := fun j hj ha => part_wl L hL A j s v v0 v1 ha hj
  have hY : Hid (W.al A s = false → W.wl L A s v = L ∧ W.part L A s = 0) := fun ha => ⟨by funext j; simp [W.wl, ha], by simp [W.part, ha]⟩
  generalize W.wl L A s v = M at *
  generalize W.part L A s = P at *
  have rp' : Hid (∀ w : World, A < 4294967296 → Calls Tryd.prog 28 #[lineV L, .int .u32 (A : Int), .int .i64 s] w fun e w' => e = .returned (.int .u32 P) ∧ Below w.heap.size w w') := rp
  have rq' : Hid (∀ w : World, A < 4294967296 → Calls Tryd.prog 29 #[lineV L, .int .u32 (A : Int), .int .i64 s, .int .u32 v] w fun e w' => e = .returned (lineV M) ∧ Below w.heap.size w w') := rq
  clear rp rq
  unfold lineV
  rintro e w3 ⟨rfl, hb⟩
  replace q := q.below hb
  replace b1 := b1.trans (hb.mono b1.size)
  clear hb c0 c1 c2 c3 cz
  go_wp2_with fail
  have q2 := Ln.new M w3
  replace q := q.alloc (.cells #[.int .u32 (M 0), .int .u32 (M 1), .int .u32 (M 2), .int .u32 (M 3)] 38)
  replace b1 := b1.alloc b1.size (.cells #[.int .u32 (M 0), .int .u32 (M 1), .int .u32 (M 2), .int .u32 (M 3)] 38)
  generalize World.alloc w3 _ = w4 at *
  generalize w3.heap.size = g3 at *
  have u1 : IntKind.u32.wrap ((A : Int) / 16) = (A : Int) / 16 := by rw [IntKind.wrap_u32]; omega
  have u2 : IntKind.i64.wrap ((A : Int) / 16) = (A : Int) / 16 := by rw [IntKind.wrap_i64]; omega
  have hS0 := SL.of b1.drew (q.below (Below.refl _ _).drew) (q2.below (Below.refl _ _).drew)
  clear q q2 b1
  go_region_held3 (fun w' => Below w.heap.size w w' ∧ w.heap.size < w'.heap.size ∧ g3 < w'.heap.size ∧ w'.cell? ⟨w.heap.size, 0, none⟩ = some (.int .u32 (L 0)) ∧ w'.cell? ⟨w.heap.size, 1, none⟩ = some (.int .u32 (L 1)) ∧ w'.cell? ⟨w.heap.size, 2, none⟩ = some (.int .u32 (L 2)) ∧ w'.cell? ⟨w.heap.size, 3, none⟩ = some (.int .u32 (L 3)) ∧ w'.cell? ⟨g3, 0, none⟩ = some (.int .u32 (M 0)) ∧ w'.cell? ⟨g3, 1, none⟩ = some (.int .u32 (M 1)) ∧ w'.cell? ⟨g3, 2, none⟩ = some (.int .u32 (M 2)) ∧ w'.cell? ⟨g3, 3, none⟩ = some (.int .u32 (M 3)))
      (first
        | with_reducible assumption
        | (with_reducible refine SL.below (a := w.heap.size) (b := g3) (L := L) (M := M) (w := w) ?_ hm; with_reducible assumption)
        | (refine SL.below (a := w.heap.size) (b := g3) (L := L) (M := M) (w := w) ?_ hm; assumption))
      (first
        | (go_at_call 28; refine (rp'.out _ hA).mono ?_; rintro e w' ⟨rfl, hm⟩)
        | (go_at_call 29; refine (rq'.out _ hA).mono ?_; unfold lineV; rintro e w' ⟨rfl, hm⟩)
        | (go_at_call 23; refine (sameLine_yes M _).mono ?_; rintro e w' ⟨rfl, hm⟩)
        | (go_at_call 30; refine (lineOf_bno A _ hA).mono ?_; rintro e w' ⟨rfl, hm⟩))
  all_goals
    have hS : Below w.heap.size w w' ∧ w.heap.size < w'.heap.size ∧ g3 < w'.heap.size ∧ w'.cell? ⟨w.heap.size, 0, none⟩ = some (.int .u32 (L 0)) ∧ w'.cell? ⟨w.heap.size, 1, none⟩ = some (.int .u32 (L 1)) ∧ w'.cell? ⟨w.heap.size, 2, none⟩ = some (.int .u32 (L 2)) ∧ w'.cell? ⟨w.heap.size, 3, none⟩ = some (.int .u32 (L 3)) ∧ w'.cell? ⟨g3, 0, none⟩ = some (.int .u32 (M 0)) ∧ w'.cell? ⟨g3, 1, none⟩ = some (.int .u32 (M 1)) ∧ w'.cell? ⟨g3, 2, none⟩ = some (.int .u32 (M 2)) ∧ w'.cell? ⟨g3, 3, none⟩ = some (.int .u32 (M 3)) := by assumption
    obtain ⟨hB, gl, gm, c0, c1, c2, c3, d0, d1, d2, d3⟩ := hS
    clear hS0
    obtain ⟨rfl, rfl⟩ := hY.out hal
    by_cases h1 : s = 1
    · subst h1; rw [W.al_1] at hal; cases hal
    by_cases h2 : s = 2
    · subst h2
      have h3 : (((A : Int) % (max (2 : Int) 1)) == 0) = false := by
        rw [show max (2 : Int) 1 = 2 from rfl]; simp only [W.al] at hal; simpa using hal
      go_wp2_with (go_at_call 23; refine (sameLine_yes M _).mono ?_; rintro e w9 ⟨rfl, b9⟩)
      go_ret
      exact ⟨rfl, hB.trans (b9.mono hB.size)⟩
    by_cases h4 : s = 4
    · subst h4
      have h3 : (((A : Int) % (max (4 : Int) 1)) == 0) = false := by
        rw [show max (4 : Int) 1 = 4 from rfl]; simp only [W.al] at hal; simpa using hal
      go_wp2_with (go_at_call 23; refine (sameLine_yes M _).mono ?_; rintro e w9 ⟨rfl, b9⟩)
      go_ret
      exact ⟨rfl, hB.trans (b9.mono hB.size)⟩
    have g1 : (s == 1) = false := by simpa using h1
    have g2 : (s == 2) = false := by simpa using h2
    have g4 : (s == 4) = false := by simpa using h4
    clear h1 h2 h4
    go_wp2_with (go_at_call 23; refine (sameLine_yes M _).mono ?_; rintro e w9 ⟨rfl, b9⟩)
    go_ret
    exact ⟨rfl, hB.trans (b9.mono hB.size)⟩
end Go.Proofs.YtjdiepklgcdamaaDoor
