/- A line with a part turned, by its word. -/
import Derived.Test.YtjdiepklgcdamaaDoorMemC
namespace Go.Proofs.YtjdiepklgcdamaaDoor
open Go.ChangeShapes Go.WideShapes Go.ChangeAt Go.RowKit
set_option linter.unusedVariables false
set_option linter.unusedSimpArgs false

set_option maxHeartbeats 1600000 in
theorem with_1 (L : Nat → Int) (A : Nat) (s v : Int) (w : World) (hA : A < 4294967296) (ha : W.al A s = true) (hk : A % 16 / 4 = 1) : Calls Tryd.prog 27 #[lineV L, .int .u32 (A : Int), .int .i64 s, .int .u32 v] w fun e w' => e = .returned (lineV (W.wl L A s v)) ∧ Below w.heap.size w w' := by
  have hr : Hid (lineV (W.wl L A s v) = .agg #[.int .u32 (L 0), .int .u32 (W.wv (L 1) (A % 4 * 8 : Int) (s * 8) v), .int .u32 (L 2), .int .u32 (L 3)]) := by
    have : lineV (W.wl L A s v) = .agg #[.int .u32 (L 0), .int .u32 (W.wv (L 1) (A % 4 * 8 : Int) (s * 8) v), .int .u32 (L 2), .int .u32 (L 3)] := by
      simp [lineV, W.wl, ha, hk, W.wr]
    exact this
  obtain ⟨s1, s2⟩ := al_size ha
  rw [show lineV L = .agg #[.int .u32 (L 0), .int .u32 (L 1), .int .u32 (L 2), .int .u32 (L 3)] from rfl]
  have q1 := (Ln.new L w).alloc (.cells #[.int .u32 0, .int .u32 0, .int .u32 0, .int .u32 0] 38)
  have q2 := Ln.new (fun _ => 0) (w.alloc (.cells #[.int .u32 (L 0), .int .u32 (L 1), .int .u32 (L 2), .int .u32 (L 3)] 38))
  go_enter Tryd.func27, Tryd.ntmps27
  go_wp2_with (first
      | (go_at_call 36; refine (aligned_any _ _ _ hA).mono ?_; rw [ha]; rintro e w' ⟨rfl, rfl⟩)
      | (go_at_call 38; refine (mplace_any _ _ _ hA hk).mono ?_; rintro e w' ⟨rfl, rfl⟩)
      | fail)
  refine (pack1_any (A % 4 * 8 : Int) (s * 8) 4294967295 _ _ (heap_at _ _ _ (by simp))).mono ?_
  rintro e w2 ⟨rfl, b2⟩
  replace q1 := (q1.alloc _).below b2
  replace q2 := (q2.alloc _).below b2
  have hB : Below w.heap.size w w2 := (((Below.refl _ _).alloc (Nat.le_refl _) _).alloc (by simp) _).alloc (by simp; omega) _ |>.trans (b2.mono (by simp; omega))
  have hs2 := b2.size
  simp only [World.size_alloc] at hs2 q2
  clear b2
  go_wp2_with fail
  obtain ⟨c0, c1, c2, c3, cz⟩ := q1.cells
  obtain ⟨d0, d1, d2, d3, dz⟩ := q2.cells
  have g1 := q1.lt
  have g2 := q2.lt
  go_region_with (go_at_call 40; refine (pack1_any (A % 4 * 8 : Int) (s * 8) v _ _ (heap_atd _ _ _ rfl)).mono ?_; rintro e w3 ⟨rfl, b3⟩; replace b3 := da_below b3; clear c0 c1 c2 c3 cz d0 d1 d2 d3 dz; have k1 := q1.below b3; have k2 := q2.below b3; obtain ⟨c0, c1, c2, c3, cz⟩ := k1.cells; obtain ⟨d0, d1, d2, d3, dz⟩ := k2.cells; have g3 := k1.lt; have g4 := k2.lt)
  all_goals
    go_wp2
    exact bodyPost_ret (v := .agg #[.int .u32 (L 0), .int .u32 (W.wv (L 1) (A % 4 * 8 : Int) (s * 8) v), .int .u32 (L 2), .int .u32 (L 3)]) (by simp [results, Tryd.results27, go_sem, W.wv, c0, c1, c2, c3, d0, d1, d2, d3]) rfl ⟨by rw [hr.out], ((((((hB.trans (b3.mono hB.size)).setCell (p := ⟨w.heap.size, _, none⟩) (Nat.le_refl _) _).setCell (p := ⟨w.heap.size + 1, _, none⟩) (Nat.le_succ _) _).setCell (p := ⟨w.heap.size + 1, _, none⟩) (Nat.le_succ _) _).setCell (p := ⟨w.heap.size + 1, _, none⟩) (Nat.le_succ _) _).setCell (p := ⟨w.heap.size + 1, _, none⟩) (Nat.le_succ _) _)⟩

end Go.Proofs.YtjdiepklgcdamaaDoor
