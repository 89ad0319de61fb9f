/- The document's line with a part turned, by its word. -/
import Derived.Test.YtjdiepklgcdamaaDoorMemN
namespace Go.Proofs.YtjdiepklgcdamaaDoor
open Go.ChangeShapes Go.WideShapes Go.ChangeAt Go.RowKit
set_option linter.unusedVariables false
set_option linter.unusedSimpArgs false

set_option maxHeartbeats 1600000 in
theorem rwith_2 (L : Nat → Int) (A : Nat) (s v : Int) (v0 : 0 ≤ v) (v1 : v < 4294967296) (w : World) (hA : A < 4294967296) (ha : W.al A s = true) (hk : (A : Int) % 16 / 4 = 2) : Calls Tryd.prog 29 #[lineV L, .int .u32 (A : Int), .int .i64 s, .int .u32 v] w fun e w' => e = .returned (lineV (W.wl L A s v)) ∧ Below w.heap.size w w' := by
  have hr : Hid (lineV (W.wl L A s v) = .agg #[.int .u32 (L 0), .int .u32 (L 1), .int .u32 (W.wv (L 2) (8 * (A % 4) : Int) (8 * s) v), .int .u32 (L 3)]) := by
    have : lineV (W.wl L A s v) = .agg #[.int .u32 (L 0), .int .u32 (L 1), .int .u32 (W.wv (L 2) (8 * (A % 4) : Int) (8 * s) v), .int .u32 (L 3)] := by
      simp only [lineV, W.wl, ha, cond_true, W.wr]
      rw [show A % 16 / 4 = 2 by omega, Int.mul_comm (A % 4 : Int) 8, Int.mul_comm s 8]
      simp
    exact this
  obtain ⟨s1, s2⟩ := al_size ha
  rw [show lineV L = .agg #[.int .u32 (L 0), .int .u32 (L 1), .int .u32 (L 2), .int .u32 (L 3)] from rfl]
  have q1 := (Ln.new L w).alloc (.cells #[.int .u32 0, .int .u32 0, .int .u32 0, .int .u32 0] 38)
  have q2 := Ln.new (fun _ => 0) (w.alloc (.cells #[.int .u32 (L 0), .int .u32 (L 1), .int .u32 (L 2), .int .u32 (L 3)] 38))
  have hB := ((Below.refl w.heap.size w).alloc (Nat.le_refl _) (.cells #[.int .u32 (L 0), .int .u32 (L 1), .int .u32 (L 2), .int .u32 (L 3)] 38)).alloc (by simp) (.cells #[.int .u32 0, .int .u32 0, .int .u32 0, .int .u32 0] 38)
  go_enter Tryd.func29, Tryd.ntmps29
  go_wp2_with (first
      | (go_at_call 41; refine (rfits_any _ _ _ hA).mono ?_; rw [ha]; rintro e w' ⟨rfl, rfl⟩)
      | (go_at_call 43; refine (place_any _ _ _ _ (by decide) (by decide)).mono ?_; rintro e w' ⟨rfl, rfl⟩)
      | fail)
  have h4 : (A : Int) % 16 % 4 = (A : Int) % 4 := by omega
  have h5 : 0 ≤ (A : Int) % 16 := by omega
  have h6 : (A : Int) % 16 < 16 := by omega
  generalize (A : Int) % 16 = T at *
  have t1 : T.tdiv 4 = T / 4 := Int.tdiv_eq_ediv_of_nonneg h5
  have t2 : T.tmod 4 = T % 4 := Int.tmod_eq_emod_of_nonneg h5
  rw [hk] at t1
  rw [h4] at t2
  have t3 : wrap64 (8 * ((A : Int) % 4)) = 8 * ((A : Int) % 4) := by unfold wrap64; omega
  have t4 : wrap64 (8 * s) = 8 * s := by unfold wrap64; omega
  generalize World.alloc (World.alloc w _) _ = W1 at *
  simp only [World.size_alloc] at q2
  obtain ⟨c0, c1, c2, c3, cz⟩ := q1.cells
  obtain ⟨d0, d1, d2, d3, dz⟩ := q2.cells
  have g1 := q1.lt
  have g2 := q2.lt
  go_region_with (go_at_call 43; refine (place_any _ _ _ _ v0 v1).mono ?_; rintro e w' ⟨rfl, rfl⟩)
  all_goals
    go_wp2
    exact bodyPost_ret (v := .agg #[.int .u32 (L 0), .int .u32 (L 1), .int .u32 (W.wv (L 2) (8 * (A % 4) : Int) (8 * s) v), .int .u32 (L 3)]) (by simp [results, Tryd.results29, go_sem, W.wv, c0, c1, c2, c3, d0, d1, d2, d3]) rfl ⟨by rw [hr.out], (((((hB.setCell (p := ⟨w.heap.size, _, none⟩) (Nat.le_refl _) _).setCell (p := ⟨w.heap.size + 1, _, none⟩) (Nat.le_succ _) _).setCell (p := ⟨w.heap.size + 1, _, none⟩) (Nat.le_succ _) _).setCell (p := ⟨w.heap.size + 1, _, none⟩) (Nat.le_succ _) _).setCell (p := ⟨w.heap.size + 1, _, none⟩) (Nat.le_succ _) _).drew⟩
end Go.Proofs.YtjdiepklgcdamaaDoor
