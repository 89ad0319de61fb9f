/- MemLines, walked. -/
import Derived.Test.YtjdiepklgcdamaaDoorMemL
namespace Go.Proofs.YtjdiepklgcdamaaDoor
open Go.ChangeShapes Go.WideShapes Go.ChangeAt Go.RowKit
set_option linter.unusedVariables false
set_option linter.unusedSimpArgs false

set_option maxHeartbeats 1600000 in
theorem memLines_k (L : Nat → Int) (hL : ∀ k, 0 ≤ L k ∧ L k < 4294967296) (i addr v size s E : Int) (r k A : Nat) (v0 : 0 ≤ v) (v1 : v < 4294967296) (hi : (wrap64 (i.tmod 16 + 16)).tmod 16 = r) (hr : r < 16) (hk : (wrap64 (size.tmod 3 + 3)).tmod 3 = k)
    (hks : k = 0 ∧ s = 1 ∧ E = 0 ∨ k = 1 ∧ s = 2 ∧ E = 1 ∨ k = 2 ∧ s = 4 ∧ E = 3) (hE : bits .andNot .u32 (addr.tmod 256) E = A) (hA : W.al A s = true) (hA2 : A < 256) (w : World) : Calls Tryd.prog 5 #[lineV L, .int .i64 i, .int .u32 addr, .int .u32 v, .int .i64 size] w fun e w' => e = .returned (.bool true) ∧ Below w.heap.size w w' := by
  have b1 := (Below.refl w.heap.size w).alloc (Nat.le_refl _) (.cells #[.int .u32 (L 0), .int .u32 (L 1), .int .u32 (L 2), .int .u32 (L 3)] 38)
  have q := Ln.new L w
  have hh := W.has_in 16 A s hA hA2
  obtain ⟨p, hp⟩ : ∃ p, A / 16 = p := ⟨_, rfl⟩
  have hp2 : decide (0 ≤ (p : Int) ∧ (p : Int) < (16 : Nat)) = true := by simp; omega
  have hr2 : decide (0 ≤ (r : Int) ∧ (r : Int) < (16 : Nat)) = true := by simp; omega
  have hA3 : A < 4294967296 := by omega
  rw [show lineV L = .agg #[.int .u32 (L 0), .int .u32 (L 1), .int .u32 (L 2), .int .u32 (L 3)] from rfl]
  have hw5 : Hid (∀ f, lineV (W.wl (W.lineOf 16 f p) A s v) = lineV (W.lineOf 16 (W.stored 16 f A s v) p)) := by
    have : ∀ f, lineV (W.wl (W.lineOf 16 f p) A s v) = lineV (W.lineOf 16 (W.stored 16 f A s v) p) := by
      intro f
      have e := lineOf_stored 16 A f s v hh
      rw [hp] at e
      unfold lineV
      rw [e 0 (by decide), e 1 (by decide), e 2 (by decide), e 3 (by decide)]
    exact this
  have hv5 : Hid (∀ f5, W.part (W.lineOf 16 f5 p) A s = W.loadV 16 f5 A s) := by
    have : ∀ f5, W.part (W.lineOf 16 f5 p) A s = W.loadV 16 f5 A s := by
      intro f5
      have e := load_part 16 A f5 s hh
      rw [hp] at e
      exact e.symm
    exact this
  rcases hks with ⟨rfl, rfl, rfl⟩ | ⟨rfl, rfl, rfl⟩ | ⟨rfl, rfl, rfl⟩
  all_goals
    go_enter Tryd.func5, Tryd.ntmps5
    go_wp2_with (go_at_call 8; refine (first7_any _).mono ?_; rintro e w1 ⟨rfl, hw1⟩; replace q := q.below hw1; replace b1 := b1.trans (hw1.mono b1.size); clear hw1)
    try simp only [hE]
    refine (new_0 16 256 none 0 _ rfl (by decide) (by decide)).mono ?_
    rintro e w2 ⟨rfl, hM, hB⟩
    have hN := Ms.start (b1.alloc b1.size _) hM hB
    replace q := (q.alloc _).below hB
    generalize (World.alloc w1 _).heap.size = g at *
    clear hM hB b1
    obtain ⟨c0, c1, c2, c3, cz⟩ := q.cells
    go_wp2_with fail
    refine (setLine_l hN _ L true hL hr2).mono ?_
    clear hN q c0 c1 c2 c3 cz
    rintro e w3 ⟨rfl, hN, _⟩
    generalize W.lined 16 _ _ L = f at *
    go_wp2_with (go_at_call 30; refine (lineOf_g _ p _ hA3 hp).mono ?_; rintro e w' ⟨rfl, rfl⟩)
    refine (line_l hN _ true hp2).mono ?_
    clear hN
    unfold lineV
    rintro e w4 ⟨rfl, hN, _⟩
    go_wp2_with fail
    have q4 := Ln.new (W.lineOf 16 f p) w4
    replace hN := hN.call ((Below.refl _ _).alloc (Nat.le_refl _) (.cells #[.int .u32 (W.lineOf 16 f p 0), .int .u32 (W.lineOf 16 f p 1), .int .u32 (W.lineOf 16 f p 2), .int .u32 (W.lineOf 16 f p 3)] 38))
    refine (store_l hN _ A _ _ true rfl hA3 hh).mono ?_
    have g4 := hN.at_.lt
    clear hN
    rintro e w5 ⟨rfl, hN, hg⟩
    replace q4 := q4.kept hg (by simp at g4; omega)
    clear hg g4
    have hr5 := hN.at_.rg
    have hw := hw5.out f
    generalize W.stored 16 f A _ v = f5 at *
    go_wp2_with (go_at_call 30; refine (lineOf_g _ p _ hA3 hp).mono ?_; rintro e w' ⟨rfl, rfl⟩)
    refine (line_l hN _ true hp2).mono ?_
    clear hN
    unfold lineV
    rintro e w6 ⟨rfl, hN, hb6⟩
    replace q4 := q4.below hb6
    clear hb6
    go_wp2_with fail
    have q6 := Ln.new (W.lineOf 16 f5 p) w6
    have ba := (Below.refl w6.heap.size w6).alloc (Nat.le_refl _) (.cells #[.int .u32 (W.lineOf 16 f5 p 0), .int .u32 (W.lineOf 16 f5 p 1), .int .u32 (W.lineOf 16 f5 p 2), .int .u32 (W.lineOf 16 f5 p 3)] 38)
    replace hN := hN.call ba
    replace q4 := q4.below ba
    clear ba
    refine (load_l hN _ A _ _ true rfl hA3 rfl hh).mono ?_
    clear hN
    rintro e w7 ⟨rfl, hN, hb7⟩
    replace q4 := q4.below hb7
    replace q6 := q6.below hb7
    clear hb7
    have hv := hv5.out f5
    generalize W.loadV 16 f5 A _ = V at *
    have hw' : Hid (lineV (W.wl (W.lineOf 16 f p) A _ v) = lineV (W.lineOf 16 f5 p)) := hw
    have hv' : Hid (W.part (W.lineOf 16 f5 p) A _ = V) := hv
    clear hw hv
    go_wp2_with fail
    generalize w4.heap.size = g4 at *
    generalize w6.heap.size = g6 at *
    generalize W.lineOf 16 f p = M4 at *
    generalize W.lineOf 16 f5 p = M6 at *
    have hS0 := SL.of (hN.bel.trans ((Below.refl w7.heap.size w7).drew.mono hN.bel.size)) (q4.below (Below.refl w7.heap.size w7).drew) (q6.below (Below.refl w7.heap.size w7).drew)
    clear q4 q6 hN
    go_region_held3 (fun w' => Below w.heap.size w w' ∧ g4 < w'.heap.size ∧ g6 < w'.heap.size ∧ w'.cell? ⟨g4, 0, none⟩ = some (.int .u32 (M4 0)) ∧ w'.cell? ⟨g4, 1, none⟩ = some (.int .u32 (M4 1)) ∧ w'.cell? ⟨g4, 2, none⟩ = some (.int .u32 (M4 2)) ∧ w'.cell? ⟨g4, 3, none⟩ = some (.int .u32 (M4 3)) ∧ w'.cell? ⟨g6, 0, none⟩ = some (.int .u32 (M6 0)) ∧ w'.cell? ⟨g6, 1, none⟩ = some (.int .u32 (M6 1)) ∧ w'.cell? ⟨g6, 2, none⟩ = some (.int .u32 (M6 2)) ∧ w'.cell? ⟨g6, 3, none⟩ = some (.int .u32 (M6 3)))
      (first
        | with_reducible assumption
        | (with_reducible refine SL.below (a := g4) (b := g6) (L := M4) (M := M6) (w := w) ?_ hm; with_reducible assumption)
        | (refine SL.below (a := g4) (b := g6) (L := M4) (M := M6) (w := w) ?_ hm; assumption))
      (first
        | (go_at_call 27; refine (with_any M4 _ _ _ _ hA3).mono ?_; rw [hw'.out]; unfold lineV; rintro e w' ⟨rfl, hm⟩)
        | (go_at_call 23; refine (sameLine_yes M6 _).mono ?_; rintro e w' ⟨rfl, hm⟩)
        | (go_at_call 26; refine (part_any M6 _ _ _ hA3).mono ?_; rw [hv'.out]; rintro e w' ⟨rfl, hm⟩))
    all_goals
      have hB : Below w.heap.size w w' := by (go_split_ands; assumption)
      go_wp2
      go_ret
      exact ⟨rfl, hB⟩

theorem memLines_walk (L : Nat → Int) (i addr v size : Int) (hL : ∀ k, 0 ≤ L k ∧ L k < 4294967296) (a0 : 0 ≤ addr) (a1 : addr < 4294967296) (v0 : 0 ≤ v) (v1 : v < 4294967296) (w : World) : Calls Tryd.prog 5 #[lineV L, .int .i64 i, .int .u32 addr, .int .u32 v, .int .i64 size] w fun e w' => e = .returned (.bool true) ∧ Below w.heap.size w w' := by
  obtain ⟨r, h1, h2⟩ := W.turned i 16 (by decide) (by decide)
  obtain ⟨k, h3, h4⟩ := W.turned size 3 (by decide) (by decide)
  have ht : addr.tmod 256 = addr % 256 := Int.tmod_eq_emod_of_nonneg a0
  have h5 : k = 0 ∨ k = 1 ∨ k = 2 := by omega
  rcases h5 with e | e | e
  · refine memLines_k L hL i addr v size 1 0 r k (addr % 256).toNat v0 v1 h1 (by omega) h3 (Or.inl ⟨e, rfl, rfl⟩) ?_ (W.al_1 _) (by omega) w
    rw [ht, W.off_0 _ (by omega) (by omega)]; omega
  · refine memLines_k L hL i addr v size 2 1 r k (addr % 256 / 2 * 2).toNat v0 v1 h1 (by omega) h3 (Or.inr (Or.inl ⟨e, rfl, rfl⟩)) ?_ (W.al_2 _ (by omega)) (by omega) w
    rw [ht, W.off_1 _ (by omega) (by omega)]; omega
  · refine memLines_k L hL i addr v size 4 3 r k (addr % 256 / 4 * 4).toNat v0 v1 h1 (by omega) h3 (Or.inr (Or.inr ⟨e, rfl, rfl⟩)) ?_ (W.al_4 _ (by omega)) (by omega) w
    rw [ht, W.off_3 _ (by omega) (by omega)]; omega
end Go.Proofs.YtjdiepklgcdamaaDoor
