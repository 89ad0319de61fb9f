/- WalkMarks: the walk. -/
import Derived.Test.YtkcdkjmkgncihaaWalkQ
namespace Go.Proofs.Ytkcdkjmkgncihaa
open Go.ChangeShapes Go.WideShapes Go.ChangeAt Go.RowKit
set_option linter.unusedVariables false
set_option linter.unusedSimpArgs false

def Mk5 (flags E : Int) : Prop := ∀ w : World, Calls Try.prog 14 #[.int .u32 7, .slice (some ⟨w.heap.size, 0, none⟩) 5 5] (w.alloc (.cells #[.int .u32 1, .int .u32 2, .int .u32 4, .int .u32 16, .int .u32 (bits .and .u32 flags 232)] 23)) fun e w' => e = .returned (.int .u32 E) ∧ Below w.heap.size w w'
theorem make_5 (flags : Int) (f : Nat) (hf : W.orAll (W.five 1 2 4 16 (bits .and .u32 flags 232)) 5 = f) (h2 : f < 256) : Mk5 flags (7168 + f) := by
  intro w
  refine (make_any 7 (by decide) (by decide) w.heap.size 0 5 5 (W.five 1 2 4 16 (bits .and .u32 flags 232)) _ (by decide) (by simp) ?_).mono ?_
  · intro j hj
    match j, hj with
    | 0, _ => simp [go_sem, W.five]
    | 1, _ => simp [go_sem, W.five]
    | 2, _ => simp [go_sem, W.five]
    | 3, _ => simp [go_sem, W.five]
    | 4, _ => simp [go_sem, W.five]
  · rintro e w' ⟨rfl, hb⟩
    exact ⟨ret_int (by rw [hf]; unfold W.mk; omega), ((Below.refl _ _).alloc (Nat.le_refl _) _).trans (hb.mono (by simp))⟩

set_option maxHeartbeats 1600000 in
theorem marks_lh (va flags E N : Int) (v0 : 0 ≤ va) (v1 : va < 4294967296) (e0 : 0 ≤ E ∧ E < 4294967296) (n0 : 0 ≤ N ∧ N < 4294967296) (hmk : Mk5 flags E) (hk : W.MkOk 2 64 E N) (hne : (N != E) = false) (w : World) :
    Calls Try.prog 5 #[.int .u32 va, .int .u32 flags, .bool false] w fun e w' => e = .returned (.bool true) ∧ Below w.heap.size w w' := by
  have hI := W.and_1023 (va / 4096) (by omega) (by omega)
  have mk2 : W.mk 2 1 = 2049 := by kernel_rfl
  have hor := W.or_28672 va v0 v1
  have hq := hk.q
  rw [hne] at hq
  have hleaf := W.two_leaf va 2 _ _ E v0 v1 rfl rfl hk.b hk.l (W.two _ _) (W.two 2049 E) rfl rfl rfl rfl
  have hEN : N = E := by simpa using hne
  have hoff : W.offv va false = va % 4096 := rfl
  rw [W.leaf_here _ E va 2 0 false hk.my rfl (by rw [hk.hn, hEN]) (by rw [hk.p, hoff]; omega), hk.p, hoff] at hleaf
  clear hEN
  replace hleaf : Hid _ := hleaf
  go_enter Try.func5, Try.ntmps5
  go_wp2_with (go_at_call 7; refine (first9_any _).mono ?_; rintro x w1 ⟨rfl, hb1⟩)
  refine (hmk _).mono ?_
  rintro e w2 ⟨rfl, hb⟩
  have hb2 := bnext hb1 hb
  clear hb hb1
  go_wp2_with (fail)
  refine (make_f 2 (by decide) (by decide) 1 (by decide) (by decide) _ _ rfl).mono ?_
  rw [mk2]
  rintro e w3 ⟨rfl, hb⟩
  have hb3 := bnext hb2 hb
  clear hb hb2
  go_wp2_with (fail)
  have ol := Tw.new (4096 + 4 * (va / 4194304)) 2049 (8192 + 4 * (va / 4096 % 1024)) E w3
  refine (next_two 2147483649 0 va _ 65536 (by decide) (by decide) v0 v1 _ _ _ _ _ _ _ ol (by decide) e0 _ hleaf.out).mono ?_
  unfold W.hereS
  dsimp only
  rintro e w4 ⟨rfl, hb⟩
  replace ol := ol.below hb
  have hb4 := bnext (bnew hb3 _) hb
  clear hb hleaf
  go_wp2
  go_ret
  exact ⟨rfl, bnew hb4 _⟩

set_option maxHeartbeats 1600000 in
theorem marks_sh (va flags E N : Int) (v0 : 0 ≤ va) (v1 : va < 4294967296) (e0 : 0 ≤ E ∧ E < 4294967296) (n0 : 0 ≤ N ∧ N < 4294967296) (hmk : Mk5 flags E) (hk : W.MkOk 3 192 E N) (hne : (N != E) = false) (w : World) :
    Calls Try.prog 5 #[.int .u32 va, .int .u32 flags, .bool true] w fun e w' => e = .returned (.bool true) ∧ Below w.heap.size w w' := by
  have hI := W.and_1023 (va / 4096) (by omega) (by omega)
  have mk2 : W.mk 2 1 = 2049 := by kernel_rfl
  have hor := W.or_28672 va v0 v1
  have hq := hk.q
  rw [hne] at hq
  have hleaf := W.two_leaf va 3 _ _ E v0 v1 rfl rfl hk.b hk.l (W.two _ _) (W.two 2049 E) rfl rfl rfl rfl
  have hEN : N = E := by simpa using hne
  have hoff : W.offv va false = va % 4096 := rfl
  rw [W.leaf_here _ E va 3 0 false hk.my rfl (by rw [hk.hn, hEN]) (by rw [hk.p, hoff]; omega), hk.p, hoff] at hleaf
  clear hEN
  replace hleaf : Hid _ := hleaf
  go_enter Try.func5, Try.ntmps5
  go_wp2_with (go_at_call 7; refine (first9_any _).mono ?_; rintro x w1 ⟨rfl, hb1⟩)
  refine (hmk _).mono ?_
  rintro e w2 ⟨rfl, hb⟩
  have hb2 := bnext hb1 hb
  clear hb hb1
  go_wp2_with (fail)
  refine (make_f 2 (by decide) (by decide) 1 (by decide) (by decide) _ _ rfl).mono ?_
  rw [mk2]
  rintro e w3 ⟨rfl, hb⟩
  have hb3 := bnext hb2 hb
  clear hb hb2
  go_wp2_with (fail)
  have ol := Tw.new (4096 + 4 * (va / 4194304)) 2049 (8192 + 4 * (va / 4096 % 1024)) E w3
  refine (next_two 2147483649 0 va _ 65536 (by decide) (by decide) v0 v1 _ _ _ _ _ _ _ ol (by decide) e0 _ hleaf.out).mono ?_
  unfold W.hereS
  dsimp only
  rintro e w4 ⟨rfl, hb⟩
  replace ol := ol.below hb
  have hb4 := bnext (bnew hb3 _) hb
  clear hb hleaf
  go_wp2
  go_ret
  exact ⟨rfl, bnew hb4 _⟩

set_option maxHeartbeats 1600000 in
theorem marks_lm (va flags E N : Int) (v0 : 0 ≤ va) (v1 : va < 4294967296) (e0 : 0 ≤ E ∧ E < 4294967296) (n0 : 0 ≤ N ∧ N < 4294967296) (hmk : Mk5 flags E) (hk : W.MkOk 2 64 E N) (hne : (N != E) = true) (w : World) :
    Calls Try.prog 5 #[.int .u32 va, .int .u32 flags, .bool false] w fun e w' => e = .returned (.bool true) ∧ Below w.heap.size w w' := by
  have hI := W.and_1023 (va / 4096) (by omega) (by omega)
  have mk2 : W.mk 2 1 = 2049 := by kernel_rfl
  have hor := W.or_28672 va v0 v1
  have hq := hk.q
  rw [hne] at hq
  have hleaf := W.two_leaf va 2 _ _ E v0 v1 rfl rfl hk.b hk.l (W.two _ _) (W.two 2049 E) rfl rfl rfl rfl
  rw [W.leaf_mark _ E va 2 0 false hk.my rfl (by rw [hk.hn]; exact hne), hk.hn] at hleaf
  have hor2 := hk.o
  have hleaf2 := W.two_leaf va 2 _ _ N v0 v1 rfl rfl hk.b2 hk.l2 (W.two _ _) (W.two 2049 N) rfl rfl rfl rfl
  have hoff : W.offv va false = va % 4096 := rfl
  rw [W.leaf_here _ N va 2 0 false hk.my2 rfl hk.n2 (by rw [hk.p2, hoff]; omega), hk.p2, hoff] at hleaf2
  replace hleaf2 : Hid (_ = W.hereS (28672 + va % 4096)) := hleaf2
  replace hleaf : Hid _ := hleaf
  go_enter Try.func5, Try.ntmps5
  go_wp2_with (go_at_call 7; refine (first9_any _).mono ?_; rintro x w1 ⟨rfl, hb1⟩)
  refine (hmk _).mono ?_
  rintro e w2 ⟨rfl, hb⟩
  have hb2 := bnext hb1 hb
  clear hb hb1
  go_wp2_with (fail)
  refine (make_f 2 (by decide) (by decide) 1 (by decide) (by decide) _ _ rfl).mono ?_
  rw [mk2]
  rintro e w3 ⟨rfl, hb⟩
  have hb3 := bnext hb2 hb
  clear hb hb2
  go_wp2_with (fail)
  have ol := Tw.new (4096 + 4 * (va / 4194304)) 2049 (8192 + 4 * (va / 4096 % 1024)) E w3
  refine (next_two 2147483649 0 va _ 65536 (by decide) (by decide) v0 v1 _ _ _ _ _ _ _ ol (by decide) e0 _ hleaf.out).mono ?_
  unfold W.markS
  dsimp only
  rintro e w4 ⟨rfl, hb⟩
  replace ol := ol.below hb
  have hb4 := bnext (bnew hb3 _) hb
  clear hb hleaf
  obtain ⟨t5, t6, tz⟩ := ol.cells
  have lt := ol.lt
  have os := Sp.new 4 0 (8192 + 4 * (va / 4096 % 1024)) N 0 w4
  replace ol := ol.alloc (.cells #[.int .i64 4, .int .u32 0, .int .u32 (8192 + 4 * (va / 4096 % 1024)), .int .u32 N, .int .u32 0] 28)
  replace hb4 := bnew hb4 (.cells #[.int .i64 4, .int .u32 0, .int .u32 (8192 + 4 * (va / 4096 % 1024)), .int .u32 N, .int .u32 0] 28)
  have hb3s := hb3.size
  go_wp2_with (fail)
  go_quiet (fail)
  replace ol := ol.below (below_drewN (Below.refl _ _) nq)
  replace os := os.below (below_drewN (Below.refl _ _) nq)
  replace hb4 := below_drewN hb4 nq
  clear t5 t6 tz lt
  generalize World.drewN (World.alloc w4 _) _ = W5 at *
  obtain ⟨t5, t6, tz⟩ := ol.cells
  obtain ⟨x0, x1, x2, x3, x4, xz⟩ := os.cells
  have lt := ol.lt
  go_wp2_with (fail)
  refine (next_two 2147483649 0 va _ 65536 (by decide) (by decide) v0 v1 _ _ _ _ _ _ _ (ol.set N) (by decide) n0 _ hleaf2.out).mono ?_
  unfold W.hereS
  dsimp only
  rintro e w6 ⟨rfl, hb⟩
  have hb6 := bnext (hb4.setCell (p := ⟨w3.heap.size, 6, none⟩) hb3s (.int .u32 N)) hb
  clear hb hleaf2
  go_wp2
  go_ret
  exact ⟨rfl, bnew hb6 _⟩

set_option maxHeartbeats 1600000 in
theorem marks_sm (va flags E N : Int) (v0 : 0 ≤ va) (v1 : va < 4294967296) (e0 : 0 ≤ E ∧ E < 4294967296) (n0 : 0 ≤ N ∧ N < 4294967296) (hmk : Mk5 flags E) (hk : W.MkOk 3 192 E N) (hne : (N != E) = true) (w : World) :
    Calls Try.prog 5 #[.int .u32 va, .int .u32 flags, .bool true] w fun e w' => e = .returned (.bool true) ∧ Below w.heap.size w w' := by
  have hI := W.and_1023 (va / 4096) (by omega) (by omega)
  have mk2 : W.mk 2 1 = 2049 := by kernel_rfl
  have hor := W.or_28672 va v0 v1
  have hq := hk.q
  rw [hne] at hq
  have hleaf := W.two_leaf va 3 _ _ E v0 v1 rfl rfl hk.b hk.l (W.two _ _) (W.two 2049 E) rfl rfl rfl rfl
  rw [W.leaf_mark _ E va 3 0 false hk.my rfl (by rw [hk.hn]; exact hne), hk.hn] at hleaf
  have hor2 := hk.o
  have hleaf2 := W.two_leaf va 3 _ _ N v0 v1 rfl rfl hk.b2 hk.l2 (W.two _ _) (W.two 2049 N) rfl rfl rfl rfl
  have hoff : W.offv va false = va % 4096 := rfl
  rw [W.leaf_here _ N va 3 0 false hk.my2 rfl hk.n2 (by rw [hk.p2, hoff]; omega), hk.p2, hoff] at hleaf2
  replace hleaf2 : Hid (_ = W.hereS (28672 + va % 4096)) := hleaf2
  replace hleaf : Hid _ := hleaf
  go_enter Try.func5, Try.ntmps5
  go_wp2_with (go_at_call 7; refine (first9_any _).mono ?_; rintro x w1 ⟨rfl, hb1⟩)
  refine (hmk _).mono ?_
  rintro e w2 ⟨rfl, hb⟩
  have hb2 := bnext hb1 hb
  clear hb hb1
  go_wp2_with (fail)
  refine (make_f 2 (by decide) (by decide) 1 (by decide) (by decide) _ _ rfl).mono ?_
  rw [mk2]
  rintro e w3 ⟨rfl, hb⟩
  have hb3 := bnext hb2 hb
  clear hb hb2
  go_wp2_with (fail)
  have ol := Tw.new (4096 + 4 * (va / 4194304)) 2049 (8192 + 4 * (va / 4096 % 1024)) E w3
  refine (next_two 2147483649 0 va _ 65536 (by decide) (by decide) v0 v1 _ _ _ _ _ _ _ ol (by decide) e0 _ hleaf.out).mono ?_
  unfold W.markS
  dsimp only
  rintro e w4 ⟨rfl, hb⟩
  replace ol := ol.below hb
  have hb4 := bnext (bnew hb3 _) hb
  clear hb hleaf
  obtain ⟨t5, t6, tz⟩ := ol.cells
  have lt := ol.lt
  have os := Sp.new 4 0 (8192 + 4 * (va / 4096 % 1024)) N 0 w4
  replace ol := ol.alloc (.cells #[.int .i64 4, .int .u32 0, .int .u32 (8192 + 4 * (va / 4096 % 1024)), .int .u32 N, .int .u32 0] 28)
  replace hb4 := bnew hb4 (.cells #[.int .i64 4, .int .u32 0, .int .u32 (8192 + 4 * (va / 4096 % 1024)), .int .u32 N, .int .u32 0] 28)
  have hb3s := hb3.size
  go_wp2_with (fail)
  go_quiet (fail)
  replace ol := ol.below (below_drewN (Below.refl _ _) nq)
  replace os := os.below (below_drewN (Below.refl _ _) nq)
  replace hb4 := below_drewN hb4 nq
  clear t5 t6 tz lt
  generalize World.drewN (World.alloc w4 _) _ = W5 at *
  obtain ⟨t5, t6, tz⟩ := ol.cells
  obtain ⟨x0, x1, x2, x3, x4, xz⟩ := os.cells
  have lt := ol.lt
  go_wp2_with (fail)
  refine (next_two 2147483649 0 va _ 65536 (by decide) (by decide) v0 v1 _ _ _ _ _ _ _ (ol.set N) (by decide) n0 _ hleaf2.out).mono ?_
  unfold W.hereS
  dsimp only
  rintro e w6 ⟨rfl, hb⟩
  have hb6 := bnext (hb4.setCell (p := ⟨w3.heap.size, 6, none⟩) hb3s (.int .u32 N)) hb
  clear hb hleaf2
  go_wp2
  go_ret
  exact ⟨rfl, bnew hb6 _⟩

theorem walkMarks_walk (va flags : Int) (store : Bool) (v0 : 0 ≤ va) (v1 : va < 4294967296) (f0 : 0 ≤ flags) (f1 : flags < 4294967296) (w : World) :
    Calls Try.prog 5 #[.int .u32 va, .int .u32 flags, .bool store] w fun e w' => e = .returned (.bool true) ∧ Below w.heap.size w w' := by
  obtain ⟨f, h1, h2, h3⟩ := W.flags_five flags f0 f1
  have hmk := make_5 flags f h3 h1
  have e0 : 0 ≤ (7168 + f : Int) ∧ (7168 + f : Int) < 4294967296 := by omega
  cases store
  · have hk := W.mk_2 f h1 h2
    have hn := W.needs_lt (7168 + f) 2
    cases hne : (W.needs (7168 + f) 2 != 7168 + f)
    · exact marks_lh va flags _ _ v0 v1 e0 hn hmk hk hne w
    · exact marks_lm va flags _ _ v0 v1 e0 hn hmk hk hne w
  · have hk := W.mk_3 f h1 h2
    have hn := W.needs_lt (7168 + f) 3
    cases hne : (W.needs (7168 + f) 3 != 7168 + f)
    · exact marks_sh va flags _ _ v0 v1 e0 hn hmk hk hne w
    · exact marks_sm va flags _ _ v0 v1 e0 hn hmk hk hne w
end Go.Proofs.Ytkcdkjmkgncihaa
