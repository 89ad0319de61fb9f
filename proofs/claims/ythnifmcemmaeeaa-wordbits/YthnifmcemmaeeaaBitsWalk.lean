/- WordBits, walked: it returns true, whatever the word and the numbers. -/
import Derived.Test.YthnifmcemmaeeaaPack
import Derived.Test.YthnifmcemmaeeaaMath5
import Derived.WalkSpells
namespace Go.Proofs.Ythnifmcemmaeeaa
open Go.ChangeShapes Go.WideShapes Go.ChangeAt Go.RowKit
set_option linter.unusedVariables false

theorem infoField : (Try.prog.info? 35).map (fun i => (i.zero, i.size, i.bytes)) = some (some (.agg #[.int .i64 0, .int .i64 0, .int .u32 0]), 3, 24) := by kernel_rfl

theorem pack_nil (w : World) : Calls Try.prog 25 #[.slice none 0 0] w fun e w' => e = .returned (.int .u32 0) ∧ w = w' := by
  go_enter Try.func25, Try.ntmps25
  go_wp2
  refine wp_loop_rounds 1 ?_
  rw [rounds_succ]
  go_wp2
  go_ret
  exact ⟨rfl, rfl⟩

theorem add_off (g n : Nat) : (⟨g, 0, none⟩ : Addr).add n = ⟨g, 0 + n, none⟩ := by
  unfold Addr.add
  split
  · simp
  · rfl

theorem three_new (w : World) (t : TypeId) (a b c : Value) : ∀ j u, [a, b, c][j]? = some u → (w.alloc (.cells #[a, b, c] t)).cell? ((⟨w.heap.size, 0, none⟩ : Addr).add j) = some u := by
  intro j u h
  match j, h with
  | 0, h => simp at h; subst h; simp [go_sem, Addr.add]
  | 1, h => simp at h; subst h; simp [go_sem, Addr.add]
  | 2, h => simp at h; subst h; simp [go_sem, Addr.add]

set_option maxHeartbeats 800000 in
set_option maxRecDepth 100000 in
theorem bits_walk (x low n at' k : Int) (x0 : 0 ≤ x) (x1 : x < 4294967296) (l0 : -9223372036854775808 ≤ low) (l1 : low ≤ 9223372036854775807) (n0 : -9223372036854775808 ≤ n) (n1 : n ≤ 9223372036854775807)
    (t0 : -9223372036854775808 ≤ at') (t1 : at' ≤ 9223372036854775807) (k0 : -9223372036854775808 ≤ k) (k1 : k ≤ 9223372036854775807) (w : World) :
    Calls Try.prog 7 #[.int .u32 x, .int .i64 low, .int .i64 n, .int .i64 at', .int .i64 k] w fun e w' => e = .returned (.bool true) ∧ Below w.heap.size w w' := by
  obtain ⟨i0, hi, hx⟩ := Option.map_eq_some_iff.1 infoField
  simp only [Prod.mk.injEq] at hx
  obtain ⟨hz0, hz1, hz2⟩ := hx
  have hb1 := W.and15 low
  have hb2 := W.and15 n
  have hb3 := W.and7 at'
  have hb4 := W.and7 k
  go_enter Try.func7, Try.ntmps7
  go_wp2_with (first | (go_at_call 9; refine (first_any _).mono ?_; rintro e w1 ⟨rfl, hw1⟩))
  go_loopw [12, 13] (fun v i wr => ∃ j : Nat, j ≤ 32 ∧ i = .int .i64 (31 - j) ∧ wr.ownsRow w1.heap.size 35 3 v j (W.bcells x j) ∧ Below w1.heap.size w1 wr) (fun _ i _ => (intOf i + 1).toNat)
  case atStart => exact ⟨0, by omega, rfl, World.ownsRow_nil _ _ _ _, Below.refl _ _⟩
  case round =>
    obtain ⟨j, hj, rfl, hown, hbl⟩ := hrel
    have hsz := hbl.size
    by_cases hlt : j < 32
    · go_wp2_with (first
        | (go_at_call 12; refine (bits_any _ _ _ _).mono ?_; rintro e w' ⟨rfl, kq, rfl⟩)
        | (at_builtin; refine wpList_append_own _ rfl _ _ 32 rfl w1.heap.size 35 i0 (.agg #[.int .i64 0, .int .i64 0, .int .u32 0]) 3 24 Try.underlying32 hi hz0 hz1 hz2 rfl (by decide) _ j (W.bcells x j) rfl ?c1 ⟨wr.heap.size, 0, none⟩ 1 1 [.int .i64 (31 - j), .int .i64 1, .int .u32 (W.bitsOf x (31 - j) 1)] rfl rfl ?c2 ?c3 ?c4 ?c5 ?c6 ?_))
      case c1 => exact World.ownsRow.alloc (w := wr.drewN _) hown _
      case c2 => exact three_new (wr.drewN _) _ _ _ _
      case c3 => intro u hu; simp at hu; rcases hu with rfl | rfl | rfl <;> rfl
      case c4 => unfold maxLen; omega
      case c5 => omega
      case c6 => simp; omega
      intro v' w2 hown' hg _
      have hb2 : Below w1.heap.size w1 w2 := Below.grown ((below_drewN hbl kq).alloc (by simp; omega) _) hg (by simp; omega) (fun b hb => (hown.lt b hb).1)
      have X : Hid (w2.ownsRow w1.heap.size 35 3 v' (j + 1) (W.bcells x (j + 1)) ∧ Below w1.heap.size w1 w2) := ⟨hown', hb2⟩
      clear hown' hg hb2
      go_wp2
      go_roundw
      case rel => exact ⟨j + 1, by omega, by go_num, X.out.1, X.out.2⟩
      case measure => simp [intOf]; omega
    · have hj32 : j = 32 := by omega
      subst hj32
      rcases hown.2 with ⟨_, h32⟩ | ⟨g, cap, cur, rfl, hg, hh, hcap, hmax, hcur, htake⟩
      · omega
      have hcells := hown.cells (g := g) rfl
      have hgl := (hown.lt g rfl).2
      clear hown hh hcur htake
      have p0 : ∀ j, j < 32 → wr.cell? ⟨g, 0 + j * 3, none⟩ = some (.int .i64 (W.bL j)) := fun j hj => by
        have := hcells (j * 3) _ (W.bcells_get x 32 j hj).1
        rwa [add_off] at this
      have p1 : ∀ j, j < 32 → wr.cell? ⟨g, 0 + j * 3 + 1, none⟩ = some (.int .i64 (W.bN j)) := fun j hj => by
        have := hcells (j * 3 + 1) _ (W.bcells_get x 32 j hj).2.1
        rwa [add_off, ← Nat.add_assoc] at this
      have p2 : ∀ j, j < 32 → wr.cell? ⟨g, 0 + j * 3 + 2, none⟩ = some (.int .u32 (W.bV x j)) := fun j hj => by
        have := hcells (j * 3 + 2) _ (W.bcells_get x 32 j hj).2.2
        rwa [add_off, ← Nat.add_assoc] at this
      have hP : Hid (∀ d, Calls Try.prog 25 #[.slice (some ⟨g, 0, none⟩) 32 cap] (wr.drewN d) fun e w' => e = .returned (.int .u32 x) ∧ Below wr.heap.size wr w') := by
        intro d
        refine (pack_any g 0 32 cap W.bL W.bN (W.bV x) (wr.drewN d) (by decide) hgl p0 p1 p2).mono ?_
        rintro e w' ⟨rfl, h⟩
        exact ⟨ret_int (W.bpack_all x x0 x1), (below_drewN (Below.refl _ _) d).trans h⟩
      clear p0 p1 p2 hcells
      have e3 : (W.bitsOf x (low % 16) (n % 16 + 1) == W.right (W.left x (32 - low % 16 - (n % 16 + 1))) (32 - (n % 16 + 1)) false) = true := by
        rw [W.bits_shift x (low % 16) (n % 16 + 1) x0 x1 (by omega) (by omega) (by omega) (by omega) (by omega)]; simp
      by_cases ht : at' % 8 + (k % 8 + 1) ≤ n % 16 + 1
      · have e1 : (W.bitsOf (W.bitsOf x (low % 16) (n % 16 + 1)) (at' % 8) (k % 8 + 1) != W.bitsOf x (low % 16 + at' % 8) (k % 8 + 1)) = false := by
          rw [W.part_part x (low % 16) (n % 16 + 1) (at' % 8) (k % 8 + 1) x0 x1 (by omega) (by omega) (by omega) (by omega) ht (by omega)]; simp
        go_wp2_with (first
          | (go_at_call 12; refine (bits_any _ _ _ _).mono ?_; rintro e w' ⟨rfl, kq, rfl⟩))
        refine (hP.out _).mono ?_
        rintro e w3 ⟨rfl, hb3⟩
        go_wp2_with (first | (go_at_call 24; refine (left_any _ _ _).mono ?_; rintro e w' ⟨rfl, rfl⟩) | (go_at_call 22; refine (right_any _ _ _ _).mono ?_; rintro e w' ⟨rfl, rfl⟩) | (go_at_call 25; refine (pack_nil _).mono ?_; rintro e w' ⟨rfl, rfl⟩))
        go_ret
        exact ⟨rfl, hw1.trans ((hbl.mono hw1.size).trans (hb3.mono (by have := hw1.size; omega)))⟩
      · go_wp2_with (first
          | (go_at_call 12; refine (bits_any _ _ _ _).mono ?_; rintro e w' ⟨rfl, kq, rfl⟩))
        refine (hP.out _).mono ?_
        rintro e w3 ⟨rfl, hb3⟩
        go_wp2_with (first | (go_at_call 24; refine (left_any _ _ _).mono ?_; rintro e w' ⟨rfl, rfl⟩) | (go_at_call 22; refine (right_any _ _ _ _).mono ?_; rintro e w' ⟨rfl, rfl⟩) | (go_at_call 25; refine (pack_nil _).mono ?_; rintro e w' ⟨rfl, rfl⟩))
        go_ret
        exact ⟨rfl, hw1.trans ((hbl.mono hw1.size).trans (hb3.mono (by have := hw1.size; omega)))⟩
end Go.Proofs.Ythnifmcemmaeeaa
