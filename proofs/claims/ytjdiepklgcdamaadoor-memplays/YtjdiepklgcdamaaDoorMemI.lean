/- Same of package mem. -/
import Derived.Test.YtjdiepklgcdamaaDoorMemH
import Derived.Laws.StructEq
namespace Go.Proofs.YtjdiepklgcdamaaDoor
open Go.ChangeShapes Go.WideShapes Go.ChangeAt Go.RowKit
set_option linter.unusedVariables false
set_option linter.unusedSimpArgs false

theorem eq_line (a b c d x y z t : Int) (w : World) : (Op.equalIn 10000 38 (.agg #[.int .u32 a, .int .u32 b, .int .u32 c, .int .u32 d]) (.agg #[.int .u32 x, .int .u32 y, .int .u32 z, .int .u32 t])).run Tryd.prog w = .ok (a == x && (b == y && (c == z && d == t))) w := by
  have u3 := Tryd.underlying24
  have a3 := Tryd.isAgg24
  have z3 := Tryd.sizeOf24
  rw [show (10000 : Nat) = 9999 + 1 from rfl, Op.equalIn]
  simp only [Sem.run_bind, run_underlying Tryd.underlying38, Result.andThen_ok]
  simp only [Std.Legacy.Range.forIn_eq_forIn_range', Std.Legacy.Range.size, Nat.sub_zero, Nat.add_sub_cancel, Nat.div_one, List.range'_succ, List.range'_zero, List.forIn_cons, List.forIn_nil]
  go_simp
  by_cases h1 : a = x <;> by_cases h2 : b = y <;> by_cases h3 : c = z <;> by_cases h4 : d = t <;> simp [h1, h2, h3, h4]
theorem neq_line (a b c d x y z t : Int) (w : World) : (binOp .neq 38 (.agg #[.int .u32 a, .int .u32 b, .int .u32 c, .int .u32 d]) (.agg #[.int .u32 x, .int .u32 y, .int .u32 z, .int .u32 t])).run Tryd.prog w = .ok (.bool (!(a == x && (b == y && (c == z && d == t))))) w := by
  rw [run_neq_struct, eq_line]; rfl

set_option maxHeartbeats 1600000 in
theorem equal_yes (c c2 n cap cap2 : Nat) (f g : Nat → Int) (w : World) (n2 : n ≤ 4096)
    (hf : ∀ j, j < n * 4 → w.cell? ⟨c, j, none⟩ = some (.int .u32 (f j))) (hg : ∀ j, j < n * 4 → w.cell? ⟨c2, j, none⟩ = some (.int .u32 (g j))) (he : ∀ j, j < n * 4 → f j = g j) : Calls Tryd.prog 37 #[.slice (some ⟨c, 0, none⟩) n cap, .slice (some ⟨c2, 0, none⟩) n cap2] w fun e w' => e = .returned (.bool true) ∧ Below w.heap.size w w' := by
  have hfg : Hid (∀ j, j < n * 4 → w.cell? ⟨c, j, none⟩ = some (.int .u32 (f j))) := hf
  have hgg : Hid (∀ j, j < n * 4 → w.cell? ⟨c2, j, none⟩ = some (.int .u32 (g j))) := hg
  have heg : Hid (∀ j, j < n * 4 → f j = g j) := he
  clear hf hg he
  go_enter Tryd.func37, Tryd.ntmps37
  go_wp2
  go_loopw [13] (fun i wr => ∃ j : Nat, j ≤ n ∧ i = .int .i64 j ∧ ∃ d, wr = w.drewN d) (fun i _ => n - (intOf i).toNat)
  case atStart => exact ⟨0, Nat.zero_le _, rfl, 0, rfl⟩
  case round =>
    obtain ⟨j, hj, rfl, d, rfl⟩ := hrel
    by_cases hlt : j < n
    · have l0 := hfg.out (j * 4) (by omega)
      have l1 := hfg.out (j * 4 + 1) (by omega)
      have l2 := hfg.out (j * 4 + 2) (by omega)
      have l3 := hfg.out (j * 4 + 3) (by omega)
      have m0 := hgg.out (j * 4) (by omega)
      have m1 := hgg.out (j * 4 + 1) (by omega)
      have m2 := hgg.out (j * 4 + 2) (by omega)
      have m3 := hgg.out (j * 4 + 3) (by omega)
      rw [← heg.out _ (by omega)] at m0 m1 m2 m3
      have hc := neq_line (f (j * 4)) (f (j * 4 + 1)) (f (j * 4 + 2)) (f (j * 4 + 3)) (f (j * 4)) (f (j * 4 + 1)) (f (j * 4 + 2)) (f (j * 4 + 3))
      simp only [beq_self_eq_true, Bool.and_self, Bool.not_true] at hc
      go_wp2
      go_quiet (fail)
      go_wp2
      go_roundw
      case rel => exact ⟨j + 1, by omega, by go_num, _, rfl⟩
      case measure => simp [intOf]; omega
    · have hk' : n = j := by omega
      subst hk'
      go_wp2
      go_ret
      exact ⟨rfl, below_drewN (Below.refl _ _) _⟩

set_option maxHeartbeats 1600000 in
theorem equal_no (c c2 n cap cap2 d : Nat) (f g : Nat → Int) (w : World) (n2 : n ≤ 4096) (hdn : d < n)
    (hf : ∀ j, j < n * 4 → w.cell? ⟨c, j, none⟩ = some (.int .u32 (f j))) (hg : ∀ j, j < n * 4 → w.cell? ⟨c2, j, none⟩ = some (.int .u32 (g j))) (he : ∀ j, j < d * 4 → f j = g j)
    (hn : (f (d * 4) == g (d * 4) && (f (d * 4 + 1) == g (d * 4 + 1) && (f (d * 4 + 2) == g (d * 4 + 2) && f (d * 4 + 3) == g (d * 4 + 3)))) = false) : Calls Tryd.prog 37 #[.slice (some ⟨c, 0, none⟩) n cap, .slice (some ⟨c2, 0, none⟩) n cap2] w fun e w' => e = .returned (.bool false) ∧ Below w.heap.size w w' := by
  have hfg : Hid (∀ j, j < n * 4 → w.cell? ⟨c, j, none⟩ = some (.int .u32 (f j))) := hf
  have hgg : Hid (∀ j, j < n * 4 → w.cell? ⟨c2, j, none⟩ = some (.int .u32 (g j))) := hg
  have heg : Hid (∀ j, j < d * 4 → f j = g j) := he
  have hng : Hid ((f (d * 4) == g (d * 4) && (f (d * 4 + 1) == g (d * 4 + 1) && (f (d * 4 + 2) == g (d * 4 + 2) && f (d * 4 + 3) == g (d * 4 + 3)))) = false) := hn
  clear hf hg he hn
  go_enter Tryd.func37, Tryd.ntmps37
  go_wp2
  go_loopw [13] (fun i wr => ∃ j : Nat, j ≤ d ∧ i = .int .i64 j ∧ ∃ q, wr = w.drewN q) (fun i _ => d - (intOf i).toNat)
  case atStart => exact ⟨0, Nat.zero_le _, rfl, 0, rfl⟩
  case round =>
    obtain ⟨j, hj, rfl, q, rfl⟩ := hrel
    have hjn : j < n := by omega
    have l0 := hfg.out (j * 4) (by omega)
    have l1 := hfg.out (j * 4 + 1) (by omega)
    have l2 := hfg.out (j * 4 + 2) (by omega)
    have l3 := hfg.out (j * 4 + 3) (by omega)
    have m0 := hgg.out (j * 4) (by omega)
    have m1 := hgg.out (j * 4 + 1) (by omega)
    have m2 := hgg.out (j * 4 + 2) (by omega)
    have m3 := hgg.out (j * 4 + 3) (by omega)
    by_cases hlt : j < d
    · rw [← heg.out _ (by omega)] at m0 m1 m2 m3
      have hc := neq_line (f (j * 4)) (f (j * 4 + 1)) (f (j * 4 + 2)) (f (j * 4 + 3)) (f (j * 4)) (f (j * 4 + 1)) (f (j * 4 + 2)) (f (j * 4 + 3))
      simp only [beq_self_eq_true, Bool.and_self, Bool.not_true] at hc
      go_wp2
      go_quiet (fail)
      go_wp2
      go_roundw
      case rel => exact ⟨j + 1, by omega, by go_num, _, rfl⟩
      case measure => simp [intOf]; omega
    · have hk' : d = j := by omega
      subst hk'
      have hc := neq_line (f (d * 4)) (f (d * 4 + 1)) (f (d * 4 + 2)) (f (d * 4 + 3)) (g (d * 4)) (g (d * 4 + 1)) (g (d * 4 + 2)) (g (d * 4 + 3))
      rw [hng.out] at hc
      simp only [Bool.not_false] at hc
      go_wp2
      go_quiet (fail)
      go_wp2
      go_ret
      exact ⟨rfl, below_drewN (below_drewN (Below.refl _ _) _) _⟩

def W.sameW (n : Nat) (f g : Nat → Int) : Bool := (List.range (n * 4)).all fun j => f j == g j
theorem sameW_iff (n : Nat) (f g : Nat → Int) : W.sameW n f g = true ↔ ∀ j, j < n * 4 → f j = g j := by simp [W.sameW]
theorem first_diff (P : Nat → Bool) : ∀ n : Nat, (∃ j, j < n ∧ P j = false) → ∃ d, d < n ∧ P d = false ∧ ∀ j, j < d → P j = true
  | 0, h => by obtain ⟨j, h, _⟩ := h; omega
  | n + 1, h => by
    by_cases e : ∃ j, j < n ∧ P j = false
    · obtain ⟨d, h1, h2, h3⟩ := first_diff P n e
      exact ⟨d, by omega, h2, h3⟩
    · obtain ⟨j, h1, h2⟩ := h
      have ej : j = n := by
        by_cases e2 : j < n
        · exact absurd ⟨j, e2, h2⟩ e
        · omega
      subst ej
      refine ⟨j, by omega, h2, fun i hi => ?_⟩
      cases hp : P i
      · exact absurd ⟨i, hi, hp⟩ e
      · rfl
theorem equal_any (c c2 n cap cap2 : Nat) (f g : Nat → Int) (w : World) (n2 : n ≤ 4096)
    (hf : ∀ j, j < n * 4 → w.cell? ⟨c, j, none⟩ = some (.int .u32 (f j))) (hg : ∀ j, j < n * 4 → w.cell? ⟨c2, j, none⟩ = some (.int .u32 (g j))) : Calls Tryd.prog 37 #[.slice (some ⟨c, 0, none⟩) n cap, .slice (some ⟨c2, 0, none⟩) n cap2] w fun e w' => e = .returned (.bool (W.sameW n f g)) ∧ Below w.heap.size w w' := by
  cases h : W.sameW n f g
  · have hx : ∃ j, j < n ∧ (f (j * 4) == g (j * 4) && (f (j * 4 + 1) == g (j * 4 + 1) && (f (j * 4 + 2) == g (j * 4 + 2) && f (j * 4 + 3) == g (j * 4 + 3)))) = false := by
      apply Classical.byContradiction
      intro hn
      have : W.sameW n f g = true := by
        rw [sameW_iff]
        intro j hj
        cases hp : (f (j / 4 * 4) == g (j / 4 * 4) && (f (j / 4 * 4 + 1) == g (j / 4 * 4 + 1) && (f (j / 4 * 4 + 2) == g (j / 4 * 4 + 2) && f (j / 4 * 4 + 3) == g (j / 4 * 4 + 3))))
        · exact absurd ⟨j / 4, by omega, hp⟩ hn
        · simp only [Bool.and_eq_true, beq_iff_eq] at hp
          obtain ⟨p0, p1, p2, p3⟩ := hp
          have : j % 4 = 0 ∨ j % 4 = 1 ∨ j % 4 = 2 ∨ j % 4 = 3 := by omega
          rcases this with e | e | e | e
          · rw [show j = j / 4 * 4 by omega]; exact p0
          · rw [show j = j / 4 * 4 + 1 by omega]; exact p1
          · rw [show j = j / 4 * 4 + 2 by omega]; exact p2
          · rw [show j = j / 4 * 4 + 3 by omega]; exact p3
      rw [this] at h; cases h
    obtain ⟨d, h1, h2, h3⟩ := first_diff _ n hx
    refine equal_no c c2 n cap cap2 d f g w n2 h1 hf hg ?_ h2
    intro j hj
    have hp := h3 (j / 4) (by omega)
    simp only [Bool.and_eq_true, beq_iff_eq] at hp
    obtain ⟨p0, p1, p2, p3⟩ := hp
    have : j % 4 = 0 ∨ j % 4 = 1 ∨ j % 4 = 2 ∨ j % 4 = 3 := by omega
    rcases this with e | e | e | e
    · rw [show j = j / 4 * 4 by omega]; exact p0
    · rw [show j = j / 4 * 4 + 1 by omega]; exact p1
    · rw [show j = j / 4 * 4 + 2 by omega]; exact p2
    · rw [show j = j / 4 * 4 + 3 by omega]; exact p3
  · exact equal_yes c c2 n cap cap2 f g w n2 hf hg ((sameW_iff n f g).1 h)

theorem same_any (b c cap b2 c2 cap2 n : Nat) (f g : Nat → Int) (w : World) (h1 : MAt b c n cap f w) (h2 : MAt b2 c2 n cap2 g w) : Calls Tryd.prog 24 #[.pointer (some ⟨b, 0, none⟩), .pointer (some ⟨b2, 0, none⟩)] w fun e w' => e = .returned (.bool (W.sameW n f g)) ∧ Below w.heap.size w w' := by
  have hd := h1.head
  have hd2 := h2.head
  have n2 := h1.n2
  have hf : Hid (∀ j, j < n * 4 → w.cell? ⟨c, j, none⟩ = some (.int .u32 (f j))) := h1.word
  have hg : Hid (∀ j, j < n * 4 → w.cell? ⟨c2, j, none⟩ = some (.int .u32 (g j))) := h2.word
  go_enter Tryd.func24, Tryd.ntmps24
  go_wp2_with fail
  go_region_with (go_at_call 37; refine (equal_any c c2 n cap cap2 f g w.drew n2 hf.out hg.out).mono ?_; rintro e w3 ⟨rfl, b3⟩)
  all_goals
    go_wp2
    go_ret
    exact ⟨rfl, (Below.refl _ _).drew.trans b3⟩
end Go.Proofs.YtjdiepklgcdamaaDoor
