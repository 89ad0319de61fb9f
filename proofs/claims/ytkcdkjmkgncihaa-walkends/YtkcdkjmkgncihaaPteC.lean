/- May, Page and Make, and the document's own. -/
import Derived.Test.YtkcdkjmkgncihaaPteA
import Derived.Test.YtkcdkjmkgncihaaPteB
namespace Go.Proofs.Ytkcdkjmkgncihaa
open Go.ChangeShapes Go.WideShapes Go.ChangeAt Go.RowKit
set_option linter.unusedVariables false

theorem page_any (e : Int) (w : World) : Calls Try.prog 28 #[.int .u32 e] w fun x w' => x = .returned (.int .u32 (W.bitsOf e 10 22)) ∧ ∃ k, w' = w.drewN k := by
  go_enter Try.func28, Try.ntmps28
  go_wp2_with (go_at_call 18; refine (bits_any _ _ _ _).mono ?_; rintro e w' ⟨rfl, k, rfl⟩)
  go_ret
  exact ⟨rfl, _, rfl⟩

theorem make_any (page : Int) (p0 : 0 ≤ page) (p1 : page < 4294967296) (b off len cap : Nat) (f : Nat → Int) (w : World) (hl : len ≤ 4611686018427387904) (hbB : b < w.heap.size)
    (hc0 : ∀ j, j < len → w.cell? ⟨b, off + j, none⟩ = some (.int .u32 (f j))) :
    Calls Try.prog 14 #[.int .u32 page, .slice (some ⟨b, off, none⟩) len cap] w fun e w' => e = .returned (.int .u32 (W.mk page (W.orAll f len))) ∧ Below w.heap.size w w' := by
  go_enter Try.func14, Try.ntmps14
  go_wp2
  go_loopw [5, 10] (fun t i wr => ∃ k : Nat, k ≤ len ∧ i = .int .i64 k ∧ t = .int .u32 (W.orAll f k) ∧ wr = w) (fun _ i _ => len - (intOf i).toNat)
  case atStart => exact ⟨0, Nat.zero_le _, rfl, rfl, rfl⟩
  case round =>
    obtain ⟨k, hk, rfl, rfl, rfl⟩ := hrel
    by_cases hlt : k < len
    · have g0 := hc0 k hlt
      have hp : Hid (W.orAll f (k + 1) = bits .or .u32 (W.orAll f k) (f k)) := rfl
      clear hc0
      go_wp2
      go_roundw
      case rel => exact ⟨k + 1, by omega, by go_num, by rw [hp.out], trivial⟩
      case measure => simp [intOf]; omega
    · obtain rfl : k = len := by omega
      have ha := W.orAll_lt f k
      have hm : Hid (W.pack W.mkL W.mkN (W.mkV (W.orAll f k) page) 2 = W.mk page (W.orAll f k)) := W.mk_pack _ _ ha.1 ha.2 p0 p1
      generalize hA : W.orAll f k = A at *
      go_wp2_with (fail)
      refine (pack_any wr.heap.size 0 2 2 W.mkL W.mkN (W.mkV A page) _ (by decide) (by simp) ?_ ?_ ?_).mono ?_
      iterate 3
        intro j hj
        match j, hj with
        | 0, _ => simp [go_sem, W.mkL, W.mkN, W.mkV]
        | 1, _ => simp [go_sem, W.mkL, W.mkN, W.mkV]
      rintro e w' ⟨rfl, hb⟩
      go_wp2
      go_ret
      exact ⟨ret_int (by rw [hA]; exact hm.out), ((Below.refl _ _).alloc (Nat.le_refl _) _).trans (hb.mono (by simp))⟩

theorem make_nil (page : Int) (p0 : 0 ≤ page) (p1 : page < 4294967296) (a : Option Addr) (cap : Nat) (w : World) :
    Calls Try.prog 14 #[.int .u32 page, .slice a 0 cap] w fun e w' => e = .returned (.int .u32 (W.mk page 0)) ∧ Below w.heap.size w w' := by
  have hm : Hid (W.pack W.mkL W.mkN (W.mkV 0 page) 2 = W.mk page 0) := W.mk_pack _ _ (by decide) (by decide) p0 p1
  go_enter Try.func14, Try.ntmps14
  go_wp2
  refine wp_loop_rounds 1 ?_
  rw [rounds_succ]
  go_wp2_with (fail)
  refine (pack_any w.heap.size 0 2 2 W.mkL W.mkN (W.mkV 0 page) _ (by decide) (by simp) ?_ ?_ ?_).mono ?_
  iterate 3
    intro j hj
    match j, hj with
    | 0, _ => simp [go_sem, W.mkL, W.mkN, W.mkV]
    | 1, _ => simp [go_sem, W.mkL, W.mkN, W.mkV]
  rintro e w' ⟨rfl, hb⟩
  go_wp2
  go_ret
  exact ⟨ret_int hm.out, ((Below.refl _ _).alloc (Nat.le_refl _) _).trans (hb.mono (by simp))⟩

theorem may_any (e a m : Int) (w : World) : Calls Try.prog 12 #[.int .u32 e, .int .i64 a, .int .i64 m] w fun x w' => x = .returned (.bool (W.may e a m)) ∧ w' = w := by
  cases h1 : W.leaf e
  · go_enter Try.func12, Try.ntmps12
    go_wp2_with (go_at_call 20; refine (leaf_any _ _).mono ?_; rintro e w' ⟨rfl, rfl⟩)
    go_ret
    exact ⟨by simp [W.may, h1], rfl⟩
  · cases h2 : W.bad e
    · cases h3 : (bits .and .u32 e (W.asked a) != 0)
      · go_enter Try.func12, Try.ntmps12
        go_wp2_with (first | (go_at_call 20; refine (leaf_any _ _).mono ?_; rintro e w' ⟨rfl, rfl⟩) | (go_at_call 21; refine (bad_any _ _).mono ?_; rintro e w' ⟨rfl, rfl⟩) | (go_at_call 22; refine (asked_any _ _).mono ?_; rintro e w' ⟨rfl, rfl⟩))
        go_ret
        exact ⟨by simp [W.may, h1, h2, h3], rfl⟩
      · go_enter Try.func12, Try.ntmps12
        go_wp2_with (first | (go_at_call 20; refine (leaf_any _ _).mono ?_; rintro e w' ⟨rfl, rfl⟩) | (go_at_call 21; refine (bad_any _ _).mono ?_; rintro e w' ⟨rfl, rfl⟩) | (go_at_call 22; refine (asked_any _ _).mono ?_; rintro e w' ⟨rfl, rfl⟩) | (go_at_call 23; refine (opn_any _ _ _).mono ?_; rintro e w' ⟨rfl, rfl⟩))
        go_ret
        exact ⟨by simp [W.may, h1, h2, h3], rfl⟩
    · go_enter Try.func12, Try.ntmps12
      go_wp2_with (first | (go_at_call 20; refine (leaf_any _ _).mono ?_; rintro e w' ⟨rfl, rfl⟩) | (go_at_call 21; refine (bad_any _ _).mono ?_; rintro e w' ⟨rfl, rfl⟩))
      go_ret
      exact ⟨by simp [W.may, h1, h2], rfl⟩
end Go.Proofs.Ytkcdkjmkgncihaa
