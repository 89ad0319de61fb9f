/- Texts in one: Enc. -/
import Derived.Test.YtopehmpjfndgjaaJ04
import Derived.Test.YtopehmpjfndgjaaJ05
/- What each function of package enc returns, as a plain function of its numbers: a contract a function. -/
namespace Go.Proofs.Ytopehmpjfndgjaa
open Go.ChangeShapes Go.WideShapes Go.ChangeAt Go.RowKit
set_option linter.unusedVariables false

theorem one_cells (w : World) (t : TypeId) (a b c : Value) : (w.alloc (.cells #[a, b, c] t)).cell? ⟨w.heap.size, 0, none⟩ = some a ∧ (w.alloc (.cells #[a, b, c] t)).cell? ⟨w.heap.size, 1, none⟩ = some b ∧ (w.alloc (.cells #[a, b, c] t)).cell? ⟨w.heap.size, 2, none⟩ = some c := by
  simp [go_sem]

theorem move_any (x low to n : Int) (w : World) :
    Calls Try.prog 59 #[.int .u32 x, .int .i64 low, .int .i64 to, .int .i64 n] w fun e w' => e = .returned (.int .u32 (W.moved x low to n)) ∧ Below w.heap.size w w' := by
  go_enter Try.func59, Try.ntmps59
  go_wp2_with (go_at_call 46; refine (bits_any _ _ _ _).mono ?_; rintro e w' ⟨rfl, kq, rfl⟩)
  have hx := one_cells (w.drewN kq) 103 (.int .i64 to) (.int .i64 n) (.int .u32 (W.bitsOf x low n))
  refine (pack_any w.heap.size 0 1 1 (fun _ => to) (fun _ => n) (fun _ => W.bitsOf x low n) _ (by decide) (by simp) ?_ ?_ ?_).mono ?_
  · intro j hj; obtain rfl : j = 0 := by omega
    exact hx.1
  · intro j hj; obtain rfl : j = 0 := by omega
    exact hx.2.1
  · intro j hj; obtain rfl : j = 0 := by omega
    exact hx.2.2
  clear hx
  rintro e w' ⟨rfl, hb⟩
  go_wp2
  go_ret
  exact ⟨rfl, ((below_drewN (Below.refl _ _) _).alloc (by simp) _).trans (hb.mono (by simp))⟩

/-- A layout, as the program has it. -/
def layoutV (f : Int) : Value := .agg #[.int .i64 (W.wid f), .int .i64 (W.pW f 0), .int .i64 (W.pI f 0), .int .i64 (W.pN f 0), .int .i64 (W.pW f 1), .int .i64 (W.pI f 1), .int .i64 (W.pN f 1), .int .i64 (W.pW f 2), .int .i64 (W.pI f 2), .int .i64 (W.pN f 2), .int .i64 (W.pW f 3), .int .i64 (W.pI f 3), .int .i64 (W.pN f 3)]

theorem layout_other (f : Int) (h : ¬ W.isF f) : W.wid f = 0 ∧ W.pieces f = [] := by
  unfold W.isF at h
  simp only [not_or] at h
  obtain ⟨h1, h2, h3, h4, h5⟩ := h
  simp [W.wid, W.pieces, h1, h2, h3, h4, h5]

set_option maxHeartbeats 1600000 in
theorem layoutOf_any (f : Int) (w : World) :
    Calls Try.prog 58 #[.int .u8 f] w fun e w' => e = .returned (layoutV f) ∧ Below w.heap.size w w' := by
  by_cases h : W.isF f
  · rcases h with rfl | rfl | rfl | rfl | rfl
    all_goals
      go_enter Try.func58, Try.ntmps58
      go_wp2
      exact bodyPost_ret (v := layoutV _) (by simp [results, Try.results58, go_sem]; rfl) rfl ⟨rfl, (Below.refl _ _).alloc (Nat.le_refl _) _⟩
  · have hv : Hid (layoutV f = .agg #[.int .i64 0, .int .i64 0, .int .i64 0, .int .i64 0, .int .i64 0, .int .i64 0, .int .i64 0, .int .i64 0, .int .i64 0, .int .i64 0, .int .i64 0, .int .i64 0, .int .i64 0]) := by
      have e := layout_other f h
      have : layoutV f = .agg #[.int .i64 0, .int .i64 0, .int .i64 0, .int .i64 0, .int .i64 0, .int .i64 0, .int .i64 0, .int .i64 0, .int .i64 0, .int .i64 0, .int .i64 0, .int .i64 0, .int .i64 0] := by
        simp [layoutV, W.pW, W.pI, W.pN, e.1, e.2]
      exact this
    unfold W.isF at h
    simp only [not_or] at h
    obtain ⟨h1, h2, h3, h4, h5⟩ := h
    have e1 : (f == 73) = false := by simpa using h1
    have e2 : (f == 83) = false := by simpa using h2
    have e3 : (f == 66) = false := by simpa using h3
    have e4 : (f == 85) = false := by simpa using h4
    have e5 : (f == 74) = false := by simpa using h5
    clear h1 h2 h3 h4 h5
    go_enter Try.func58, Try.ntmps58
    go_wp2
    exact bodyPost_ret (v := layoutV f) (by simp [results, Try.results58, go_sem]; exact hv.out.symm) rfl ⟨rfl, (Below.refl _ _).alloc (Nat.le_refl _) _⟩

theorem piece_at (a0 a1 a2 b0 b1 b2 c0 c1 c2 d0 d1 d2 : Value) :
    (∀ w, (Instr.index 96 (.agg #[a0, a1, a2, b0, b1, b2, c0, c1, c2, d0, d1, d2]) (.int .i64 0)).run Try.prog w = .ok (.agg #[a0, a1, a2]) w)
    ∧ (∀ w, (Instr.index 96 (.agg #[a0, a1, a2, b0, b1, b2, c0, c1, c2, d0, d1, d2]) (.int .i64 1)).run Try.prog w = .ok (.agg #[b0, b1, b2]) w)
    ∧ (∀ w, (Instr.index 96 (.agg #[a0, a1, a2, b0, b1, b2, c0, c1, c2, d0, d1, d2]) (.int .i64 2)).run Try.prog w = .ok (.agg #[c0, c1, c2]) w)
    ∧ (∀ w, (Instr.index 96 (.agg #[a0, a1, a2, b0, b1, b2, c0, c1, c2, d0, d1, d2]) (.int .i64 3)).run Try.prog w = .ok (.agg #[d0, d1, d2]) w) :=
  ⟨fun _ => by kernel_rfl, fun _ => by kernel_rfl, fun _ => by kernel_rfl, fun _ => by kernel_rfl⟩

theorem keep_cell {w wr w' : World} {g : Nat} {o : Obj} {v : Value} (hbl : Below w.heap.size w wr) (hc : wr.cell? ⟨g, 0, none⟩ = some v) (hs : g < wr.heap.size) (hm : Below (wr.alloc o).heap.size (wr.alloc o) w') :
    Below w.heap.size w w' ∧ w'.cell? ⟨g, 0, none⟩ = some v ∧ g < w'.heap.size := by
  have hz := hbl.size
  have hz2 := hm.size
  have hz3 : (wr.alloc o).heap.size = wr.heap.size + 1 := by simp
  refine ⟨(hbl.alloc hz _).trans (hm.mono (by omega)), ?_, by omega⟩
  refine (hm.cell (p := ⟨g, 0, none⟩) (by show g < _; omega)).trans ?_
  rw [World.cell?_alloc_past _ _ _ hs]
  exact hc

set_option maxHeartbeats 1600000 in
theorem imm_any (f x : Int) (w : World) :
    Calls Try.prog 55 #[.int .u8 f, .int .u32 x] w fun e w' => e = .returned (.int .u32 (W.imm f x)) ∧ Below w.heap.size w w' := by
  obtain ⟨i0, i1, i2, i3⟩ := piece_at (.int .i64 (W.pW f 0)) (.int .i64 (W.pI f 0)) (.int .i64 (W.pN f 0)) (.int .i64 (W.pW f 1)) (.int .i64 (W.pI f 1)) (.int .i64 (W.pN f 1)) (.int .i64 (W.pW f 2)) (.int .i64 (W.pI f 2)) (.int .i64 (W.pN f 2)) (.int .i64 (W.pW f 3)) (.int .i64 (W.pI f 3)) (.int .i64 (W.pN f 3))
  go_enter Try.func55, Try.ntmps55
  go_wp2_with (go_at_call 58; refine (layoutOf_any _ _).mono ?_; rintro e w1 ⟨rfl, hw1⟩; unfold layoutV)
  go_loopw [6, 13] (fun t i wr => ∃ k : Nat, k ≤ 4 ∧ i = .int .i64 k ∧ t = .int .u32 (W.raw (W.pW f) (W.pI f) (W.pN f) x k) ∧ Below w.heap.size w wr ∧ wr.cell? ⟨w1.heap.size, 0, none⟩ = some (.int .i64 (W.wid f)) ∧ w1.heap.size < wr.heap.size) (fun _ i _ => 4 - (intOf i).toNat)
  case atStart => exact ⟨0, by omega, rfl, rfl, hw1.alloc hw1.size _, by simp [go_sem], by simp⟩
  case round =>
    obtain ⟨k, hk, rfl, rfl, hbl, hc, hs⟩ := hrel
    have hk5 : k = 0 ∨ k = 1 ∨ k = 2 ∨ k = 3 ∨ k = 4 := by omega
    clear hk
    rcases hk5 with rfl | rfl | rfl | rfl | rfl
    case inr.inr.inr.inr =>
      go_wp2_with (go_at_call 60; refine (sgn_any _ _ _).mono ?_; rintro e w' ⟨rfl, rfl⟩)
      go_ret
      exact ⟨rfl, hbl⟩
    all_goals
      go_wp2_with (go_at_call 59; refine (move_any _ _ _ _ _).mono ?_; rintro e w' ⟨rfl, hm⟩)
      go_roundw
      case rel => exact ⟨_, by decide, rfl, rfl, keep_cell hbl hc hs hm⟩
      case measure => simp [intOf]

end Go.Proofs.Ytopehmpjfndgjaa
