/- What enc.Lay, enc.Split and enc.Join return, and the chapter's examples. -/
import Derived.Test.YthbcdlaejefkaaaDoorEnc
namespace Go.Proofs.YthbcdlaejefkaaaDoor
open Go.ChangeShapes Go.WideShapes Go.ChangeAt Go.RowKit
set_option linter.unusedVariables false

set_option maxHeartbeats 3200000 in
theorem lay_any (f x : Int) (w : World) :
    Calls Tryd.prog 50 #[.int .u8 f, .int .u32 x] w fun e w' => e = .returned (.tuple #[.int .u32 (W.layV f x), .bool (W.layB f x)]) ∧ Below w.heap.size w w' := by
  obtain ⟨i0, i1, i2, i3⟩ := piece_at (.int .i64 (W.pW f 0)) (.int .i64 (W.pI f 0)) (.int .i64 (W.pN f 0)) (.int .i64 (W.pW f 1)) (.int .i64 (W.pI f 1)) (.int .i64 (W.pN f 1)) (.int .i64 (W.pW f 2)) (.int .i64 (W.pI f 2)) (.int .i64 (W.pN f 2)) (.int .i64 (W.pW f 3)) (.int .i64 (W.pI f 3)) (.int .i64 (W.pN f 3))
  go_enter Tryd.func50, Tryd.ntmps50
  go_wp2_with (go_at_call 60; refine (layoutOf_any _ _).mono ?_; rintro e w1 ⟨rfl, hw1⟩; unfold layoutV)
  go_loopw [7, 14] (fun t i wr => ∃ k : Nat, k ≤ 4 ∧ i = .int .i64 k ∧ t = .int .u32 (W.raw (W.pI f) (W.pW f) (W.pN f) x k) ∧ Below w.heap.size w wr ∧ wr.cell? ⟨w1.heap.size, 0, none⟩ = some (.int .i64 (W.wid f)) ∧ w1.heap.size < wr.heap.size) (fun _ i _ => 4 - (intOf i).toNat)
  case atStart => exact ⟨0, by omega, rfl, rfl, hw1.alloc hw1.size _, by simp [go_sem], by simp⟩
  case round =>
    obtain ⟨k, hk, rfl, rfl, hbl, hc, hs⟩ := hrel
    have hk5 : k = 0 ∨ k = 1 ∨ k = 2 ∨ k = 3 ∨ k = 4 := by omega
    clear hk
    rcases hk5 with rfl | rfl | rfl | rfl | rfl
    case inr.inr.inr.inr =>
      have hf : Hid (W.layw f x = W.raw (W.pI f) (W.pW f) (W.pN f) x 4) := rfl
      cases hB : W.layB f x
      · have hV : Hid (W.layV f x = 0) := by
          have : W.layV f x = 0 := by simp [W.layV, hB]
          exact this
        cases hq : (W.wid f == 0)
        · have hi : (W.imm f (W.raw (W.pI f) (W.pW f) (W.pN f) x 4) != x) = true := by
            simpa [W.layB, hq, W.layw] using hB
          have HB : Hid (W.layB f x = false) := hB
          clear hB
          go_wp2_with (go_at_call 58; refine (imm_any _ _ _).mono ?_; rintro e w' ⟨rfl, hm⟩)
          exact bodyPost_ret (v := .tuple #[.int .u32 0, .bool false]) (by simp [results, Tryd.results50, go_sem]) rfl ⟨by rw [HB.out, hV.out], hbl.trans (hm.mono hbl.size)⟩
        · have HB : Hid (W.layB f x = false) := hB
          clear hB
          go_wp2
          exact bodyPost_ret (v := .tuple #[.int .u32 0, .bool false]) (by simp [results, Tryd.results50, go_sem]) rfl ⟨by rw [HB.out, hV.out], hbl⟩
      · have hV : Hid (W.layV f x = W.raw (W.pI f) (W.pW f) (W.pN f) x 4) := by
          have : W.layV f x = W.raw (W.pI f) (W.pW f) (W.pN f) x 4 := by simp [W.layV, hB, W.layw]
          exact this
        have h2 : (W.wid f == 0) = false ∧ (W.imm f (W.raw (W.pI f) (W.pW f) (W.pN f) x 4) != x) = false := by
          simpa [W.layB, W.layw] using hB
        obtain ⟨hq, hi⟩ := h2
        have HB : Hid (W.layB f x = true) := hB
        clear hB
        go_wp2_with (go_at_call 58; refine (imm_any _ _ _).mono ?_; rintro e w' ⟨rfl, hm⟩)
        exact bodyPost_ret (v := .tuple #[.int .u32 (W.raw (W.pI f) (W.pW f) (W.pN f) x 4), .bool true]) (by simp [results, Tryd.results50, go_sem]) rfl ⟨by rw [HB.out, hV.out], hbl.trans (hm.mono hbl.size)⟩
    all_goals
      go_wp2_with (go_at_call 61; refine (move_any _ _ _ _ _).mono ?_; rintro e w' ⟨rfl, hm⟩)
      go_roundw
      case rel => exact ⟨_, by decide, rfl, rfl, keep_cell hbl hc hs hm⟩
      case measure => simp [intOf]

theorem from_ {P : Program} {f : FuncId} {args : Array Value} {w0 w : World} {v : Value} (h : Calls P f args w fun e w' => e = .returned v ∧ Below w.heap.size w w') (hb : Below w0.heap.size w0 w) :
    Calls P f args w fun e w' => e = .returned v ∧ Below w0.heap.size w0 w' :=
  h.mono fun _ _ ⟨a, b⟩ => ⟨a, hb.trans (b.mono hb.size)⟩

end Go.Proofs.YthbcdlaejefkaaaDoor
