/- What the methods of package csr that only look answer. -/
import Derived.Test.YtbagmlcakmhhaaaCsrA
namespace Go.Proofs.Ytbagmlcakmhhaaa
open Go.ChangeShapes Go.WideShapes Go.ChangeAt Go.RowKit
set_option linter.unusedVariables false
set_option linter.unusedSimpArgs false

theorem status_cells (e p m : Int) (w : World) :
    (∀ j, j < 3 → (w.alloc (.cells #[.int .i64 3, .int .i64 1, .int .u32 e, .int .i64 7, .int .i64 1, .int .u32 p, .int .i64 11, .int .i64 2, .int .u32 (m % 4294967296)] 64)).cell? ⟨w.heap.size, 0 + j * 3, none⟩ = some (.int .i64 (W.stL j)))
    ∧ (∀ j, j < 3 → (w.alloc (.cells #[.int .i64 3, .int .i64 1, .int .u32 e, .int .i64 7, .int .i64 1, .int .u32 p, .int .i64 11, .int .i64 2, .int .u32 (m % 4294967296)] 64)).cell? ⟨w.heap.size, 0 + j * 3 + 1, none⟩ = some (.int .i64 (W.stN j)))
    ∧ (∀ j, j < 3 → (w.alloc (.cells #[.int .i64 3, .int .i64 1, .int .u32 e, .int .i64 7, .int .i64 1, .int .u32 p, .int .i64 11, .int .i64 2, .int .u32 (m % 4294967296)] 64)).cell? ⟨w.heap.size, 0 + j * 3 + 2, none⟩ = some (.int .u32 (W.stV e p m j))) := by
  refine ⟨?_, ?_, ?_⟩
  all_goals
    intro j hj
    match j, hj with
    | 0, _ => simp [go_sem, W.stL, W.stN, W.stV]
    | 1, _ => simp [go_sem, W.stL, W.stN, W.stV]
    | 2, _ => simp [go_sem, W.stL, W.stN, W.stV]

theorem status_any (e p m : Int) (w : World) : Calls Try.prog 30 #[.int .u32 e, .int .u32 p, .int .i64 m] w fun x w' => x = .returned (.int .u32 (W.status e p m)) ∧ Below w.heap.size w w' := by
  go_enter Try.func30, Try.ntmps30
  go_wp2_with fail
  have hx := status_cells e p m w
  refine (pack_any w.heap.size 0 3 3 W.stL W.stN (W.stV e p m) _ (by decide) (by simp) hx.1 hx.2.1 hx.2.2).mono ?_
  clear hx
  rintro x w' ⟨rfl, hb⟩
  go_wp2
  go_ret
  exact ⟨rfl, ((Below.refl _ _).alloc (Nat.le_refl _) _).trans (hb.mono (by simp))⟩

theorem kmode_any (v : Int) (w : World) : Calls Try.prog 32 #[.int .u32 v] w fun x w' => x = .returned (.int .i64 (W.kmode v)) ∧ ∃ k, w' = w.drewN k := by
  cases h : (W.bitsOf v 11 2 == 3)
  · have hk : Hid (W.kmode v = 0) := by
      have : W.kmode v = 0 := by rw [W.kmode, h]; rfl
      exact this
    go_enter Try.func32, Try.ntmps32
    go_wp2_with (go_at_call 31; refine (bits_any _ _ _ _).mono ?_; rintro e w' ⟨rfl, k, rfl⟩)
    go_ret
    exact ⟨ret_int hk.out.symm, _, rfl⟩
  · have hk : Hid (W.kmode v = 3) := by
      have : W.kmode v = 3 := by rw [W.kmode, h]; rfl
      exact this
    go_enter Try.func32, Try.ntmps32
    go_wp2_with (go_at_call 31; refine (bits_any _ _ _ _).mono ?_; rintro e w' ⟨rfl, k, rfl⟩)
    go_ret
    exact ⟨ret_int hk.out.symm, _, rfl⟩

theorem algn_any (v : Int) (w : World) : Calls Try.prog 33 #[.int .u32 v] w fun x w' => x = .returned (.int .u32 (W.algn v)) ∧ w = w' := by
  go_enter Try.func33, Try.ntmps33
  go_wp2
  go_ret
  exact ⟨rfl, rfl⟩

theorem mode_any (T : TypeId) (b : Nat) (G : W.F) (w : World) (h : At T b G w) : Calls Try.prog 25 #[.pointer (some ⟨b, 0, none⟩)] w fun x w' => x = .returned (.int .i64 G.m) ∧ w = w' := by
  obtain ⟨c0, c1, c2, c3, c4, c5, c6, c7, c8, c9, c10, hz⟩ := h.cells
  go_enter Try.func25, Try.ntmps25
  go_wp2
  go_ret
  exact ⟨rfl, rfl⟩

theorem satp_any (T : TypeId) (b : Nat) (G : W.F) (w : World) (h : At T b G w) : Calls Try.prog 26 #[.pointer (some ⟨b, 0, none⟩)] w fun x w' => x = .returned (.int .u32 G.satp) ∧ w = w' := by
  obtain ⟨c0, c1, c2, c3, c4, c5, c6, c7, c8, c9, c10, hz⟩ := h.cells
  go_enter Try.func26, Try.ntmps26
  go_wp2
  go_ret
  exact ⟨rfl, rfl⟩

theorem get_any (T : TypeId) (b : Nat) (G : W.F) (n : Int) (w : World) (h : At T b G w) : Calls Try.prog 21 #[.pointer (some ⟨b, 0, none⟩), .int .i64 n] w fun x w' => x = .returned (.tuple #[.int .u32 (W.getV G n), .bool (W.getB G n)]) ∧ w = w' := by
  obtain ⟨c0, c1, c2, c3, c4, c5, c6, c7, c8, c9, c10, hz⟩ := h.cells
  cases hm : (G.m == 0)
  case true =>
    have e1 : Hid (W.getV G n = 0 ∧ W.getB G n = false) := by
      have : W.getV G n = 0 ∧ W.getB G n = false := by simp [W.getV, W.getB, hm]
      exact this
    go_enter Try.func21, Try.ntmps21
    go_wp2
    exact bodyPost_ret (v := .tuple #[.int .u32 0, .bool false]) (by simp [results, Try.results21, go_sem]) rfl ⟨by rw [e1.out.1, e1.out.2], rfl⟩
  by_cases h0 : n = 384
  · subst h0
    have e1 : Hid (W.getV G 384 = G.satp ∧ W.getB G 384 = true) := by
      have : W.getV G 384 = G.satp ∧ W.getB G 384 = true := by simp [W.getV, W.getB, hm, W.reg, W.isReg]
      exact this
    go_enter Try.func21, Try.ntmps21
    go_wp2
    exact bodyPost_ret (v := .tuple #[.int .u32 G.satp, .bool true]) (by simp [results, Try.results21, go_sem]) rfl ⟨by rw [e1.out.1, e1.out.2], rfl⟩
  by_cases h1 : n = 768
  · subst h1
    have e1 : Hid (W.getV G 768 = G.st ∧ W.getB G 768 = true) := by
      have : W.getV G 768 = G.st ∧ W.getB G 768 = true := by simp [W.getV, W.getB, hm, W.reg, W.isReg]
      exact this
    go_enter Try.func21, Try.ntmps21
    go_wp2
    exact bodyPost_ret (v := .tuple #[.int .u32 G.st, .bool true]) (by simp [results, Try.results21, go_sem]) rfl ⟨by rw [e1.out.1, e1.out.2], rfl⟩
  by_cases h2 : n = 772
  · subst h2
    have e1 : Hid (W.getV G 772 = G.mie ∧ W.getB G 772 = true) := by
      have : W.getV G 772 = G.mie ∧ W.getB G 772 = true := by simp [W.getV, W.getB, hm, W.reg, W.isReg]
      exact this
    go_enter Try.func21, Try.ntmps21
    go_wp2
    exact bodyPost_ret (v := .tuple #[.int .u32 G.mie, .bool true]) (by simp [results, Try.results21, go_sem]) rfl ⟨by rw [e1.out.1, e1.out.2], rfl⟩
  by_cases h3 : n = 773
  · subst h3
    have e1 : Hid (W.getV G 773 = G.tvec ∧ W.getB G 773 = true) := by
      have : W.getV G 773 = G.tvec ∧ W.getB G 773 = true := by simp [W.getV, W.getB, hm, W.reg, W.isReg]
      exact this
    go_enter Try.func21, Try.ntmps21
    go_wp2
    exact bodyPost_ret (v := .tuple #[.int .u32 G.tvec, .bool true]) (by simp [results, Try.results21, go_sem]) rfl ⟨by rw [e1.out.1, e1.out.2], rfl⟩
  by_cases h4 : n = 832
  · subst h4
    have e1 : Hid (W.getV G 832 = G.scr ∧ W.getB G 832 = true) := by
      have : W.getV G 832 = G.scr ∧ W.getB G 832 = true := by simp [W.getV, W.getB, hm, W.reg, W.isReg]
      exact this
    go_enter Try.func21, Try.ntmps21
    go_wp2
    exact bodyPost_ret (v := .tuple #[.int .u32 G.scr, .bool true]) (by simp [results, Try.results21, go_sem]) rfl ⟨by rw [e1.out.1, e1.out.2], rfl⟩
  by_cases h5 : n = 833
  · subst h5
    have e1 : Hid (W.getV G 833 = G.epc ∧ W.getB G 833 = true) := by
      have : W.getV G 833 = G.epc ∧ W.getB G 833 = true := by simp [W.getV, W.getB, hm, W.reg, W.isReg]
      exact this
    go_enter Try.func21, Try.ntmps21
    go_wp2
    exact bodyPost_ret (v := .tuple #[.int .u32 G.epc, .bool true]) (by simp [results, Try.results21, go_sem]) rfl ⟨by rw [e1.out.1, e1.out.2], rfl⟩
  by_cases h6 : n = 834
  · subst h6
    have e1 : Hid (W.getV G 834 = G.cause ∧ W.getB G 834 = true) := by
      have : W.getV G 834 = G.cause ∧ W.getB G 834 = true := by simp [W.getV, W.getB, hm, W.reg, W.isReg]
      exact this
    go_enter Try.func21, Try.ntmps21
    go_wp2
    exact bodyPost_ret (v := .tuple #[.int .u32 G.cause, .bool true]) (by simp [results, Try.results21, go_sem]) rfl ⟨by rw [e1.out.1, e1.out.2], rfl⟩
  by_cases h7 : n = 835
  · subst h7
    have e1 : Hid (W.getV G 835 = G.tval ∧ W.getB G 835 = true) := by
      have : W.getV G 835 = G.tval ∧ W.getB G 835 = true := by simp [W.getV, W.getB, hm, W.reg, W.isReg]
      exact this
    go_enter Try.func21, Try.ntmps21
    go_wp2
    exact bodyPost_ret (v := .tuple #[.int .u32 G.tval, .bool true]) (by simp [results, Try.results21, go_sem]) rfl ⟨by rw [e1.out.1, e1.out.2], rfl⟩
  by_cases h8 : n = 836
  · subst h8
    have e1 : Hid (W.getV G 836 = G.mip ∧ W.getB G 836 = true) := by
      have : W.getV G 836 = G.mip ∧ W.getB G 836 = true := by simp [W.getV, W.getB, hm, W.reg, W.isReg]
      exact this
    go_enter Try.func21, Try.ntmps21
    go_wp2
    exact bodyPost_ret (v := .tuple #[.int .u32 G.mip, .bool true]) (by simp [results, Try.results21, go_sem]) rfl ⟨by rw [e1.out.1, e1.out.2], rfl⟩
  by_cases h9 : n = 3860
  · subst h9
    have e1 : Hid (W.getV G 3860 = G.hart ∧ W.getB G 3860 = true) := by
      have : W.getV G 3860 = G.hart ∧ W.getB G 3860 = true := by simp [W.getV, W.getB, hm, W.reg, W.isReg]
      exact this
    go_enter Try.func21, Try.ntmps21
    go_wp2
    exact bodyPost_ret (v := .tuple #[.int .u32 G.hart, .bool true]) (by simp [results, Try.results21, go_sem]) rfl ⟨by rw [e1.out.1, e1.out.2], rfl⟩
  have g0 : (n == 384) = false := by simpa using h0
  have g1 : (n == 768) = false := by simpa using h1
  have g2 : (n == 772) = false := by simpa using h2
  have g3 : (n == 773) = false := by simpa using h3
  have g4 : (n == 832) = false := by simpa using h4
  have g5 : (n == 833) = false := by simpa using h5
  have g6 : (n == 834) = false := by simpa using h6
  have g7 : (n == 835) = false := by simpa using h7
  have g8 : (n == 836) = false := by simpa using h8
  have g9 : (n == 3860) = false := by simpa using h9
  have e1 : Hid (W.getV G n = 0 ∧ W.getB G n = false) := by
    have : W.getV G n = 0 ∧ W.getB G n = false := by simp [W.getV, W.getB, hm, W.reg, W.isReg, g0, g1, g2, g3, g4, g5, g6, g7, g8, g9]
    exact this
  clear h0 h1 h2 h3 h4 h5 h6 h7 h8 h9
  go_enter Try.func21, Try.ntmps21
  go_wp2
  exact bodyPost_ret (v := .tuple #[.int .u32 0, .bool false]) (by simp [results, Try.results21, go_sem]) rfl ⟨by rw [e1.out.1, e1.out.2], rfl⟩
end Go.Proofs.Ytbagmlcakmhhaaa