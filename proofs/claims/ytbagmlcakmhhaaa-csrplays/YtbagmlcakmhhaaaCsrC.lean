/- What the methods of package csr that write answer, and what they leave. -/
import Derived.Test.YtbagmlcakmhhaaaCsrB
namespace Go.Proofs.Ytbagmlcakmhhaaa
open Go.ChangeShapes Go.WideShapes Go.ChangeAt Go.RowKit
set_option linter.unusedVariables false
set_option linter.unusedSimpArgs false

theorem bits_bel (x low n : Int) (w : World) : Calls Try.prog 31 #[.int .u32 x, .int .i64 low, .int .i64 n] w fun e w' => e = .returned (.int .u32 (W.bitsOf x low n)) ∧ Below w.heap.size w w' :=
  (bits_any x low n w).mono fun e w' ⟨h, k, hk⟩ => ⟨h, by rw [hk]; exact below_drewN (Below.refl _ _) _⟩

theorem kmode_bel (v : Int) (w : World) : Calls Try.prog 32 #[.int .u32 v] w fun e w' => e = .returned (.int .i64 (W.kmode v)) ∧ Below w.heap.size w w' :=
  (kmode_any v w).mono fun e w' ⟨h, k, hk⟩ => ⟨h, by rw [hk]; exact below_drewN (Below.refl _ _) _⟩

theorem bell_any (T : TypeId) (b : Nat) (G : W.F) (on : Bool) (w : World) (h : At T b G w) : Calls Try.prog 15 #[.pointer (some ⟨b, 0, none⟩), .bool on] w fun x w' => x = .returned (.tuple #[]) ∧ At T b (W.bell G on) w' ∧ w.grownBy w' (some b) := by
  obtain ⟨c0, c1, c2, c3, c4, c5, c6, c7, c8, c9, c10, hz⟩ := h.cells
  have hlt := h.lt
  cases on
  · go_enter Try.func15, Try.ntmps15
    go_wp2
    go_end0
    exact ⟨rfl, h.put (by rfl), gset _ _ _ _⟩
  · go_enter Try.func15, Try.ntmps15
    go_wp2
    go_end0
    exact ⟨rfl, (h.put (G' := W.bell G false) (by rfl)).put (by rfl), gtrans (gset _ _ _ _) (gset _ _ _ _)⟩

theorem set_any (T : TypeId) (b : Nat) (G : W.F) (n v : Int) (w : World) (h : At T b G w) : Calls Try.prog 13 #[.pointer (some ⟨b, 0, none⟩), .int .i64 n, .int .u32 v] w fun x w' => x = .returned (.bool (W.setB G n)) ∧ At T b (W.fset G n v) w' ∧ w.grownBy w' (some b) := by
  obtain ⟨c0, c1, c2, c3, c4, c5, c6, c7, c8, c9, c10, hz⟩ := h.cells
  have hlt := h.lt
  cases hm : (G.m == 0)
  case true =>
    have e1 : Hid (W.setB G n = false ∧ W.fset G n v = G) := by
      have : W.setB G n = false ∧ W.fset G n v = G := by simp [W.setB, W.fset, hm]
      exact this
    go_enter Try.func13, Try.ntmps13
    go_wp2
    go_ret
    rw [e1.out.1, e1.out.2]
    exact ⟨rfl, h, World.grownBy.refl _ _⟩
  by_cases h0 : n = 384
  · subst h0
    have e1 : Hid (W.setB G 384 = true ∧ W.fset G 384 v = { G with satp := bits .and .u32 v 2151677951 }) := by
      have : W.setB G 384 = true ∧ W.fset G 384 v = { G with satp := bits .and .u32 v 2151677951 } := by simp [W.setB, W.fset, hm, W.isSet]
      exact this
    go_enter Try.func13, Try.ntmps13
    go_wp2
    go_ret
    rw [e1.out.1, e1.out.2]
    exact ⟨rfl, h.put (by rfl), gset _ _ _ _⟩
  by_cases h1 : n = 768
  · subst h1
    have e1 : Hid (W.setB G 768 = true ∧ W.fset G 768 v = { G with st := W.status (W.bitsOf v 3 1) (W.bitsOf v 7 1) (W.kmode v) }) := by
      have : W.setB G 768 = true ∧ W.fset G 768 v = { G with st := W.status (W.bitsOf v 3 1) (W.bitsOf v 7 1) (W.kmode v) } := by simp [W.setB, W.fset, hm, W.isSet]
      exact this
    go_enter Try.func13, Try.ntmps13
    have hb : Below w.heap.size w w := Below.refl _ _
    go_wp2_with (first | (go_at_call 31; refine (from_ (bits_bel _ _ _ _) hb).mono ?_; clear hb; rintro e w' ⟨rfl, hb⟩) | (go_at_call 32; refine (from_ (kmode_bel _ _) hb).mono ?_; clear hb; rintro e w' ⟨rfl, hb⟩) | (go_at_call 30; refine (from_ (status_any _ _ _ _) hb).mono ?_; clear hb; rintro e w1 ⟨rfl, hb⟩; have h' := h.below hb; clear c0 c1 c2 c3 c4 c5 c6 c7 c8 c9 c10 hz hlt; obtain ⟨c0, c1, c2, c3, c4, c5, c6, c7, c8, c9, c10, hz⟩ := h'.cells; have hlt := h'.lt))
    go_ret
    rw [e1.out.1, e1.out.2]
    exact ⟨rfl, h'.put (by rfl), gtrans (gbelow hb) (gset _ _ _ _)⟩
  by_cases h2 : n = 772
  · subst h2
    have e1 : Hid (W.setB G 772 = true ∧ W.fset G 772 v = { G with mie := bits .and .u32 v 8 }) := by
      have : W.setB G 772 = true ∧ W.fset G 772 v = { G with mie := bits .and .u32 v 8 } := by simp [W.setB, W.fset, hm, W.isSet]
      exact this
    go_enter Try.func13, Try.ntmps13
    go_wp2
    go_ret
    rw [e1.out.1, e1.out.2]
    exact ⟨rfl, h.put (by rfl), gset _ _ _ _⟩
  by_cases h3 : n = 773
  · subst h3
    have e1 : Hid (W.setB G 773 = true ∧ W.fset G 773 v = { G with tvec := W.algn v }) := by
      have : W.setB G 773 = true ∧ W.fset G 773 v = { G with tvec := W.algn v } := by simp [W.setB, W.fset, hm, W.isSet]
      exact this
    go_enter Try.func13, Try.ntmps13
    go_wp2_with (go_at_call 33; refine (algn_any _ _).mono ?_; rintro e w' ⟨rfl, rfl⟩)
    go_ret
    rw [e1.out.1, e1.out.2]
    exact ⟨rfl, h.put (by rfl), gset _ _ _ _⟩
  by_cases h4 : n = 832
  · subst h4
    have e1 : Hid (W.setB G 832 = true ∧ W.fset G 832 v = { G with scr := v }) := by
      have : W.setB G 832 = true ∧ W.fset G 832 v = { G with scr := v } := by simp [W.setB, W.fset, hm, W.isSet]
      exact this
    go_enter Try.func13, Try.ntmps13
    go_wp2
    go_ret
    rw [e1.out.1, e1.out.2]
    exact ⟨rfl, h.put (by rfl), gset _ _ _ _⟩
  by_cases h5 : n = 833
  · subst h5
    have e1 : Hid (W.setB G 833 = true ∧ W.fset G 833 v = { G with epc := W.algn v }) := by
      have : W.setB G 833 = true ∧ W.fset G 833 v = { G with epc := W.algn v } := by simp [W.setB, W.fset, hm, W.isSet]
      exact this
    go_enter Try.func13, Try.ntmps13
    go_wp2_with (go_at_call 33; refine (algn_any _ _).mono ?_; rintro e w' ⟨rfl, rfl⟩)
    go_ret
    rw [e1.out.1, e1.out.2]
    exact ⟨rfl, h.put (by rfl), gset _ _ _ _⟩
  by_cases h6 : n = 834
  · subst h6
    have e1 : Hid (W.setB G 834 = true ∧ W.fset G 834 v = { G with cause := v }) := by
      have : W.setB G 834 = true ∧ W.fset G 834 v = { G with cause := v } := by simp [W.setB, W.fset, hm, W.isSet]
      exact this
    go_enter Try.func13, Try.ntmps13
    go_wp2
    go_ret
    rw [e1.out.1, e1.out.2]
    exact ⟨rfl, h.put (by rfl), gset _ _ _ _⟩
  by_cases h7 : n = 835
  · subst h7
    have e1 : Hid (W.setB G 835 = true ∧ W.fset G 835 v = { G with tval := v }) := by
      have : W.setB G 835 = true ∧ W.fset G 835 v = { G with tval := v } := by simp [W.setB, W.fset, hm, W.isSet]
      exact this
    go_enter Try.func13, Try.ntmps13
    go_wp2
    go_ret
    rw [e1.out.1, e1.out.2]
    exact ⟨rfl, h.put (by rfl), gset _ _ _ _⟩
  have g0 : (n == 384) = false := by simpa using h0
  have g1 : (n == 768) = false := by simpa using h1
  have g2 : (n == 772) = false := by simpa using h2
  have g3 : (n == 773) = false := by simpa using h3
  have g4 : (n == 832) = false := by simpa using h4
  have g5 : (n == 833) = false := by simpa using h5
  have g6 : (n == 834) = false := by simpa using h6
  have g7 : (n == 835) = false := by simpa using h7
  clear h0 h1 h2 h3 h4 h5 h6 h7
  have e1 : Hid (W.fset G n v = G) := by
    have : W.fset G n v = G := by simp [W.fset, hm, g0, g1, g2, g3, g4, g5, g6, g7]
    exact this
  have e2 : Hid (W.setB G n = (n == 836)) := by
    have : W.setB G n = (n == 836) := by simp [W.setB, hm, W.isSet, g0, g1, g2, g3, g4, g5, g6, g7]
    exact this
  cases g8 : (n == 836)
  all_goals
    go_enter Try.func13, Try.ntmps13
    go_wp2
    go_ret
    rw [e1.out, e2.out, g8]
    exact ⟨rfl, h, World.grownBy.refl _ _⟩

theorem return_any (T : TypeId) (b : Nat) (G : W.F) (w : World) (h : At T b G w) : Calls Try.prog 19 #[.pointer (some ⟨b, 0, none⟩)] w fun x w' => x = .returned (.int .u32 G.epc) ∧ At T b (W.fret G) w' ∧ w.grownBy w' (some b) := by
  obtain ⟨c0, c1, c2, c3, c4, c5, c6, c7, c8, c9, c10, hz⟩ := h.cells
  have hlt := h.lt
  go_enter Try.func19, Try.ntmps19
  go_wp2_with (first | (go_at_call 32; refine (kmode_bel _ _).mono ?_; rintro e w1 ⟨rfl, hb1⟩; have h1 := h.below hb1; clear c0 c1 c2 c3 c4 c5 c6 c7 c8 c9 c10 hz hlt; obtain ⟨c0, c1, c2, c3, c4, c5, c6, c7, c8, c9, c10, hz⟩ := h1.cells; have hlt := h1.lt) | (go_at_call 31; refine (bits_bel _ _ _ _).mono ?_; rintro e w2 ⟨rfl, hb2⟩; have h2 := (h1.put (G' := { G with m := W.kmode G.st }) (by rfl)).below hb2) | (go_at_call 30; refine (status_any _ _ _ _).mono ?_; rintro e w3 ⟨rfl, hb3⟩; have h3 := h2.below hb3; clear c0 c1 c2 c3 c4 c5 c6 c7 c8 c9 c10 hz hlt; obtain ⟨c0, c1, c2, c3, c4, c5, c6, c7, c8, c9, c10, hz⟩ := h3.cells; have hlt := h3.lt))
  go_ret
  exact ⟨rfl, h3.put (by rfl), gtrans (gtrans (gtrans (gbelow hb1) (gset _ _ _ _)) (gtrans (gbelow hb2) (gbelow hb3))) (gset _ _ _ _)⟩
end Go.Proofs.Ytbagmlcakmhhaaa