/- The document's registers: trap and return. -/
import Derived.Test.YtbagmlcakmhhaaaCsrT
import Derived.Test.YtbagmlcakmhhaaaCsrU
namespace Go.Proofs.Ytbagmlcakmhhaaa
open Go.ChangeShapes Go.WideShapes Go.ChangeAt Go.RowKit
set_option linter.unusedVariables false
set_option linter.unusedSimpArgs false


theorem rreg_g (G : W.F) (n x : Int) (hn : W.isReg n = true) (hx : W.reg G n = x) (w : World) : Calls Try.prog 27 #[.agg (fileCells G), .int .i64 n] w fun y w' => y = .returned (.int .u32 x) ∧ Below w.heap.size w w' :=
  (rreg_any G n hn w).mono fun y w' ⟨a, b⟩ => ⟨by rw [a, hx], b⟩

set_option maxHeartbeats 1600000 in
theorem rtrap_00 (b : Nat) (G : W.F) (c t q : Int) (w : World) (h : At RT b G w) (hS : (bits .and .u32 G.st 8 != 0) = false) (hm : (G.m == 3) = false) (hs : Hid (W.status 0 (W.bitsOf G.st 3 1) G.m = 0)) : Calls Try.prog 18 #[.pointer (some ⟨b, 0, none⟩), .int .u32 c, .int .u32 t, .int .u32 q] w fun x w' => x = .returned (.int .u32 G.tvec) ∧ At RT b (W.trap G c t q) w' ∧ w.grownBy w' (some b) := by
  go_enter Try.func18, Try.ntmps18
  go_wp2_with fail
  refine (put_833 b G _ _ h).mono ?_
  rintro e w1 ⟨rfl, h1, g1⟩
  go_wp2_with fail
  refine (put_834 b _ _ _ h1).mono ?_
  rintro e w2 ⟨rfl, h2, g2⟩
  go_wp2_with fail
  refine (put_835 b _ _ _ h2).mono ?_
  rintro e w3 ⟨rfl, h3, g3⟩
  obtain ⟨c0, c1, c2, c3, c4, c5, c6, c7, c8, c9, c10, hz⟩ := h3.cells
  have hlt := h3.lt
  simp only at c0 c1 c2 c3 c4 c5 c6 c7 c8 c9 c10
  go_wp2_with fail
  refine (rreg_g { G with epc := bits .andNot .u32 q 3, cause := c, tval := t } 768 G.st rfl rfl _).mono ?_
  rintro e w4 ⟨rfl, hb4⟩
  have h4 := h3.below hb4
  clear c0 c1 c2 c3 c4 c5 c6 c7 c8 c9 c10 hz hlt; obtain ⟨c0, c1, c2, c3, c4, c5, c6, c7, c8, c9, c10, hz⟩ := h4.cells; have hlt := h4.lt; try simp only at c0 c1 c2 c3 c4 c5 c6 c7 c8 c9 c10
  go_wp2_with fail
  refine (put_768 b _ _ _ h4).mono ?_
  rintro e w5 ⟨rfl, h5, g5⟩
  clear c0 c1 c2 c3 c4 c5 c6 c7 c8 c9 c10 hz hlt; obtain ⟨c0, c1, c2, c3, c4, c5, c6, c7, c8, c9, c10, hz⟩ := h5.cells; have hlt := h5.lt; try simp only at c0 c1 c2 c3 c4 c5 c6 c7 c8 c9 c10
  go_wp2_with fail
  refine (rreg_g { G with epc := bits .andNot .u32 q 3, cause := c, tval := t, st := 0, m := 3 } 773 G.tvec rfl rfl _).mono ?_
  rintro e w6 ⟨rfl, hb6⟩
  go_wp2
  go_ret
  refine ⟨rfl, ?_, gtrans (gtrans (gtrans g1 (gtrans g2 g3)) (gtrans (gbelow hb4) g5)) (gtrans (gset _ _ _ _) (gbelow hb6))⟩
  have h6 := (h5.put (G' := { G with epc := bits .andNot .u32 q 3, cause := c, tval := t, st := 0, m := 3 }) (by rfl)).below hb6
  rw [W.trap, hs.out]
  exact h6


set_option maxHeartbeats 1600000 in
theorem rtrap_03 (b : Nat) (G : W.F) (c t q : Int) (w : World) (h : At RT b G w) (hS : (bits .and .u32 G.st 8 != 0) = false) (hm : (G.m == 3) = true) (hs : Hid (W.status 0 (W.bitsOf G.st 3 1) G.m = 6144)) : Calls Try.prog 18 #[.pointer (some ⟨b, 0, none⟩), .int .u32 c, .int .u32 t, .int .u32 q] w fun x w' => x = .returned (.int .u32 G.tvec) ∧ At RT b (W.trap G c t q) w' ∧ w.grownBy w' (some b) := by
  go_enter Try.func18, Try.ntmps18
  go_wp2_with fail
  refine (put_833 b G _ _ h).mono ?_
  rintro e w1 ⟨rfl, h1, g1⟩
  go_wp2_with fail
  refine (put_834 b _ _ _ h1).mono ?_
  rintro e w2 ⟨rfl, h2, g2⟩
  go_wp2_with fail
  refine (put_835 b _ _ _ h2).mono ?_
  rintro e w3 ⟨rfl, h3, g3⟩
  obtain ⟨c0, c1, c2, c3, c4, c5, c6, c7, c8, c9, c10, hz⟩ := h3.cells
  have hlt := h3.lt
  simp only at c0 c1 c2 c3 c4 c5 c6 c7 c8 c9 c10
  go_wp2_with fail
  refine (rreg_g { G with epc := bits .andNot .u32 q 3, cause := c, tval := t } 768 G.st rfl rfl _).mono ?_
  rintro e w4 ⟨rfl, hb4⟩
  have h4 := h3.below hb4
  clear c0 c1 c2 c3 c4 c5 c6 c7 c8 c9 c10 hz hlt; obtain ⟨c0, c1, c2, c3, c4, c5, c6, c7, c8, c9, c10, hz⟩ := h4.cells; have hlt := h4.lt; try simp only at c0 c1 c2 c3 c4 c5 c6 c7 c8 c9 c10
  go_wp2_with fail
  refine (put_768 b _ _ _ h4).mono ?_
  rintro e w5 ⟨rfl, h5, g5⟩
  clear c0 c1 c2 c3 c4 c5 c6 c7 c8 c9 c10 hz hlt; obtain ⟨c0, c1, c2, c3, c4, c5, c6, c7, c8, c9, c10, hz⟩ := h5.cells; have hlt := h5.lt; try simp only at c0 c1 c2 c3 c4 c5 c6 c7 c8 c9 c10
  go_wp2_with fail
  refine (rreg_g { G with epc := bits .andNot .u32 q 3, cause := c, tval := t, st := 6144, m := 3 } 773 G.tvec rfl rfl _).mono ?_
  rintro e w6 ⟨rfl, hb6⟩
  go_wp2
  go_ret
  refine ⟨rfl, ?_, gtrans (gtrans (gtrans g1 (gtrans g2 g3)) (gtrans (gbelow hb4) g5)) (gtrans (gset _ _ _ _) (gbelow hb6))⟩
  have h6 := (h5.put (G' := { G with epc := bits .andNot .u32 q 3, cause := c, tval := t, st := 6144, m := 3 }) (by rfl)).below hb6
  rw [W.trap, hs.out]
  exact h6


set_option maxHeartbeats 1600000 in
theorem rtrap_10 (b : Nat) (G : W.F) (c t q : Int) (w : World) (h : At RT b G w) (hS : (bits .and .u32 G.st 8 != 0) = true) (hm : (G.m == 3) = false) (hs : Hid (W.status 0 (W.bitsOf G.st 3 1) G.m = 128)) : Calls Try.prog 18 #[.pointer (some ⟨b, 0, none⟩), .int .u32 c, .int .u32 t, .int .u32 q] w fun x w' => x = .returned (.int .u32 G.tvec) ∧ At RT b (W.trap G c t q) w' ∧ w.grownBy w' (some b) := by
  go_enter Try.func18, Try.ntmps18
  go_wp2_with fail
  refine (put_833 b G _ _ h).mono ?_
  rintro e w1 ⟨rfl, h1, g1⟩
  go_wp2_with fail
  refine (put_834 b _ _ _ h1).mono ?_
  rintro e w2 ⟨rfl, h2, g2⟩
  go_wp2_with fail
  refine (put_835 b _ _ _ h2).mono ?_
  rintro e w3 ⟨rfl, h3, g3⟩
  obtain ⟨c0, c1, c2, c3, c4, c5, c6, c7, c8, c9, c10, hz⟩ := h3.cells
  have hlt := h3.lt
  simp only at c0 c1 c2 c3 c4 c5 c6 c7 c8 c9 c10
  go_wp2_with fail
  refine (rreg_g { G with epc := bits .andNot .u32 q 3, cause := c, tval := t } 768 G.st rfl rfl _).mono ?_
  rintro e w4 ⟨rfl, hb4⟩
  have h4 := h3.below hb4
  clear c0 c1 c2 c3 c4 c5 c6 c7 c8 c9 c10 hz hlt; obtain ⟨c0, c1, c2, c3, c4, c5, c6, c7, c8, c9, c10, hz⟩ := h4.cells; have hlt := h4.lt; try simp only at c0 c1 c2 c3 c4 c5 c6 c7 c8 c9 c10
  go_wp2_with fail
  refine (put_768 b _ _ _ h4).mono ?_
  rintro e w5 ⟨rfl, h5, g5⟩
  clear c0 c1 c2 c3 c4 c5 c6 c7 c8 c9 c10 hz hlt; obtain ⟨c0, c1, c2, c3, c4, c5, c6, c7, c8, c9, c10, hz⟩ := h5.cells; have hlt := h5.lt; try simp only at c0 c1 c2 c3 c4 c5 c6 c7 c8 c9 c10
  go_wp2_with fail
  refine (rreg_g { G with epc := bits .andNot .u32 q 3, cause := c, tval := t, st := 128, m := 3 } 773 G.tvec rfl rfl _).mono ?_
  rintro e w6 ⟨rfl, hb6⟩
  go_wp2
  go_ret
  refine ⟨rfl, ?_, gtrans (gtrans (gtrans g1 (gtrans g2 g3)) (gtrans (gbelow hb4) g5)) (gtrans (gset _ _ _ _) (gbelow hb6))⟩
  have h6 := (h5.put (G' := { G with epc := bits .andNot .u32 q 3, cause := c, tval := t, st := 128, m := 3 }) (by rfl)).below hb6
  rw [W.trap, hs.out]
  exact h6


set_option maxHeartbeats 1600000 in
theorem rtrap_13 (b : Nat) (G : W.F) (c t q : Int) (w : World) (h : At RT b G w) (hS : (bits .and .u32 G.st 8 != 0) = true) (hm : (G.m == 3) = true) (hs : Hid (W.status 0 (W.bitsOf G.st 3 1) G.m = 6272)) : Calls Try.prog 18 #[.pointer (some ⟨b, 0, none⟩), .int .u32 c, .int .u32 t, .int .u32 q] w fun x w' => x = .returned (.int .u32 G.tvec) ∧ At RT b (W.trap G c t q) w' ∧ w.grownBy w' (some b) := by
  go_enter Try.func18, Try.ntmps18
  go_wp2_with fail
  refine (put_833 b G _ _ h).mono ?_
  rintro e w1 ⟨rfl, h1, g1⟩
  go_wp2_with fail
  refine (put_834 b _ _ _ h1).mono ?_
  rintro e w2 ⟨rfl, h2, g2⟩
  go_wp2_with fail
  refine (put_835 b _ _ _ h2).mono ?_
  rintro e w3 ⟨rfl, h3, g3⟩
  obtain ⟨c0, c1, c2, c3, c4, c5, c6, c7, c8, c9, c10, hz⟩ := h3.cells
  have hlt := h3.lt
  simp only at c0 c1 c2 c3 c4 c5 c6 c7 c8 c9 c10
  go_wp2_with fail
  refine (rreg_g { G with epc := bits .andNot .u32 q 3, cause := c, tval := t } 768 G.st rfl rfl _).mono ?_
  rintro e w4 ⟨rfl, hb4⟩
  have h4 := h3.below hb4
  clear c0 c1 c2 c3 c4 c5 c6 c7 c8 c9 c10 hz hlt; obtain ⟨c0, c1, c2, c3, c4, c5, c6, c7, c8, c9, c10, hz⟩ := h4.cells; have hlt := h4.lt; try simp only at c0 c1 c2 c3 c4 c5 c6 c7 c8 c9 c10
  go_wp2_with fail
  refine (put_768 b _ _ _ h4).mono ?_
  rintro e w5 ⟨rfl, h5, g5⟩
  clear c0 c1 c2 c3 c4 c5 c6 c7 c8 c9 c10 hz hlt; obtain ⟨c0, c1, c2, c3, c4, c5, c6, c7, c8, c9, c10, hz⟩ := h5.cells; have hlt := h5.lt; try simp only at c0 c1 c2 c3 c4 c5 c6 c7 c8 c9 c10
  go_wp2_with fail
  refine (rreg_g { G with epc := bits .andNot .u32 q 3, cause := c, tval := t, st := 6272, m := 3 } 773 G.tvec rfl rfl _).mono ?_
  rintro e w6 ⟨rfl, hb6⟩
  go_wp2
  go_ret
  refine ⟨rfl, ?_, gtrans (gtrans (gtrans g1 (gtrans g2 g3)) (gtrans (gbelow hb4) g5)) (gtrans (gset _ _ _ _) (gbelow hb6))⟩
  have h6 := (h5.put (G' := { G with epc := bits .andNot .u32 q 3, cause := c, tval := t, st := 6272, m := 3 }) (by rfl)).below hb6
  rw [W.trap, hs.out]
  exact h6


theorem rtrap_any (b : Nat) (G : W.F) (c t q : Int) (w : World) (h : At RT b G w) (s0 : 0 ≤ G.st) (s1 : G.st < 4294967296) (hm : G.m = 0 ∨ G.m = 3) : Calls Try.prog 18 #[.pointer (some ⟨b, 0, none⟩), .int .u32 c, .int .u32 t, .int .u32 q] w fun x w' => x = .returned (.int .u32 G.tvec) ∧ At RT b (W.trap G c t q) w' ∧ w.grownBy w' (some b) := by
  have hb := W.b3_eq G.st s0 s1
  have ha := W.and_8 G.st s0 s1
  have he : G.st / 8 % 2 = 0 ∨ G.st / 8 % 2 = 1 := by omega
  have hs := W.status_eq 0 (W.bitsOf G.st 3 1) G.m (Or.inl rfl) (by omega) hm
  rcases he with he | he <;> rcases hm with hm | hm
  · exact rtrap_00 b G c t q w h (by rw [ha, he]; rfl) (by rw [hm]; rfl) (by show _ = _; rw [hs, hb, he, hm]; rfl)
  · exact rtrap_03 b G c t q w h (by rw [ha, he]; rfl) (by rw [hm]; rfl) (by show _ = _; rw [hs, hb, he, hm]; rfl)
  · exact rtrap_10 b G c t q w h (by rw [ha, he]; rfl) (by rw [hm]; rfl) (by show _ = _; rw [hs, hb, he, hm]; rfl)
  · exact rtrap_13 b G c t q w h (by rw [ha, he]; rfl) (by rw [hm]; rfl) (by show _ = _; rw [hs, hb, he, hm]; rfl)


set_option maxHeartbeats 1600000 in
theorem rret_00 (b : Nat) (G : W.F) (w : World) (h : At RT b G w) (hS : (bits .and .u32 G.st 128 != 0) = false) (hm : (bits .and .u32 G.st 6144 == 6144) = false) (hs : Hid (W.status (W.bitsOf G.st 7 1) 1 0 = 128)) (hk : Hid (W.kmode G.st = 0)) : Calls Try.prog 20 #[.pointer (some ⟨b, 0, none⟩)] w fun x w' => x = .returned (.int .u32 G.epc) ∧ At RT b (W.fret G) w' ∧ w.grownBy w' (some b) := by
  obtain ⟨c0, c1, c2, c3, c4, c5, c6, c7, c8, c9, c10, hz⟩ := h.cells
  have hlt := h.lt
  go_enter Try.func20, Try.ntmps20
  go_wp2_with fail
  refine (rreg_g G 768 G.st rfl rfl _).mono ?_
  rintro e w1 ⟨rfl, hb1⟩
  have h1 := h.below hb1
  clear c0 c1 c2 c3 c4 c5 c6 c7 c8 c9 c10 hz hlt; obtain ⟨c0, c1, c2, c3, c4, c5, c6, c7, c8, c9, c10, hz⟩ := h1.cells; have hlt := h1.lt; try simp only at c0 c1 c2 c3 c4 c5 c6 c7 c8 c9 c10
  go_wp2_with fail
  have h2 := (h1.put (G' := { G with m := 0 }) (o := 0) (v := .int .i64 0) (by rfl))
  refine (put_768 b _ _ _ h2).mono ?_
  rintro e w3 ⟨rfl, h3, g3⟩
  clear c0 c1 c2 c3 c4 c5 c6 c7 c8 c9 c10 hz hlt; obtain ⟨c0, c1, c2, c3, c4, c5, c6, c7, c8, c9, c10, hz⟩ := h3.cells; have hlt := h3.lt; try simp only at c0 c1 c2 c3 c4 c5 c6 c7 c8 c9 c10
  go_wp2_with fail
  refine (rreg_g { G with m := 0, st := 128 } 833 G.epc rfl rfl _).mono ?_
  rintro e w4 ⟨rfl, hb4⟩
  go_wp2
  go_ret
  refine ⟨rfl, ?_, gtrans (gtrans (gbelow hb1) (gtrans (gset _ _ _ _) g3)) (gbelow hb4)⟩
  rw [W.fret, hs.out, hk.out]
  exact h3.below hb4


set_option maxHeartbeats 1600000 in
theorem rret_03 (b : Nat) (G : W.F) (w : World) (h : At RT b G w) (hS : (bits .and .u32 G.st 128 != 0) = false) (hm : (bits .and .u32 G.st 6144 == 6144) = true) (hs : Hid (W.status (W.bitsOf G.st 7 1) 1 0 = 128)) (hk : Hid (W.kmode G.st = 3)) : Calls Try.prog 20 #[.pointer (some ⟨b, 0, none⟩)] w fun x w' => x = .returned (.int .u32 G.epc) ∧ At RT b (W.fret G) w' ∧ w.grownBy w' (some b) := by
  obtain ⟨c0, c1, c2, c3, c4, c5, c6, c7, c8, c9, c10, hz⟩ := h.cells
  have hlt := h.lt
  go_enter Try.func20, Try.ntmps20
  go_wp2_with fail
  refine (rreg_g G 768 G.st rfl rfl _).mono ?_
  rintro e w1 ⟨rfl, hb1⟩
  have h1 := h.below hb1
  clear c0 c1 c2 c3 c4 c5 c6 c7 c8 c9 c10 hz hlt; obtain ⟨c0, c1, c2, c3, c4, c5, c6, c7, c8, c9, c10, hz⟩ := h1.cells; have hlt := h1.lt; try simp only at c0 c1 c2 c3 c4 c5 c6 c7 c8 c9 c10
  go_wp2_with fail
  have h2 := ((h1.put (G' := { G with m := 0 }) (o := 0) (v := .int .i64 0) (by rfl)).put (G' := { G with m := 3 }) (o := 0) (v := .int .i64 3) (by rfl))
  refine (put_768 b _ _ _ h2).mono ?_
  rintro e w3 ⟨rfl, h3, g3⟩
  clear c0 c1 c2 c3 c4 c5 c6 c7 c8 c9 c10 hz hlt; obtain ⟨c0, c1, c2, c3, c4, c5, c6, c7, c8, c9, c10, hz⟩ := h3.cells; have hlt := h3.lt; try simp only at c0 c1 c2 c3 c4 c5 c6 c7 c8 c9 c10
  go_wp2_with fail
  refine (rreg_g { G with m := 3, st := 128 } 833 G.epc rfl rfl _).mono ?_
  rintro e w4 ⟨rfl, hb4⟩
  go_wp2
  go_ret
  refine ⟨rfl, ?_, gtrans (gtrans (gbelow hb1) (gtrans (gtrans (gset _ _ _ _) (gset _ _ _ _)) g3)) (gbelow hb4)⟩
  rw [W.fret, hs.out, hk.out]
  exact h3.below hb4


set_option maxHeartbeats 1600000 in
theorem rret_10 (b : Nat) (G : W.F) (w : World) (h : At RT b G w) (hS : (bits .and .u32 G.st 128 != 0) = true) (hm : (bits .and .u32 G.st 6144 == 6144) = false) (hs : Hid (W.status (W.bitsOf G.st 7 1) 1 0 = 136)) (hk : Hid (W.kmode G.st = 0)) : Calls Try.prog 20 #[.pointer (some ⟨b, 0, none⟩)] w fun x w' => x = .returned (.int .u32 G.epc) ∧ At RT b (W.fret G) w' ∧ w.grownBy w' (some b) := by
  obtain ⟨c0, c1, c2, c3, c4, c5, c6, c7, c8, c9, c10, hz⟩ := h.cells
  have hlt := h.lt
  go_enter Try.func20, Try.ntmps20
  go_wp2_with fail
  refine (rreg_g G 768 G.st rfl rfl _).mono ?_
  rintro e w1 ⟨rfl, hb1⟩
  have h1 := h.below hb1
  clear c0 c1 c2 c3 c4 c5 c6 c7 c8 c9 c10 hz hlt; obtain ⟨c0, c1, c2, c3, c4, c5, c6, c7, c8, c9, c10, hz⟩ := h1.cells; have hlt := h1.lt; try simp only at c0 c1 c2 c3 c4 c5 c6 c7 c8 c9 c10
  go_wp2_with fail
  have h2 := (h1.put (G' := { G with m := 0 }) (o := 0) (v := .int .i64 0) (by rfl))
  refine (put_768 b _ _ _ h2).mono ?_
  rintro e w3 ⟨rfl, h3, g3⟩
  clear c0 c1 c2 c3 c4 c5 c6 c7 c8 c9 c10 hz hlt; obtain ⟨c0, c1, c2, c3, c4, c5, c6, c7, c8, c9, c10, hz⟩ := h3.cells; have hlt := h3.lt; try simp only at c0 c1 c2 c3 c4 c5 c6 c7 c8 c9 c10
  go_wp2_with fail
  refine (rreg_g { G with m := 0, st := 136 } 833 G.epc rfl rfl _).mono ?_
  rintro e w4 ⟨rfl, hb4⟩
  go_wp2
  go_ret
  refine ⟨rfl, ?_, gtrans (gtrans (gbelow hb1) (gtrans (gset _ _ _ _) g3)) (gbelow hb4)⟩
  rw [W.fret, hs.out, hk.out]
  exact h3.below hb4


set_option maxHeartbeats 1600000 in
theorem rret_13 (b : Nat) (G : W.F) (w : World) (h : At RT b G w) (hS : (bits .and .u32 G.st 128 != 0) = true) (hm : (bits .and .u32 G.st 6144 == 6144) = true) (hs : Hid (W.status (W.bitsOf G.st 7 1) 1 0 = 136)) (hk : Hid (W.kmode G.st = 3)) : Calls Try.prog 20 #[.pointer (some ⟨b, 0, none⟩)] w fun x w' => x = .returned (.int .u32 G.epc) ∧ At RT b (W.fret G) w' ∧ w.grownBy w' (some b) := by
  obtain ⟨c0, c1, c2, c3, c4, c5, c6, c7, c8, c9, c10, hz⟩ := h.cells
  have hlt := h.lt
  go_enter Try.func20, Try.ntmps20
  go_wp2_with fail
  refine (rreg_g G 768 G.st rfl rfl _).mono ?_
  rintro e w1 ⟨rfl, hb1⟩
  have h1 := h.below hb1
  clear c0 c1 c2 c3 c4 c5 c6 c7 c8 c9 c10 hz hlt; obtain ⟨c0, c1, c2, c3, c4, c5, c6, c7, c8, c9, c10, hz⟩ := h1.cells; have hlt := h1.lt; try simp only at c0 c1 c2 c3 c4 c5 c6 c7 c8 c9 c10
  go_wp2_with fail
  have h2 := ((h1.put (G' := { G with m := 0 }) (o := 0) (v := .int .i64 0) (by rfl)).put (G' := { G with m := 3 }) (o := 0) (v := .int .i64 3) (by rfl))
  refine (put_768 b _ _ _ h2).mono ?_
  rintro e w3 ⟨rfl, h3, g3⟩
  clear c0 c1 c2 c3 c4 c5 c6 c7 c8 c9 c10 hz hlt; obtain ⟨c0, c1, c2, c3, c4, c5, c6, c7, c8, c9, c10, hz⟩ := h3.cells; have hlt := h3.lt; try simp only at c0 c1 c2 c3 c4 c5 c6 c7 c8 c9 c10
  go_wp2_with fail
  refine (rreg_g { G with m := 3, st := 136 } 833 G.epc rfl rfl _).mono ?_
  rintro e w4 ⟨rfl, hb4⟩
  go_wp2
  go_ret
  refine ⟨rfl, ?_, gtrans (gtrans (gbelow hb1) (gtrans (gtrans (gset _ _ _ _) (gset _ _ _ _)) g3)) (gbelow hb4)⟩
  rw [W.fret, hs.out, hk.out]
  exact h3.below hb4


theorem rret_any (b : Nat) (G : W.F) (w : World) (h : At RT b G w) (s0 : 0 ≤ G.st) (s1 : G.st < 4294967296) : Calls Try.prog 20 #[.pointer (some ⟨b, 0, none⟩)] w fun x w' => x = .returned (.int .u32 G.epc) ∧ At RT b (W.fret G) w' ∧ w.grownBy w' (some b) := by
  have hb := W.b7_eq G.st s0 s1
  have ha := W.and_80 G.st s0 s1
  have hc := W.and_1800 G.st s0 s1
  have hk := W.kmode_eq G.st s0 s1
  have he : G.st / 128 % 2 = 0 ∨ G.st / 128 % 2 = 1 := by omega
  have hs := W.status_eq (W.bitsOf G.st 7 1) 1 0 (by omega) (Or.inr rfl) (Or.inl rfl)
  by_cases hm : G.st / 2048 % 4 = 3
  · rw [if_pos hm] at hk
    rcases he with he | he
    · exact rret_03 b G w h (by rw [ha, he]; rfl) (by rw [hc, hm]; rfl) (by show _ = _; rw [hs, hb, he]; rfl) hk
    · exact rret_13 b G w h (by rw [ha, he]; rfl) (by rw [hc, hm]; rfl) (by show _ = _; rw [hs, hb, he]; rfl) hk
  · rw [if_neg hm] at hk
    have hn : (bits .and .u32 G.st 6144 == 6144) = false := by rw [hc]; simp; omega
    rcases he with he | he
    · exact rret_00 b G w h (by rw [ha, he]; rfl) hn (by show _ = _; rw [hs, hb, he]; rfl) hk
    · exact rret_10 b G w h (by rw [ha, he]; rfl) hn (by show _ = _; rw [hs, hb, he]; rfl) hk
end Go.Proofs.Ytbagmlcakmhhaaa
