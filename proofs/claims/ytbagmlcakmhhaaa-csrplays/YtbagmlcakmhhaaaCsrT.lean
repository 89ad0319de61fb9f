/- The document's registers: a register put. -/
import Derived.Test.YtbagmlcakmhhaaaCsrS
namespace Go.Proofs.Ytbagmlcakmhhaaa
open Go.ChangeShapes Go.WideShapes Go.ChangeAt Go.RowKit
set_option linter.unusedVariables false
set_option linter.unusedSimpArgs false


set_option maxHeartbeats 1600000 in
theorem put_384 (b : Nat) (G : W.F) (v : Int) (w : World) (h : At RT b G w) : Calls Try.prog 34 #[.pointer (some ⟨b, 0, none⟩), .int .i64 384, .int .u32 v] w fun x w' => x = .returned (.tuple #[]) ∧ At RT b { G with satp := v } w' ∧ w.grownBy w' (some b) := by
  obtain ⟨c0, c1, c2, c3, c4, c5, c6, c7, c8, c9, c10, hz⟩ := h.cells
  have hlt := h.lt
  go_enter Try.func34, Try.ntmps34
  go_region_with (go_at_call 35; refine (at_g 384 0 rfl _).mono ?_; rintro e w1 ⟨rfl, hb⟩; have h1 := h.below ((Below.refl w.heap.size w).drew.trans (hb.mono (Nat.le_refl _))); clear c0 c1 c2 c3 c4 c5 c6 c7 c8 c9 c10 hz hlt; obtain ⟨c0, c1, c2, c3, c4, c5, c6, c7, c8, c9, c10, hz⟩ := h1.cells; have hlt := h1.lt)
  all_goals
    go_wp2
    go_end0
    exact ⟨rfl, h1.put (by rfl), gtrans (gbelow ((Below.refl w.heap.size w).drew.trans (hb.mono (Nat.le_refl _)))) (gset _ _ _ _)⟩


set_option maxHeartbeats 1600000 in
theorem put_768 (b : Nat) (G : W.F) (v : Int) (w : World) (h : At RT b G w) : Calls Try.prog 34 #[.pointer (some ⟨b, 0, none⟩), .int .i64 768, .int .u32 v] w fun x w' => x = .returned (.tuple #[]) ∧ At RT b { G with st := v } w' ∧ w.grownBy w' (some b) := by
  obtain ⟨c0, c1, c2, c3, c4, c5, c6, c7, c8, c9, c10, hz⟩ := h.cells
  have hlt := h.lt
  go_enter Try.func34, Try.ntmps34
  go_region_with (go_at_call 35; refine (at_g 768 1 rfl _).mono ?_; rintro e w1 ⟨rfl, hb⟩; have h1 := h.below ((Below.refl w.heap.size w).drew.trans (hb.mono (Nat.le_refl _))); clear c0 c1 c2 c3 c4 c5 c6 c7 c8 c9 c10 hz hlt; obtain ⟨c0, c1, c2, c3, c4, c5, c6, c7, c8, c9, c10, hz⟩ := h1.cells; have hlt := h1.lt)
  all_goals
    go_wp2
    go_end0
    exact ⟨rfl, h1.put (by rfl), gtrans (gbelow ((Below.refl w.heap.size w).drew.trans (hb.mono (Nat.le_refl _)))) (gset _ _ _ _)⟩


set_option maxHeartbeats 1600000 in
theorem put_772 (b : Nat) (G : W.F) (v : Int) (w : World) (h : At RT b G w) : Calls Try.prog 34 #[.pointer (some ⟨b, 0, none⟩), .int .i64 772, .int .u32 v] w fun x w' => x = .returned (.tuple #[]) ∧ At RT b { G with mie := v } w' ∧ w.grownBy w' (some b) := by
  obtain ⟨c0, c1, c2, c3, c4, c5, c6, c7, c8, c9, c10, hz⟩ := h.cells
  have hlt := h.lt
  go_enter Try.func34, Try.ntmps34
  go_region_with (go_at_call 35; refine (at_g 772 2 rfl _).mono ?_; rintro e w1 ⟨rfl, hb⟩; have h1 := h.below ((Below.refl w.heap.size w).drew.trans (hb.mono (Nat.le_refl _))); clear c0 c1 c2 c3 c4 c5 c6 c7 c8 c9 c10 hz hlt; obtain ⟨c0, c1, c2, c3, c4, c5, c6, c7, c8, c9, c10, hz⟩ := h1.cells; have hlt := h1.lt)
  all_goals
    go_wp2
    go_end0
    exact ⟨rfl, h1.put (by rfl), gtrans (gbelow ((Below.refl w.heap.size w).drew.trans (hb.mono (Nat.le_refl _)))) (gset _ _ _ _)⟩


set_option maxHeartbeats 1600000 in
theorem put_773 (b : Nat) (G : W.F) (v : Int) (w : World) (h : At RT b G w) : Calls Try.prog 34 #[.pointer (some ⟨b, 0, none⟩), .int .i64 773, .int .u32 v] w fun x w' => x = .returned (.tuple #[]) ∧ At RT b { G with tvec := v } w' ∧ w.grownBy w' (some b) := by
  obtain ⟨c0, c1, c2, c3, c4, c5, c6, c7, c8, c9, c10, hz⟩ := h.cells
  have hlt := h.lt
  go_enter Try.func34, Try.ntmps34
  go_region_with (go_at_call 35; refine (at_g 773 3 rfl _).mono ?_; rintro e w1 ⟨rfl, hb⟩; have h1 := h.below ((Below.refl w.heap.size w).drew.trans (hb.mono (Nat.le_refl _))); clear c0 c1 c2 c3 c4 c5 c6 c7 c8 c9 c10 hz hlt; obtain ⟨c0, c1, c2, c3, c4, c5, c6, c7, c8, c9, c10, hz⟩ := h1.cells; have hlt := h1.lt)
  all_goals
    go_wp2
    go_end0
    exact ⟨rfl, h1.put (by rfl), gtrans (gbelow ((Below.refl w.heap.size w).drew.trans (hb.mono (Nat.le_refl _)))) (gset _ _ _ _)⟩


set_option maxHeartbeats 1600000 in
theorem put_832 (b : Nat) (G : W.F) (v : Int) (w : World) (h : At RT b G w) : Calls Try.prog 34 #[.pointer (some ⟨b, 0, none⟩), .int .i64 832, .int .u32 v] w fun x w' => x = .returned (.tuple #[]) ∧ At RT b { G with scr := v } w' ∧ w.grownBy w' (some b) := by
  obtain ⟨c0, c1, c2, c3, c4, c5, c6, c7, c8, c9, c10, hz⟩ := h.cells
  have hlt := h.lt
  go_enter Try.func34, Try.ntmps34
  go_region_with (go_at_call 35; refine (at_g 832 4 rfl _).mono ?_; rintro e w1 ⟨rfl, hb⟩; have h1 := h.below ((Below.refl w.heap.size w).drew.trans (hb.mono (Nat.le_refl _))); clear c0 c1 c2 c3 c4 c5 c6 c7 c8 c9 c10 hz hlt; obtain ⟨c0, c1, c2, c3, c4, c5, c6, c7, c8, c9, c10, hz⟩ := h1.cells; have hlt := h1.lt)
  all_goals
    go_wp2
    go_end0
    exact ⟨rfl, h1.put (by rfl), gtrans (gbelow ((Below.refl w.heap.size w).drew.trans (hb.mono (Nat.le_refl _)))) (gset _ _ _ _)⟩


set_option maxHeartbeats 1600000 in
theorem put_833 (b : Nat) (G : W.F) (v : Int) (w : World) (h : At RT b G w) : Calls Try.prog 34 #[.pointer (some ⟨b, 0, none⟩), .int .i64 833, .int .u32 v] w fun x w' => x = .returned (.tuple #[]) ∧ At RT b { G with epc := v } w' ∧ w.grownBy w' (some b) := by
  obtain ⟨c0, c1, c2, c3, c4, c5, c6, c7, c8, c9, c10, hz⟩ := h.cells
  have hlt := h.lt
  go_enter Try.func34, Try.ntmps34
  go_region_with (go_at_call 35; refine (at_g 833 5 rfl _).mono ?_; rintro e w1 ⟨rfl, hb⟩; have h1 := h.below ((Below.refl w.heap.size w).drew.trans (hb.mono (Nat.le_refl _))); clear c0 c1 c2 c3 c4 c5 c6 c7 c8 c9 c10 hz hlt; obtain ⟨c0, c1, c2, c3, c4, c5, c6, c7, c8, c9, c10, hz⟩ := h1.cells; have hlt := h1.lt)
  all_goals
    go_wp2
    go_end0
    exact ⟨rfl, h1.put (by rfl), gtrans (gbelow ((Below.refl w.heap.size w).drew.trans (hb.mono (Nat.le_refl _)))) (gset _ _ _ _)⟩


set_option maxHeartbeats 1600000 in
theorem put_834 (b : Nat) (G : W.F) (v : Int) (w : World) (h : At RT b G w) : Calls Try.prog 34 #[.pointer (some ⟨b, 0, none⟩), .int .i64 834, .int .u32 v] w fun x w' => x = .returned (.tuple #[]) ∧ At RT b { G with cause := v } w' ∧ w.grownBy w' (some b) := by
  obtain ⟨c0, c1, c2, c3, c4, c5, c6, c7, c8, c9, c10, hz⟩ := h.cells
  have hlt := h.lt
  go_enter Try.func34, Try.ntmps34
  go_region_with (go_at_call 35; refine (at_g 834 6 rfl _).mono ?_; rintro e w1 ⟨rfl, hb⟩; have h1 := h.below ((Below.refl w.heap.size w).drew.trans (hb.mono (Nat.le_refl _))); clear c0 c1 c2 c3 c4 c5 c6 c7 c8 c9 c10 hz hlt; obtain ⟨c0, c1, c2, c3, c4, c5, c6, c7, c8, c9, c10, hz⟩ := h1.cells; have hlt := h1.lt)
  all_goals
    go_wp2
    go_end0
    exact ⟨rfl, h1.put (by rfl), gtrans (gbelow ((Below.refl w.heap.size w).drew.trans (hb.mono (Nat.le_refl _)))) (gset _ _ _ _)⟩


set_option maxHeartbeats 1600000 in
theorem put_835 (b : Nat) (G : W.F) (v : Int) (w : World) (h : At RT b G w) : Calls Try.prog 34 #[.pointer (some ⟨b, 0, none⟩), .int .i64 835, .int .u32 v] w fun x w' => x = .returned (.tuple #[]) ∧ At RT b { G with tval := v } w' ∧ w.grownBy w' (some b) := by
  obtain ⟨c0, c1, c2, c3, c4, c5, c6, c7, c8, c9, c10, hz⟩ := h.cells
  have hlt := h.lt
  go_enter Try.func34, Try.ntmps34
  go_region_with (go_at_call 35; refine (at_g 835 7 rfl _).mono ?_; rintro e w1 ⟨rfl, hb⟩; have h1 := h.below ((Below.refl w.heap.size w).drew.trans (hb.mono (Nat.le_refl _))); clear c0 c1 c2 c3 c4 c5 c6 c7 c8 c9 c10 hz hlt; obtain ⟨c0, c1, c2, c3, c4, c5, c6, c7, c8, c9, c10, hz⟩ := h1.cells; have hlt := h1.lt)
  all_goals
    go_wp2
    go_end0
    exact ⟨rfl, h1.put (by rfl), gtrans (gbelow ((Below.refl w.heap.size w).drew.trans (hb.mono (Nat.le_refl _)))) (gset _ _ _ _)⟩


set_option maxHeartbeats 1600000 in
theorem put_836 (b : Nat) (G : W.F) (v : Int) (w : World) (h : At RT b G w) : Calls Try.prog 34 #[.pointer (some ⟨b, 0, none⟩), .int .i64 836, .int .u32 v] w fun x w' => x = .returned (.tuple #[]) ∧ At RT b { G with mip := v } w' ∧ w.grownBy w' (some b) := by
  obtain ⟨c0, c1, c2, c3, c4, c5, c6, c7, c8, c9, c10, hz⟩ := h.cells
  have hlt := h.lt
  go_enter Try.func34, Try.ntmps34
  go_region_with (go_at_call 35; refine (at_g 836 8 rfl _).mono ?_; rintro e w1 ⟨rfl, hb⟩; have h1 := h.below ((Below.refl w.heap.size w).drew.trans (hb.mono (Nat.le_refl _))); clear c0 c1 c2 c3 c4 c5 c6 c7 c8 c9 c10 hz hlt; obtain ⟨c0, c1, c2, c3, c4, c5, c6, c7, c8, c9, c10, hz⟩ := h1.cells; have hlt := h1.lt)
  all_goals
    go_wp2
    go_end0
    exact ⟨rfl, h1.put (by rfl), gtrans (gbelow ((Below.refl w.heap.size w).drew.trans (hb.mono (Nat.le_refl _)))) (gset _ _ _ _)⟩


set_option maxHeartbeats 1600000 in
theorem put_3860 (b : Nat) (G : W.F) (v : Int) (w : World) (h : At RT b G w) : Calls Try.prog 34 #[.pointer (some ⟨b, 0, none⟩), .int .i64 3860, .int .u32 v] w fun x w' => x = .returned (.tuple #[]) ∧ At RT b { G with hart := v } w' ∧ w.grownBy w' (some b) := by
  obtain ⟨c0, c1, c2, c3, c4, c5, c6, c7, c8, c9, c10, hz⟩ := h.cells
  have hlt := h.lt
  go_enter Try.func34, Try.ntmps34
  go_region_with (go_at_call 35; refine (at_g 3860 9 rfl _).mono ?_; rintro e w1 ⟨rfl, hb⟩; have h1 := h.below ((Below.refl w.heap.size w).drew.trans (hb.mono (Nat.le_refl _))); clear c0 c1 c2 c3 c4 c5 c6 c7 c8 c9 c10 hz hlt; obtain ⟨c0, c1, c2, c3, c4, c5, c6, c7, c8, c9, c10, hz⟩ := h1.cells; have hlt := h1.lt)
  all_goals
    go_wp2
    go_end0
    exact ⟨rfl, h1.put (by rfl), gtrans (gbelow ((Below.refl w.heap.size w).drew.trans (hb.mono (Nat.le_refl _)))) (gset _ _ _ _)⟩

end Go.Proofs.Ytbagmlcakmhhaaa
