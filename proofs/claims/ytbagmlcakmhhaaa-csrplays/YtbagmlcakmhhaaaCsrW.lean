/- The document's registers: set, bell, new. -/
import Derived.Test.YtbagmlcakmhhaaaCsrT
import Derived.Test.YtbagmlcakmhhaaaCsrU
import Derived.Test.YtbagmlcakmhhaaaCsrMasksWalk
namespace Go.Proofs.Ytbagmlcakmhhaaa
open Go.ChangeShapes Go.WideShapes Go.ChangeAt Go.RowKit
set_option linter.unusedVariables false
set_option linter.unusedSimpArgs false


theorem rnew_any (hart : Int) (w : World) : Calls Try.prog 11 #[.int .i64 hart] w fun e w' => e = .returned (.agg (fileCells (W.fnew hart))) ∧ Below w.heap.size w w' := by
  go_enter Try.func11, Try.ntmps11
  go_wp2
  refine bodyPost_ret (v := .agg (fileCells (W.fnew hart))) (by simp [results, Try.results11, go_sem, fileCells, W.fnew]) rfl ⟨rfl, ?_⟩
  repeat (first | exact Below.refl _ _ | (refine Below.setCell ?_ (by simp) _) | (refine Below.alloc ?_ (by simp) _))

theorem rbell_any (b : Nat) (G : W.F) (on : Bool) (w : World) (h : At RT b G w) : Calls Try.prog 16 #[.pointer (some ⟨b, 0, none⟩), .bool on] w fun x w' => x = .returned (.tuple #[]) ∧ At RT b (W.bell G on) w' ∧ w.grownBy w' (some b) := by
  cases on
  · go_enter Try.func16, Try.ntmps16
    go_wp2_with (go_at_call 34; refine (put_836 b G _ _ h).mono ?_; rintro e w1 ⟨rfl, h1, g1⟩)
    go_end0
    exact ⟨rfl, h1, g1⟩
  · go_enter Try.func16, Try.ntmps16
    go_wp2_with fail
    refine (put_836 b G _ _ h).mono ?_
    rintro e w1 ⟨rfl, h1, g1⟩
    go_wp2_with fail
    refine (put_836 b _ _ _ h1).mono ?_
    rintro e w2 ⟨rfl, h2, g2⟩
    go_wp2
    go_end0
    exact ⟨rfl, h2, gtrans g1 g2⟩


set_option maxHeartbeats 1600000 in
theorem rset_any (b : Nat) (G : W.F) (n v : Int) (v0 : 0 ≤ v) (v1 : v < 4294967296) (w : World) (h : At RT b G w) : Calls Try.prog 14 #[.pointer (some ⟨b, 0, none⟩), .int .i64 n, .int .u32 v] w fun x w' => x = .returned (.bool (W.setB G n)) ∧ At RT b (W.fset G n v) w' ∧ w.grownBy w' (some b) := by
  obtain ⟨c0, c1, c2, c3, c4, c5, c6, c7, c8, c9, c10, hz⟩ := h.cells
  have hlt := h.lt
  cases hB : W.getB G n
  case false =>
    have e1 : Hid (W.setB G n = false ∧ W.fset G n v = G) := by
      have : W.setB G n = false ∧ W.fset G n v = G := by
        cases hm : (G.m == 0)
        case true => simp [W.setB, W.fset, hm]
        simp only [W.getB, hm, Bool.not_false, Bool.true_and] at hB
        simp only [W.isReg, Bool.or_eq_false_iff] at hB
        obtain ⟨g0, g1, g2, g3, g4, g5, g6, g7, g8, g9⟩ := hB
        simp [W.setB, W.fset, W.isSet, hm, g0, g1, g2, g3, g4, g5, g6, g7, g8]
      exact this
    go_enter Try.func14, Try.ntmps14
    go_wp2_with (go_at_call 22; refine (rget_any G n _).mono ?_; rintro e w1 ⟨rfl, hb⟩)
    go_ret
    rw [e1.out.1, e1.out.2]
    exact ⟨rfl, h.below hb, gbelow hb⟩
  have hm : (G.m == 0) = false := by
    simp only [W.getB, Bool.and_eq_true, Bool.not_eq_true'] at hB; exact hB.1
  have hn : W.isReg n = true := by
    simp only [W.getB, Bool.and_eq_true] at hB; exact hB.2
  have hr := isReg_cases n hn
  clear hn
  have HB : Hid (W.getB G n = true) := hB
  clear hB
  rcases hr with rfl | rfl | rfl | rfl | rfl | rfl | rfl | rfl | rfl | rfl
  · have e1 : Hid (W.setB G 384 = true ∧ W.fset G 384 v = { G with satp := bits .and .u32 v 2151677951 }) := by
      have : W.setB G 384 = true ∧ W.fset G 384 v = { G with satp := bits .and .u32 v 2151677951 } := by simp [W.setB, W.fset, hm, W.isSet, W.algn]
      exact this
    go_enter Try.func14, Try.ntmps14
    go_wp2_with (first | (go_at_call 22; refine (rget_any G _ _).mono ?_; rintro e w1 ⟨rfl, hb⟩; rw [HB.out]) | (go_at_call 34; refine (put_384 b G _ _ (h.below hb)).mono ?_; rintro e w2 ⟨rfl, h2, g2⟩))
    go_ret
    rw [e1.out.1, e1.out.2]
    exact ⟨rfl, h2, gtrans (gbelow hb) g2⟩
  · cases hc : (bits .and .u32 v 6144 == 6144)
    · have e1 : Hid (W.setB G 768 = true ∧ W.fset G 768 v = { G with st := bits .and .u32 v 136 }) := by
        have q := W.want_st v v0 v1 _ hc
        simp only [cond_true, cond_false] at q
        have : W.setB G 768 = true ∧ W.fset G 768 v = { G with st := bits .and .u32 v 136 } := by rw [← q]; simp [W.setB, W.fset, hm, W.isSet]
        exact this
      go_enter Try.func14, Try.ntmps14
      go_wp2_with (first | (go_at_call 22; refine (rget_any G _ _).mono ?_; rintro e w1 ⟨rfl, hb⟩; rw [HB.out]) | (go_at_call 34; refine (put_768 b G _ _ (h.below hb)).mono ?_; rintro e w2 ⟨rfl, h2, g2⟩))
      go_ret
      rw [e1.out.1, e1.out.2]
      exact ⟨rfl, h2, gtrans (gbelow hb) g2⟩
    · have e1 : Hid (W.setB G 768 = true ∧ W.fset G 768 v = { G with st := bits .or .u32 (bits .and .u32 v 136) 6144 }) := by
        have q := W.want_st v v0 v1 _ hc
        simp only [cond_true, cond_false] at q
        have : W.setB G 768 = true ∧ W.fset G 768 v = { G with st := bits .or .u32 (bits .and .u32 v 136) 6144 } := by rw [← q]; simp [W.setB, W.fset, hm, W.isSet]
        exact this
      go_enter Try.func14, Try.ntmps14
      go_wp2_with (first | (go_at_call 22; refine (rget_any G _ _).mono ?_; rintro e w1 ⟨rfl, hb⟩; rw [HB.out]) | (go_at_call 34; refine (put_768 b G _ _ (h.below hb)).mono ?_; rintro e w2 ⟨rfl, h2, g2⟩))
      go_ret
      rw [e1.out.1, e1.out.2]
      exact ⟨rfl, h2, gtrans (gbelow hb) g2⟩
  · have e1 : Hid (W.setB G 772 = true ∧ W.fset G 772 v = { G with mie := bits .and .u32 v 8 }) := by
      have : W.setB G 772 = true ∧ W.fset G 772 v = { G with mie := bits .and .u32 v 8 } := by simp [W.setB, W.fset, hm, W.isSet, W.algn]
      exact this
    go_enter Try.func14, Try.ntmps14
    go_wp2_with (first | (go_at_call 22; refine (rget_any G _ _).mono ?_; rintro e w1 ⟨rfl, hb⟩; rw [HB.out]) | (go_at_call 34; refine (put_772 b G _ _ (h.below hb)).mono ?_; rintro e w2 ⟨rfl, h2, g2⟩))
    go_ret
    rw [e1.out.1, e1.out.2]
    exact ⟨rfl, h2, gtrans (gbelow hb) g2⟩
  · have e1 : Hid (W.setB G 773 = true ∧ W.fset G 773 v = { G with tvec := bits .andNot .u32 v 3 }) := by
      have : W.setB G 773 = true ∧ W.fset G 773 v = { G with tvec := bits .andNot .u32 v 3 } := by simp [W.setB, W.fset, hm, W.isSet, W.algn]
      exact this
    go_enter Try.func14, Try.ntmps14
    go_wp2_with (first | (go_at_call 22; refine (rget_any G _ _).mono ?_; rintro e w1 ⟨rfl, hb⟩; rw [HB.out]) | (go_at_call 34; refine (put_773 b G _ _ (h.below hb)).mono ?_; rintro e w2 ⟨rfl, h2, g2⟩))
    go_ret
    rw [e1.out.1, e1.out.2]
    exact ⟨rfl, h2, gtrans (gbelow hb) g2⟩
  · have e1 : Hid (W.setB G 832 = true ∧ W.fset G 832 v = { G with scr := v }) := by
      have : W.setB G 832 = true ∧ W.fset G 832 v = { G with scr := v } := by simp [W.setB, W.fset, hm, W.isSet, W.algn]
      exact this
    go_enter Try.func14, Try.ntmps14
    go_wp2_with (first | (go_at_call 22; refine (rget_any G _ _).mono ?_; rintro e w1 ⟨rfl, hb⟩; rw [HB.out]) | (go_at_call 34; refine (put_832 b G _ _ (h.below hb)).mono ?_; rintro e w2 ⟨rfl, h2, g2⟩))
    go_ret
    rw [e1.out.1, e1.out.2]
    exact ⟨rfl, h2, gtrans (gbelow hb) g2⟩
  · have e1 : Hid (W.setB G 833 = true ∧ W.fset G 833 v = { G with epc := bits .andNot .u32 v 3 }) := by
      have : W.setB G 833 = true ∧ W.fset G 833 v = { G with epc := bits .andNot .u32 v 3 } := by simp [W.setB, W.fset, hm, W.isSet, W.algn]
      exact this
    go_enter Try.func14, Try.ntmps14
    go_wp2_with (first | (go_at_call 22; refine (rget_any G _ _).mono ?_; rintro e w1 ⟨rfl, hb⟩; rw [HB.out]) | (go_at_call 34; refine (put_833 b G _ _ (h.below hb)).mono ?_; rintro e w2 ⟨rfl, h2, g2⟩))
    go_ret
    rw [e1.out.1, e1.out.2]
    exact ⟨rfl, h2, gtrans (gbelow hb) g2⟩
  · have e1 : Hid (W.setB G 834 = true ∧ W.fset G 834 v = { G with cause := v }) := by
      have : W.setB G 834 = true ∧ W.fset G 834 v = { G with cause := v } := by simp [W.setB, W.fset, hm, W.isSet, W.algn]
      exact this
    go_enter Try.func14, Try.ntmps14
    go_wp2_with (first | (go_at_call 22; refine (rget_any G _ _).mono ?_; rintro e w1 ⟨rfl, hb⟩; rw [HB.out]) | (go_at_call 34; refine (put_834 b G _ _ (h.below hb)).mono ?_; rintro e w2 ⟨rfl, h2, g2⟩))
    go_ret
    rw [e1.out.1, e1.out.2]
    exact ⟨rfl, h2, gtrans (gbelow hb) g2⟩
  · have e1 : Hid (W.setB G 835 = true ∧ W.fset G 835 v = { G with tval := v }) := by
      have : W.setB G 835 = true ∧ W.fset G 835 v = { G with tval := v } := by simp [W.setB, W.fset, hm, W.isSet, W.algn]
      exact this
    go_enter Try.func14, Try.ntmps14
    go_wp2_with (first | (go_at_call 22; refine (rget_any G _ _).mono ?_; rintro e w1 ⟨rfl, hb⟩; rw [HB.out]) | (go_at_call 34; refine (put_835 b G _ _ (h.below hb)).mono ?_; rintro e w2 ⟨rfl, h2, g2⟩))
    go_ret
    rw [e1.out.1, e1.out.2]
    exact ⟨rfl, h2, gtrans (gbelow hb) g2⟩
  · have e1 : Hid (W.setB G 836 = true ∧ W.fset G 836 v = G) := by
      have : W.setB G 836 = true ∧ W.fset G 836 v = G := by simp [W.setB, W.fset, hm, W.isSet]
      exact this
    go_enter Try.func14, Try.ntmps14
    go_wp2_with (go_at_call 22; refine (rget_any G _ _).mono ?_; rintro e w1 ⟨rfl, hb⟩; rw [HB.out])
    go_ret
    rw [e1.out.1, e1.out.2]
    exact ⟨rfl, h.below hb, gbelow hb⟩
  · have e1 : Hid (W.setB G 3860 = false ∧ W.fset G 3860 v = G) := by
      have : W.setB G 3860 = false ∧ W.fset G 3860 v = G := by simp [W.setB, W.fset, hm, W.isSet]
      exact this
    go_enter Try.func14, Try.ntmps14
    go_wp2_with (go_at_call 22; refine (rget_any G _ _).mono ?_; rintro e w1 ⟨rfl, hb⟩; rw [HB.out])
    go_ret
    rw [e1.out.1, e1.out.2]
    exact ⟨rfl, h.below hb, gbelow hb⟩
end Go.Proofs.Ytbagmlcakmhhaaa
