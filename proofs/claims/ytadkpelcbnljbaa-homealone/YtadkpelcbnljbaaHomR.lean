/- home: the chapter's examples. -/
import Derived.Test.YtadkpelcbnljbaaHomQ
import Derived.Deep.CutRange
namespace Go.Proofs.Ytadkpelcbnljbaa
open Go.ChangeShapes Go.WideShapes Go.ChangeAt Go.RowKit
set_option linter.unusedVariables false
set_option linter.unusedSimpArgs false
attribute [local go_sem ↓] ldM_eq stM_eq bdM_eq bsM_eq
variable {n0 hb : Nat} {s s' : W.Hm} {sv av sv' av' sv'' av'' : Value} {w w' w'' : World}
def W.up (k l f : Int) : W.Mg := ⟨k, l, f, -1, 0, 0, 0, 0, false, false, false⟩
theorem bdM_3 (k f t : Int) (w : World) : (bdM #[(0, .int .i64 k), (2, .int .i64 f), (3, .int .i64 t)]).run Try.prog w = .ok (mgV ⟨k, 0, f, t, 0, 0, 0, 0, false, false, false⟩) w := by kernel_rfl
theorem bdM_up (k l f : Int) (w : World) : (bdM #[(0, .int .i64 k), (1, .int .i64 l), (2, .int .i64 f), (3, .int .i64 (-1))]).run Try.prog w = .ok (mgV (W.up k l f)) w := bdM_4 k l f (-1) w
theorem bdM_up0 (k f : Int) (w : World) : (bdM #[(0, .int .i64 k), (2, .int .i64 f), (3, .int .i64 (-1))]).run Try.prog w = .ok (mgV (W.up k 0 f)) w := bdM_3 k f (-1) w
theorem ms_1 {sl : W.Sl} {m : W.Mg} (h : Ms sl [m] w) : ∃ b o c, sl = ⟨some ⟨b, o, none⟩, 1, c⟩ ∧ 1 ≤ c ∧ b < w.heap.size ∧ w.rangeAt b o (mgL m) := by
  obtain ⟨a, n, c⟩ := sl
  obtain rfl : n = 1 := h.n
  obtain ⟨b, o, rfl, hl, hr⟩ := h.at_ (by show 0 < 1; decide)
  refine ⟨b, o, c, rfl, h.nc, hl, ?_⟩
  have := hr 0 m rfl
  simpa using this
theorem ms_0 {sl : W.Sl} (h : Ms sl [] w) : sl.n = 0 := h.n
theorem f1s : W.take (W.hm0 3 2 7 0 0 0) (W.up 1 3 0) = (⟨3, 2, 7, 0, 0, 0, 0, [], 0, 1, [], -1, W.mg0⟩, [⟨7, 3, -1, 0, 7, 0, 0, 0, true, false, true⟩]) := by rfl
theorem f2s : W.take ⟨3, 2, 7, 0, 0, 0, 0, [], 0, 1, [], -1, W.mg0⟩ (W.up 12 3 0) = (⟨3, 2, 7, 0, 0, 0, 0, [], -1, 1, [], -1, W.mg0⟩, []) := by rfl
theorem f3s : W.take ⟨3, 2, 7, 0, 0, 0, 0, [], -1, 1, [], -1, W.mg0⟩ (W.up 1 3 1) = (⟨3, 2, 7, 0, 0, 0, 0, [], 1, 1, [], 0, W.mg0⟩, [⟨5, 3, -1, 0, 0, 0, 0, 0, false, false, false⟩]) := by rfl
set_option maxRecDepth 10000 in
set_option maxHeartbeats 1600000 in
theorem first18_any (w : World) : Calls Try.prog 7 #[] w fun e w' => e = .returned (.bool true) ∧ Below w.heap.size w w' := by
  have bd := bdM_up
  go_enter Try.func7, Try.ntmps7
  go_wp2_with (fail)
  refine (new_any 3 2 7 0 0 0 w).mono ?_
  rintro e w1 ⟨rfl, hH, hb⟩
  have HH : Hid (_) := Hq.new 3 2 7 0 0 0 w w1 (by decide) (by decide) hH hb
  clear hH hb
  have HN : Hid (w.heap.size = w.heap.size) := rfl
  generalize w.heap.size + 1 = hb at *
  go_wp2_with (fail)
  refine (HH.out.take (W.up 1 3 0) (by decide)).mono ?_
  rintro e w2 ⟨sl1, rfl, hm1, h1, _⟩
  rw [f1s] at hm1 h1
  obtain ⟨b1, o1, c1, rfl, hc1, hl1, hr1⟩ := ms_1 hm1
  have HA : Hid (_ ∧ _) := ⟨h1, hr1⟩
  clear hm1 h1 hr1 HH
  unfold slV
  dsimp only
  go_wp2_with (fail)
  refine (HA.out.1.owner).mono ?_
  rintro e w3 ⟨rfl, rfl⟩
  dsimp only
  go_wp2_with (fail)
  refine (HA.out.1.take (W.up 12 3 0) (by decide)).mono ?_
  rintro e w3 ⟨sl2, rfl, _, h2, hk2⟩
  rw [f2s] at h2
  have hr2 := range_block HA.out.2 (hk2 b1 (Or.inr ⟨by decide, o1, rfl⟩))
  have HB : Hid (_ ∧ _) := ⟨h2.sub (fun b hp => Or.inl hp), hr2⟩
  clear h2 hk2 hr2 HA
  obtain ⟨a2, n2, c2⟩ := sl2
  unfold slV
  dsimp only
  go_wp2_with (fail)
  refine (HB.out.1.take (W.up 1 3 1) (by decide)).mono ?_
  rintro e w4 ⟨sl3, rfl, hm3, h3, hk3⟩
  rw [f3s] at hm3 h3
  obtain ⟨b3, o3, c3, rfl, hc3, hl3, hr3⟩ := ms_1 hm3
  have hr4 := range_block HB.out.2 (hk3 b1 (Or.inr ⟨by decide, o1, rfl⟩))
  have k1 : w4.cell? ⟨b1, o1, none⟩ = some (.int .i64 7) := hr4 0 _ rfl
  have k2 : w4.cell? ⟨b1, o1 + 10, none⟩ = some (.bool true) := hr4 10 _ rfl
  have k3 : w4.cell? ⟨b3, o3, none⟩ = some (.int .i64 5) := hr3 0 _ rfl
  have k4 : w4.cell? ⟨b3, o3 + 3, none⟩ = some (.int .i64 0) := hr3 3 _ rfl
  have HE : Hid (_) := h3.b
  clear hm3 h3 hk3 hr3 hr4 HB bd
  unfold slV
  dsimp only
  go_wp2_with (fail)
  go_ret
  exact ⟨rfl, HE.out⟩
end Go.Proofs.Ytadkpelcbnljbaa
