/- CachePlays: too much. -/
import Derived.Test.YtlindkhmjkionaaDoorCapC
namespace Go.Proofs.YtlindkhmjkionaaDoor
open Go.ChangeShapes Go.WideShapes Go.ChangeAt Go.RowKit
set_option linter.unusedVariables false
set_option linter.unusedSimpArgs false
theorem li_of (s : W.Sl) (q : Nat → Int) (w : World) (h : IsIs s q w) (h20 : s.n ≤ 20) : Li s ((List.range s.n).map q) w := by
  refine ⟨by simp, by omega, h.1, fun h0 => ?_⟩
  obtain ⟨b, o, e, hb, hc⟩ := h.2.2 h0
  refine ⟨b, o, e, hb, fun j x hj => ?_⟩
  rw [List.getElem?_map] at hj
  obtain ⟨y, hy, rfl⟩ := Option.map_eq_some_iff.1 hj
  have hlt : j < s.n := by
    have := (List.getElem?_eq_some_iff.1 hy).1
    simpa using this
  rw [List.getElem?_range hlt] at hy
  cases hy
  exact (hc j hlt).1
set_option maxRecDepth 10000 in
set_option maxHeartbeats 1600000 in
theorem plays_long (A : Nat → Addr) (sets ways ask : Int) (a1 : Option Addr) (M c1 : Nat) (a2 : Option Addr) (N c2 : Nat) (hm : M ≤ maxLen) (hn : N ≤ maxLen) (hk : 60 < M ∨ (M ≤ 60 ∧ 20 < N)) (w : World) (hS : Sent A w) :
    Calls Tryd.prog 3 #[.int .i64 sets, .int .i64 ways, .slice a1 M c1, .int .i64 ask, .slice a2 N c2] w fun e w' => e = .returned (.bool true) ∧ Below w.heap.size w w' := by
  have HS : Hid (Sent A w) := hS
  unfold maxLen at hm hn
  clear hS
  rcases hk with hk | ⟨hk, hl⟩
  · have g1 : (60 : Int) < M := by omega
    go_enter Tryd.func3, Tryd.ntmps3
    go_wp2_with (fail)
    refine (first17_any A w HS.out).mono ?_
    rintro e w1 ⟨rfl, hb1⟩
    go_wp2
    go_ret
    exact ⟨rfl, hb1⟩
  · have g1 : (M : Int) ≤ 60 := by omega
    have g2 : (20 : Int) < N := by omega
    go_enter Tryd.func3, Tryd.ntmps3
    go_wp2_with (fail)
    refine (first17_any A w HS.out).mono ?_
    rintro e w1 ⟨rfl, hb1⟩
    go_wp2
    go_ret
    exact ⟨rfl, hb1⟩
end Go.Proofs.YtlindkhmjkionaaDoor
