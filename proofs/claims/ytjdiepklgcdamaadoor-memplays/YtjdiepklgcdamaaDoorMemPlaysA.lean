/- MemPlays, walked: where it ends at once. -/
import Derived.Test.YtjdiepklgcdamaaDoorMemY
namespace Go.Proofs.YtjdiepklgcdamaaDoor
open Go.ChangeShapes Go.WideShapes Go.ChangeAt Go.RowKit
set_option linter.unusedVariables false
set_option linter.unusedSimpArgs false

set_option maxRecDepth 100000 in
set_option maxHeartbeats 1600000 in
theorem memPlays_long (bytes addr size line : Int) (a : Option Addr) (k cap : Nat) (a2 : Option Addr) (k2 cap2 : Nat) (w : World) (h : 2000 < k ∨ 60 < k2) (hm : k ≤ maxLen) (hm2 : k2 ≤ maxLen) : Calls Tryd.prog 3 #[.int .i64 bytes, .slice a k cap, .slice a2 k2 cap2, .int .u32 addr, .int .i64 size, .int .i64 line] w fun e w' => e = .returned (.bool true) ∧ Below w.heap.size w w' := by
  unfold maxLen at hm hm2
  by_cases h1 : 2000 < k
  · clear h
    go_enter Tryd.func3, Tryd.ntmps3
    go_wp2_with (go_at_call 8; refine (first7_any _).mono ?_; rintro e w1 ⟨rfl, hw1⟩)
    go_ret
    exact ⟨rfl, hw1⟩
  · have h2 : 60 < k2 := by omega
    clear h
    go_enter Tryd.func3, Tryd.ntmps3
    go_wp2_with (go_at_call 8; refine (first7_any _).mono ?_; rintro e w1 ⟨rfl, hw1⟩)
    go_ret
    exact ⟨rfl, hw1⟩

set_option maxRecDepth 100000 in
set_option maxHeartbeats 1600000 in
theorem memPlays_range (A : Nat → Addr) (bytes addr size line : Int) (a : Option Addr) (k cap : Nat) (a2 : Option Addr) (k2 cap2 : Nat) (w : World) (hS : Sent A w) (hk : k ≤ 2000) (hk2 : k2 ≤ 60) (h : bytes < 16 ∨ 65536 < bytes ∨ ¬ bytes % 16 = 0) : Calls Tryd.prog 3 #[.int .i64 bytes, .slice a k cap, .slice a2 k2 cap2, .int .u32 addr, .int .i64 size, .int .i64 line] w fun e w' => e = .returned (.bool true) ∧ Below w.heap.size w w' := by
  have HS : Hid (Sent A w) := hS
  have hn : (num 1 == 106) = true := by kernel_rfl
  have hb : Hid (bytes < 16 ∨ 65536 < bytes ∨ ¬ bytes % 16 = 0) := h
  clear hS h
  go_enter Tryd.func3, Tryd.ntmps3
  go_wp2_with (first
    | (go_at_call 8; refine (first7_any _).mono ?_; rintro e w1 ⟨rfl, hw1⟩)
    | (go_at_call 9; refine (new_range A _ _ _ _ _ (HS.out.below hw1) hb.out).mono ?_; rintro e w2 ⟨rfl, hw2⟩; have hw3 := hw1.trans (hw2.mono hw1.size); generalize hev : errV A 1 = v1)
    | (go_at_call 10; refine (rnew_range _ _ _ _ _ hb.out).mono ?_; rintro e w' ⟨rfl, rfl⟩)
    | (go_at_call 11; rw [← hev]; refine (is_any A 1 (by decide) 106 _ (HS.out.below hw3)).mono ?_; rw [hn]; rintro e w4 ⟨rfl, hw4⟩))
  go_ret
  exact ⟨rfl, hw3.trans (hw4.mono hw3.size)⟩

set_option maxRecDepth 100000 in
set_option maxHeartbeats 1600000 in
theorem memPlays_many (A : Nat → Addr) (n : Nat) (bytes addr size line : Int) (a : Option Addr) (k cap : Nat) (a2 : Option Addr) (k2 cap2 : Nat) (w : World) (hS : Sent A w) (hk : k ≤ 2000) (hk2 : k2 ≤ 60) (hb : bytes = 16 * n) (n1 : 1 ≤ n) (n2 : n ≤ 4096) (hkn : 4 * n < k) : Calls Tryd.prog 3 #[.int .i64 bytes, .slice a k cap, .slice a2 k2 cap2, .int .u32 addr, .int .i64 size, .int .i64 line] w fun e w' => e = .returned (.bool true) ∧ Below w.heap.size w w' := by
  have HS : Hid (Sent A w) := hS
  have hn : (num 2 == 101) = true := by kernel_rfl
  have Hb : Hid (bytes = 16 * n) := hb
  clear hS hb
  go_enter Tryd.func3, Tryd.ntmps3
  go_wp2_with (first
    | (go_at_call 8; refine (first7_any _).mono ?_; rintro e w1 ⟨rfl, hw1⟩)
    | (go_at_call 9; refine (new_many A n _ _ _ _ _ (HS.out.below hw1) Hb.out n1 n2 hkn hk).mono ?_; rintro e w2 ⟨rfl, hw2⟩; have hw3 := hw1.trans (hw2.mono hw1.size); generalize hev : errV A 2 = v1)
    | (go_at_call 10; refine (rnew_many n _ _ _ _ _ Hb.out n1 n2 hkn hk).mono ?_; rintro e w' ⟨rfl, rfl⟩)
    | (go_at_call 11; rw [← hev]; refine (is_any A 2 (by decide) 101 _ (HS.out.below hw3)).mono ?_; rw [hn]; rintro e w4 ⟨rfl, hw4⟩))
  go_ret
  exact ⟨rfl, hw3.trans (hw4.mono hw3.size)⟩
end Go.Proofs.YtjdiepklgcdamaaDoor
