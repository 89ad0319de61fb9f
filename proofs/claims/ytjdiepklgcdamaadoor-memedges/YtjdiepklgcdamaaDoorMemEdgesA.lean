/- MemEdges, walked. -/
import Derived.Test.YtjdiepklgcdamaaDoorMemR
namespace Go.Proofs.YtjdiepklgcdamaaDoor
open Go.ChangeShapes Go.WideShapes Go.ChangeAt Go.RowKit
set_option linter.unusedVariables false
set_option linter.unusedSimpArgs false

theorem sent_below {A : Nat → Addr} {a b : World} {B : Nat} (h : Sent A a) (hm : Below a.heap.size a b) : Sent A b := h.below hm

theorem memEdges_bad (A : Nat → Addr) (bytes : Int) (r : Nat) (hr : (wrap64 (bytes.tmod 128 + 128)).tmod 128 = r) (hr2 : r < 128) (hg : r = 0 ∨ ¬ r % 16 = 0) (w : World) (hS : Sent A w) : Calls Tryd.prog 7 #[.int .i64 bytes] w fun e w' => e = .returned (.bool true) ∧ Below w.heap.size w w' := by
  have HS : Hid (Sent A w) := hS
  have hn : (num 1 == 106) = true := by kernel_rfl
  clear hS
  by_cases h0 : r = 0
  · subst h0
    go_enter Tryd.func7, Tryd.ntmps7
    go_wp2_with (first
      | (go_at_call 8; refine (first7_any _).mono ?_; rintro e w1 ⟨rfl, hw1⟩)
      | (go_at_call 9; refine (new_range A _ _ _ _ _ (HS.out.below hw1) (by omega)).mono ?_; rintro e w2 ⟨rfl, hw2⟩; have hw3 := hw1.trans (hw2.mono hw1.size); generalize hev : errV A 1 = v1)
      | (go_at_call 11; rw [← hev]; refine (is_any A 1 (by decide) 106 _ (HS.out.below hw3)).mono ?_; rw [hn]; rintro e w4 ⟨rfl, hw4⟩))
    go_ret
    exact ⟨rfl, hw3.trans (hw4.mono hw3.size)⟩
  · have h1 : ¬ r % 16 = 0 := by omega
    have h2 : ¬ (r : Int) % 16 = 0 := by omega
    have h3 : ((r : Int) % 16 == 0) = false := by simpa using h2
    have h4 : (0 : Int) < r := by omega
    clear hg h0 h1
    go_enter Tryd.func7, Tryd.ntmps7
    go_wp2_with (first
      | (go_at_call 8; refine (first7_any _).mono ?_; rintro e w1 ⟨rfl, hw1⟩)
      | (go_at_call 9; refine (new_range A _ _ _ _ _ (HS.out.below hw1) (Or.inr (Or.inr h2))).mono ?_; rintro e w2 ⟨rfl, hw2⟩; have hw3 := hw1.trans (hw2.mono hw1.size); generalize hev : errV A 1 = v1)
      | (go_at_call 11; rw [← hev]; refine (is_any A 1 (by decide) 106 _ (HS.out.below hw3)).mono ?_; rw [hn]; rintro e w4 ⟨rfl, hw4⟩))
    go_ret
    exact ⟨rfl, hw3.trans (hw4.mono hw3.size)⟩
end Go.Proofs.YtjdiepklgcdamaaDoor
