/- Store of package mem. -/
import Derived.Test.YtjdiepklgcdamaaDoorMemE
namespace Go.Proofs.YtjdiepklgcdamaaDoor
open Go.ChangeShapes Go.WideShapes Go.ChangeAt Go.RowKit
set_option linter.unusedVariables false
set_option linter.unusedSimpArgs false

theorem lineOf_g (A i : Nat) (w : World) (hA : A < 4294967296) (hi : A / 16 = i) : Calls Tryd.prog 30 #[.int .u32 (A : Int)] w fun e w' => e = .returned (.int .i64 (i : Int)) ∧ w = w' := by
  subst hi
  exact lineOf_any A w hA

set_option maxHeartbeats 3200000 in
theorem store_i (b c n cap : Nat) (f : Nat → Int) (A i : Nat) (s v : Int) (w : World) (hA : A < 4294967296) (hAi : A / 16 = i) (h : MAt b c n cap f w) (hh : W.has n A s = true) (hi : i < n) : Calls Tryd.prog 14 #[.pointer (some ⟨b, 0, none⟩), .int .u32 (A : Int), .int .i64 s, .int .u32 v] w fun e w' => e = .returned (.bool true) ∧ MAt b c n cap (fun k => if k / 4 = i then W.wl (fun j => f (i * 4 + j)) A s v (k % 4) else f k) w' ∧ w.grownBy w' (some c) := by
  have n2 := h.n2
  have hd := h.head
  obtain ⟨l0, l1, l2, l3⟩ := h.line i hi
  have lz := h.frz
  have g := h.lt
  have o1 : (i * 4 + 1 = i * 4) = False := by simp
  have o2 : (i * 4 + 2 = i * 4) = False := by simp
  have o3 : (i * 4 + 3 = i * 4) = False := by simp
  have o4 : (i * 4 + 2 = i * 4 + 1) = False := by simp
  have o5 : (i * 4 + 3 = i * 4 + 1) = False := by simp
  have o6 : (i * 4 + 3 = i * 4 + 2) = False := by simp
  have hL := wl_rg (L := fun j => f (i * 4 + j)) (fun j => h.rg _) A s v
  go_enter Tryd.func14, Tryd.ntmps14
  go_wp2_with (first
    | (go_at_call 22; refine (has_any _ _ _ _ _ _ _ _ hA h).mono ?_; rw [hh]; rintro e w' ⟨rfl, rfl⟩)
    | (go_at_call 30; refine (lineOf_g _ i _ hA hAi).mono ?_; rintro e w' ⟨rfl, rfl⟩)
    | fail)
  go_region_with (go_at_call 27; refine (with_any (fun j => f (i * 4 + j)) _ _ _ _ hA).mono ?_; unfold lineV; rintro e w3 ⟨rfl, b3⟩; replace b3 : Below w.heap.size w w3 := (Below.refl w.heap.size w).drew.trans b3; have h3 := h.below b3; clear hd l0 l1 l2 l3 lz; have hd := h3.head; obtain ⟨l0, l1, l2, l3⟩ := h3.line i hi; have lz := h3.frz; have g3 := h3.lt)
  all_goals
    go_wp2
    go_ret
    exact ⟨rfl, h3.set4 i _ hL hi, gtrans (gbelow b3) (gtrans (gtrans (gtrans (gset _ _ _ _) (gset _ _ _ _)) (gset _ _ _ _)) (gset _ _ _ _))⟩

theorem store_yes (b c n cap : Nat) (f : Nat → Int) (A : Nat) (s v : Int) (w : World) (hA : A < 4294967296) (h : MAt b c n cap f w) (hh : W.has n A s = true) : Calls Tryd.prog 14 #[.pointer (some ⟨b, 0, none⟩), .int .u32 (A : Int), .int .i64 s, .int .u32 v] w fun e w' => e = .returned (.bool true) ∧ MAt b c n cap (W.put f A s v) w' ∧ w.grownBy w' (some c) := by
  obtain ⟨ha, hl⟩ := has_al hh
  refine (store_i b c n cap f A (A / 16) s v w hA rfl h hh (by omega)).mono fun e w' ⟨a1, a2, a3⟩ => ⟨a1, a2.congr ?_ (put_rg h.rg A s v), a3⟩
  intro j hj
  unfold W.put W.wl
  simp only [ha, cond_true]
  by_cases e : j / 4 = A / 16
  · rw [if_pos e, show A / 16 * 4 + j % 4 = j by omega]
    by_cases e2 : j = A / 4
    · rw [if_pos e2, if_pos (by omega)]
    · rw [if_neg e2, if_neg (by omega)]
  · rw [if_neg e, if_neg (by omega)]

/-- What Store leaves. -/
def W.stored (n : Nat) (f : Nat → Int) (A : Nat) (s v : Int) : Nat → Int := bif W.has n A s then W.put f A s v else f
theorem store_any (b c n cap : Nat) (f : Nat → Int) (A : Nat) (s v : Int) (w : World) (hA : A < 4294967296) (h : MAt b c n cap f w) : Calls Tryd.prog 14 #[.pointer (some ⟨b, 0, none⟩), .int .u32 (A : Int), .int .i64 s, .int .u32 v] w fun e w' => e = .returned (.bool (W.has n A s)) ∧ MAt b c n cap (W.stored n f A s v) w' ∧ w.grownBy w' (some c) := by
  cases hh : W.has n A s
  · refine (store_no b c n cap f A s v w hA h hh).mono fun e w' ⟨a1, a2⟩ => ⟨a1, ?_, ?_⟩
    · rw [← a2, W.stored, hh]; exact h
    · rw [← a2]; exact gbelow (Below.refl _ _)
  · refine (store_yes b c n cap f A s v w hA h hh).mono fun e w' ⟨a1, a2, a3⟩ => ⟨a1, ?_, a3⟩
    rw [W.stored, hh]; exact a2

/-- What SetLine leaves. -/
def W.lined (n : Nat) (f : Nat → Int) (i : Int) (L : Nat → Int) : Nat → Int := if 0 ≤ i ∧ i < n then (fun k => if ((k / 4 : Nat) : Int) = i then L (k % 4) else f k) else f
theorem setLine_any (b c n cap : Nat) (f : Nat → Int) (i : Int) (L : Nat → Int) (hL : ∀ k, 0 ≤ L k ∧ L k < 4294967296) (w : World) (h : MAt b c n cap f w) : Calls Tryd.prog 16 #[.pointer (some ⟨b, 0, none⟩), .int .i64 i, lineV L] w fun e w' => e = .returned (.bool (decide (0 ≤ i ∧ i < n))) ∧ MAt b c n cap (W.lined n f i L) w' ∧ w.grownBy w' (some c) := by
  by_cases hi : 0 ≤ i ∧ i < n
  · obtain ⟨k, rfl⟩ := Int.eq_ofNat_of_zero_le hi.1
    refine (setLine_yes b c n cap f k L hL w h (by omega)).mono fun e w' ⟨a1, a2, a3⟩ => ⟨by rw [a1, decide_eq_true hi], ?_, a3⟩
    have e : W.lined n f k L = (fun j => if j / 4 = k then L (j % 4) else f j) := by
      rw [W.lined, if_pos hi]
      funext j
      by_cases e : j / 4 = k
      · rw [if_pos e, if_pos (by omega)]
      · rw [if_neg e, if_neg (by omega)]
    rw [e]; exact a2
  · refine (setLine_no b c n cap f i L w h hi).mono fun e w' ⟨a1, a2⟩ => ⟨by rw [a1, decide_eq_false hi], ?_, gbelow a2⟩
    rw [W.lined, if_neg hi]; exact h.below a2
def W.lineOf (n : Nat) (f : Nat → Int) (i : Int) : Nat → Int := if 0 ≤ i ∧ i < n then (fun j => f (i.toNat * 4 + j)) else fun _ => 0
theorem line_any (b c n cap : Nat) (f : Nat → Int) (i : Int) (w : World) (h : MAt b c n cap f w) : Calls Tryd.prog 20 #[.pointer (some ⟨b, 0, none⟩), .int .i64 i] w fun e w' => e = .returned (.tuple #[lineV (W.lineOf n f i), .bool (decide (0 ≤ i ∧ i < n))]) ∧ Below w.heap.size w w' := by
  by_cases hi : 0 ≤ i ∧ i < n
  · obtain ⟨k, rfl⟩ := Int.eq_ofNat_of_zero_le hi.1
    refine (line_in b c n cap f k w h (by omega)).mono fun e w' ⟨a1, a2⟩ => ⟨by rw [a1, decide_eq_true hi, W.lineOf, if_pos hi]; rfl, a2⟩
  · refine (line_out b c n cap f i w h hi).mono fun e w' ⟨a1, a2⟩ => ⟨by rw [a1, decide_eq_false hi, W.lineOf, if_neg hi], a2⟩
end Go.Proofs.YtjdiepklgcdamaaDoor
