/- Load, Store, SetLine of package mem. -/
import Derived.Test.YtjdiepklgcdamaaDoorMemD
namespace Go.Proofs.YtjdiepklgcdamaaDoor
open Go.ChangeShapes Go.WideShapes Go.ChangeAt Go.RowKit
set_option linter.unusedVariables false
set_option linter.unusedSimpArgs false

def W.loadV (n : Nat) (f : Nat → Int) (A : Nat) (s : Int) : Int := bif W.has n A s then W.pt (f (A / 4)) A s else 0
def W.put (f : Nat → Int) (A : Nat) (s v : Int) : Nat → Int := fun j => if j = A / 4 then W.wr (f j) A s v else f j
theorem has_al {n A : Nat} {s : Int} (h : W.has n A s = true) : W.al A s = true ∧ A < 16 * n := by simpa [W.has] using h
theorem put_rg {f : Nat → Int} (hr : ∀ j, 0 ≤ f j ∧ f j < 4294967296) (A : Nat) (s v : Int) (j : Nat) : 0 ≤ W.put f A s v j ∧ W.put f A s v j < 4294967296 := by
  unfold W.put
  split
  · exact W.wr_lt _ _ _ _
  · exact hr j

theorem load_no (b c n cap : Nat) (f : Nat → Int) (A : Nat) (s : Int) (w : World) (hA : A < 4294967296) (h : MAt b c n cap f w) (hh : W.has n A s = false) : Calls Tryd.prog 18 #[.pointer (some ⟨b, 0, none⟩), .int .u32 (A : Int), .int .i64 s] w fun e w' => e = .returned (.tuple #[.int .u32 0, .bool false]) ∧ w = w' := by
  go_enter Tryd.func18, Tryd.ntmps18
  go_wp2_with (go_at_call 22; refine (has_any _ _ _ _ _ _ _ _ hA h).mono ?_; rw [hh]; rintro e w' ⟨rfl, rfl⟩)
  exact bodyPost_ret (v := .tuple #[.int .u32 0, .bool false]) (by simp [results, Tryd.results18, go_sem]) rfl ⟨rfl, rfl⟩

set_option maxHeartbeats 1600000 in
theorem load_yes (b c n cap : Nat) (f : Nat → Int) (A : Nat) (s : Int) (w : World) (hA : A < 4294967296) (h : MAt b c n cap f w) (hh : W.has n A s = true) : Calls Tryd.prog 18 #[.pointer (some ⟨b, 0, none⟩), .int .u32 (A : Int), .int .i64 s] w fun e w' => e = .returned (.tuple #[.int .u32 (W.pt (f (A / 4)) A s), .bool true]) ∧ Below w.heap.size w w' := by
  obtain ⟨ha, hl⟩ := has_al hh
  have n2 := h.n2
  have hr : Hid (W.part (fun j => f (A / 16 * 4 + j)) A s = W.pt (f (A / 4)) A s) := by
    have : W.part (fun j => f (A / 16 * 4 + j)) A s = W.pt (f (A / 4)) A s := by
      simp only [W.part, ha, cond_true]
      rw [show A / 16 * 4 + A % 16 / 4 = A / 4 by omega]
    exact this
  have hi : A / 16 < n := by omega
  have hd := h.head
  obtain ⟨l0, l1, l2, l3⟩ := h.line (A / 16) hi
  have g := h.lt
  go_enter Tryd.func18, Tryd.ntmps18
  go_wp2_with (go_at_call 22; refine (has_any _ _ _ _ _ _ _ _ hA h).mono ?_; rw [hh]; rintro e w' ⟨rfl, rfl⟩)
  go_region_with (first
    | (go_at_call 30; refine (lineOf_any _ _ hA).mono ?_; rintro e w' ⟨rfl, rfl⟩)
    | (go_at_call 26; refine (part_any (fun j => f (A / 16 * 4 + j)) _ _ _ hA).mono ?_; rw [hr.out]; rintro e w3 ⟨rfl, b3⟩))
  all_goals
    go_wp2
    exact bodyPost_ret (v := .tuple #[.int .u32 (W.pt (f (A / 4)) A s), .bool true]) (by simp [results, Tryd.results18, go_sem]) rfl ⟨rfl, (Below.refl _ _).drew.trans b3⟩

theorem load_any (b c n cap : Nat) (f : Nat → Int) (A : Nat) (s : Int) (w : World) (hA : A < 4294967296) (h : MAt b c n cap f w) : Calls Tryd.prog 18 #[.pointer (some ⟨b, 0, none⟩), .int .u32 (A : Int), .int .i64 s] w fun e w' => e = .returned (.tuple #[.int .u32 (W.loadV n f A s), .bool (W.has n A s)]) ∧ Below w.heap.size w w' := by
  cases hh : W.has n A s
  · refine (load_no b c n cap f A s w hA h hh).mono fun e w' ⟨a, d⟩ => ⟨by rw [a, W.loadV, hh]; rfl, d ▸ Below.refl _ _⟩
  · refine (load_yes b c n cap f A s w hA h hh).mono fun e w' ⟨a, d⟩ => ⟨by rw [a, W.loadV, hh]; rfl, d⟩

theorem MAt.set1 {b c n cap : Nat} {f : Nat → Int} {w : World} (h : MAt b c n cap f w) (j : Nat) (x : Int) (x0 : 0 ≤ x) (x1 : x < 4294967296) (hj : j < n * 4) : MAt b c n cap (fun k => if k = j then x else f k) (w.setCell ⟨c, j, none⟩ (.int .u32 x)) := by
  obtain ⟨cs, h1, h2, h3⟩ := h.row
  refine ⟨(Below.heap_setCell w ⟨c, j, none⟩ _ b h.ne).trans h.hd, ⟨cs.setIfInBounds j (.int .u32 x), ?_, by simpa using h2, ?_⟩, h.ne, h.n1, h.n2, ?_⟩
  · simp only [World.setCell, Array.getElem?_modify, if_true, h1, Option.map_some]
    rfl
  · intro k hk
    by_cases e : k = j
    · subst e
      rw [if_pos rfl, Array.getElem?_setIfInBounds_self_of_lt (by omega)]
    · rw [if_neg e, Array.getElem?_setIfInBounds_ne (by omega)]
      exact h3 k hk
  · intro k
    split
    · exact ⟨x0, x1⟩
    · exact h.rg k
theorem MAt.set4 {b c n cap : Nat} {f : Nat → Int} {w : World} (h : MAt b c n cap f w) (i : Nat) (L : Nat → Int) (hL : ∀ k, 0 ≤ L k ∧ L k < 4294967296) (hi : i < n) :
    MAt b c n cap (fun k => if k / 4 = i then L (k % 4) else f k) ((((w.setCell ⟨c, i * 4, none⟩ (.int .u32 (L 0))).setCell ⟨c, i * 4 + 1, none⟩ (.int .u32 (L 1))).setCell ⟨c, i * 4 + 2, none⟩ (.int .u32 (L 2))).setCell ⟨c, i * 4 + 3, none⟩ (.int .u32 (L 3))) := by
  refine ((((h.set1 (i * 4) (L 0) (hL 0).1 (hL 0).2 (by omega)).set1 (i * 4 + 1) (L 1) (hL 1).1 (hL 1).2 (by omega)).set1 (i * 4 + 2) (L 2) (hL 2).1 (hL 2).2 (by omega)).set1 (i * 4 + 3) (L 3) (hL 3).1 (hL 3).2 (by omega)).congr ?_ ?_
  · intro k hk
    by_cases e : k / 4 = i
    · rw [if_pos e]
      have : k % 4 = 0 ∨ k % 4 = 1 ∨ k % 4 = 2 ∨ k % 4 = 3 := by omega
      rcases this with g | g | g | g <;> rw [g]
      · rw [if_neg (by omega), if_neg (by omega), if_neg (by omega), if_pos (by omega)]
      · rw [if_neg (by omega), if_neg (by omega), if_pos (by omega)]
      · rw [if_neg (by omega), if_pos (by omega)]
      · rw [if_pos (by omega)]
    · rw [if_neg e, if_neg (by omega), if_neg (by omega), if_neg (by omega), if_neg (by omega)]
  · intro k
    split
    · exact hL _
    · exact h.rg k

theorem MAt.drew {b c n cap : Nat} {f : Nat → Int} {w : World} (h : MAt b c n cap f w) : MAt b c n cap f w.drew := h.below (Below.refl _ _).drew
theorem gdrew (w : World) (r : Option Nat) : w.grownBy w.drew r := gbelow (Below.refl _ _).drew

theorem store_no (b c n cap : Nat) (f : Nat → Int) (A : Nat) (s v : Int) (w : World) (hA : A < 4294967296) (h : MAt b c n cap f w) (hh : W.has n A s = false) : Calls Tryd.prog 14 #[.pointer (some ⟨b, 0, none⟩), .int .u32 (A : Int), .int .i64 s, .int .u32 v] w fun e w' => e = .returned (.bool false) ∧ w = w' := by
  go_enter Tryd.func14, Tryd.ntmps14
  go_wp2_with (go_at_call 22; refine (has_any _ _ _ _ _ _ _ _ hA h).mono ?_; rw [hh]; rintro e w' ⟨rfl, rfl⟩)
  go_ret
  exact ⟨rfl, rfl⟩

theorem wl_rg {L : Nat → Int} (hr : ∀ j, 0 ≤ L j ∧ L j < 4294967296) (A : Nat) (s v : Int) (j : Nat) : 0 ≤ W.wl L A s v j ∧ W.wl L A s v j < 4294967296 := by
  unfold W.wl
  cases W.al A s
  · exact hr j
  · simp only [cond_true]
    split
    · exact W.wr_lt _ _ _ _
    · exact hr j

theorem setLine_no (b c n cap : Nat) (f : Nat → Int) (i : Int) (L : Nat → Int) (w : World) (h : MAt b c n cap f w) (hi : ¬ (0 ≤ i ∧ i < n)) : Calls Tryd.prog 16 #[.pointer (some ⟨b, 0, none⟩), .int .i64 i, lineV L] w fun e w' => e = .returned (.bool false) ∧ Below w.heap.size w w' := by
  have e0 : decide (0 ≤ i ∧ i < n) = false := by simpa using hi
  have h1 := h.below ((Below.refl _ _).alloc (Nat.le_refl _) (.cells #[.int .u32 (L 0), .int .u32 (L 1), .int .u32 (L 2), .int .u32 (L 3)] 38))
  unfold lineV
  go_enter Tryd.func16, Tryd.ntmps16
  go_wp2_with (go_at_call 35; refine (hasLine_any _ _ _ _ _ _ _ h1).mono ?_; rw [e0]; rintro e w' ⟨rfl, rfl⟩)
  go_ret
  exact ⟨rfl, (Below.refl _ _).alloc (Nat.le_refl _) _⟩

set_option maxHeartbeats 3200000 in
theorem setLine_yes (b c n cap : Nat) (f : Nat → Int) (i : Nat) (L : Nat → Int) (hL : ∀ k, 0 ≤ L k ∧ L k < 4294967296) (w : World) (h : MAt b c n cap f w) (hi : i < n) : Calls Tryd.prog 16 #[.pointer (some ⟨b, 0, none⟩), .int .i64 (i : Int), lineV L] w fun e w' => e = .returned (.bool true) ∧ MAt b c n cap (fun k => if k / 4 = i then L (k % 4) else f k) w' ∧ w.grownBy w' (some c) := by
  have n2 := h.n2
  have e0 : decide (0 ≤ (i : Int) ∧ (i : Int) < n) = true := by simp; omega
  have b1 := (Below.refl w.heap.size w).alloc (Nat.le_refl _) (.cells #[.int .u32 (L 0), .int .u32 (L 1), .int .u32 (L 2), .int .u32 (L 3)] 38)
  have q := Ln.new L w
  have h1 := h.below b1
  unfold lineV
  go_enter Tryd.func16, Tryd.ntmps16
  go_wp2_with (go_at_call 35; refine (hasLine_any _ _ _ _ _ _ _ h1).mono ?_; rw [e0]; rintro e w' ⟨rfl, rfl⟩)
  generalize hW : World.alloc w _ = W1 at *
  obtain ⟨c0, c1, c2, c3, cz⟩ := q.cells
  have hd := h1.head
  obtain ⟨l0, l1, l2, l3⟩ := h1.line i hi
  have lz := h1.frz
  have g := h1.lt
  have o1 : (i * 4 + 1 = i * 4) = False := by simp
  have o2 : (i * 4 + 2 = i * 4) = False := by simp
  have o3 : (i * 4 + 3 = i * 4) = False := by simp
  have o4 : (i * 4 + 2 = i * 4 + 1) = False := by simp
  have o5 : (i * 4 + 3 = i * 4 + 1) = False := by simp
  have o6 : (i * 4 + 3 = i * 4 + 2) = False := by simp
  go_region
  all_goals
    go_wp2
    go_ret
    exact ⟨rfl, (h1.set4 i L hL hi).drew, gtrans (gbelow b1) (gtrans (gtrans (gtrans (gtrans (gset _ _ _ _) (gset _ _ _ _)) (gset _ _ _ _)) (gset _ _ _ _)) (gdrew _ _))⟩
end Go.Proofs.YtjdiepklgcdamaaDoor
