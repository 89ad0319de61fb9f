/- Line and SetLine of the document's memory. -/
import Derived.Test.YtjdiepklgcdamaaDoorMemU
namespace Go.Proofs.YtjdiepklgcdamaaDoor
open Go.ChangeShapes Go.WideShapes Go.ChangeAt Go.RowKit
set_option linter.unusedVariables false
set_option linter.unusedSimpArgs false

theorem pt_word (x : Int) (A : Nat) (x0 : 0 ≤ x) (x1 : x < 4294967296) (h : A % 4 = 0) : W.pt x A 4 = x := by
  rw [W.pt_eq x A 4 x0 x1 (W.al_4 _ h), (cc_at A).1 h, show W.dd 4 = 4294967296 from rfl]; omega
theorem wr_word (x v : Int) (A : Nat) (x0 : 0 ≤ x) (x1 : x < 4294967296) (v0 : 0 ≤ v) (v1 : v < 4294967296) (h : A % 4 = 0) : W.wr x A 4 v = v := by
  rw [W.wr_eq x A 4 v x0 x1 v0 v1 (W.al_4 _ h), (cc_at A).1 h, show W.dd 4 = 4294967296 from rfl]; omega
theorem load_word (n i k : Nat) (f : Nat → Int) (hr : ∀ j, 0 ≤ f j ∧ f j < 4294967296) (hi : i < n) (hk : k < 4) : W.loadV n f (i * 16 + 4 * k) 4 = f (i * 4 + k) := by
  unfold W.loadV
  rw [W.has_in n _ 4 (W.al_4 _ (by omega)) (by omega), cond_true, pt_word _ _ (hr _).1 (hr _).2 (by omega), show (i * 16 + 4 * k) / 4 = i * 4 + k by omega]
theorem store_word (n i k : Nat) (f : Nat → Int) (v : Int) (hr : ∀ j, 0 ≤ f j ∧ f j < 4294967296) (v0 : 0 ≤ v) (v1 : v < 4294967296) (hi : i < n) (hk : k < 4) : W.stored n f (i * 16 + 4 * k) 4 v = fun j => if j = i * 4 + k then v else f j := by
  unfold W.stored
  rw [W.has_in n _ 4 (W.al_4 _ (by omega)) (by omega), cond_true]
  funext j
  unfold W.put
  rw [show (i * 16 + 4 * k) / 4 = i * 4 + k by omega]
  by_cases e : j = i * 4 + k
  · rw [if_pos e, if_pos e, wr_word _ _ _ (hr _).1 (hr _).2 v0 v1 (by omega)]
  · rw [if_neg e, if_neg e]
theorem rload_l {b c n : Nat} {f : Nat → Int} {w : World} (h : RAt b c n f w) (a : Int) (A : Nat) (s V : Int) (B : Bool) (ha : (A : Int) = a) (hA : A < 4294967296) (hV : W.loadV n f A s = V) (hB : W.has n A s = B) : Calls Tryd.prog 19 #[.pointer (some ⟨b, 0, none⟩), .int .u32 a, .int .i64 s] w fun e w' => e = .returned (.tuple #[.int .u32 V, .bool B]) ∧ w = w' := by
  subst ha hV hB
  exact rload_any b c n f A s w hA h
theorem rstore_l {b c n : Nat} {f : Nat → Int} {w : World} (h : RAt b c n f w) (a : Int) (A : Nat) (s v : Int) (B : Bool) (v0 : 0 ≤ v) (v1 : v < 4294967296) (ha : (A : Int) = a) (hA : A < 4294967296) (hB : W.has n A s = B) : Calls Tryd.prog 15 #[.pointer (some ⟨b, 0, none⟩), .int .u32 a, .int .i64 s, .int .u32 v] w fun e w' => e = .returned (.bool B) ∧ RAt b c n (W.stored n f A s v) w' ∧ w.grownBy w' (some c) := by
  subst ha hB
  exact rstore_any b c n f A s v v0 v1 w hA h
/-- The first k words of a line. -/
def W.wcut (k : Nat) (f : Nat → Int) (i : Nat) : Nat → Int := fun j => if j < k then f (i * 4 + j) else 0
theorem Ln.put0 {b : Nat} {f : Nat → Int} {i : Nat} {w : World} (h : Ln b (W.wcut 0 f i) w) : Ln b (W.wcut 1 f i) (w.setCell ⟨b, 0, none⟩ (.int .u32 (f (i * 4 + 0)))) := by
  refine ⟨?_⟩
  have e := h.out
  simp only [World.setCell, Array.getElem?_modify, if_true, e, Option.map_some]
  simp [W.wcut]
theorem Ln.put1 {b : Nat} {f : Nat → Int} {i : Nat} {w : World} (h : Ln b (W.wcut 1 f i) w) : Ln b (W.wcut 2 f i) (w.setCell ⟨b, 1, none⟩ (.int .u32 (f (i * 4 + 1)))) := by
  refine ⟨?_⟩
  have e := h.out
  simp only [World.setCell, Array.getElem?_modify, if_true, e, Option.map_some]
  simp [W.wcut]
theorem Ln.put2 {b : Nat} {f : Nat → Int} {i : Nat} {w : World} (h : Ln b (W.wcut 2 f i) w) : Ln b (W.wcut 3 f i) (w.setCell ⟨b, 2, none⟩ (.int .u32 (f (i * 4 + 2)))) := by
  refine ⟨?_⟩
  have e := h.out
  simp only [World.setCell, Array.getElem?_modify, if_true, e, Option.map_some]
  simp [W.wcut]
theorem Ln.put3 {b : Nat} {f : Nat → Int} {i : Nat} {w : World} (h : Ln b (W.wcut 3 f i) w) : Ln b (W.wcut 4 f i) (w.setCell ⟨b, 3, none⟩ (.int .u32 (f (i * 4 + 3)))) := by
  refine ⟨?_⟩
  have e := h.out
  simp only [World.setCell, Array.getElem?_modify, if_true, e, Option.map_some]
  simp [W.wcut]

theorem rline_out (b c n : Nat) (f : Nat → Int) (i : Int) (w : World) (h : RAt b c n f w) (hi : ¬ (0 ≤ i ∧ i < n)) : Calls Tryd.prog 21 #[.pointer (some ⟨b, 0, none⟩), .int .i64 i] w fun e w' => e = .returned (.tuple #[lineV (fun _ => 0), .bool false]) ∧ Below w.heap.size w w' := by
  have n2 := h.n2
  have h2 := (h.below ((Below.refl _ _).alloc (Nat.le_refl _) (.cells #[.int .u32 0, .int .u32 0, .int .u32 0, .int .u32 0] 38)))
  have h3 := (h2.below ((Below.refl _ _).alloc (Nat.le_refl _) (.cells #[.int .u32 0, .int .u32 0, .int .u32 0, .int .u32 0] 38)))
  have hd := h3.head
  obtain ⟨m, hm⟩ : ∃ m, 16 * n = m := ⟨_, rfl⟩
  rw [hm] at hd
  have hm2 : (m : Int) / 16 = n := by omega
  by_cases h0 : i < 0
  · go_enter Tryd.func21, Tryd.ntmps21
    go_wp2
    exact bodyPost_ret (v := .tuple #[lineV (fun _ => 0), .bool false]) (by simp [results, Tryd.results21, go_sem, lineV]) rfl ⟨rfl, ((Below.refl _ _).alloc (Nat.le_refl _) _).alloc (by simp) _⟩
  · have h1 : (n : Int) ≤ i := by omega
    go_enter Tryd.func21, Tryd.ntmps21
    go_wp2
    exact bodyPost_ret (v := .tuple #[lineV (fun _ => 0), .bool false]) (by simp [results, Tryd.results21, go_sem, lineV]) rfl ⟨rfl, ((Below.refl _ _).alloc (Nat.le_refl _) _).alloc (by simp) _⟩

set_option maxHeartbeats 1600000 in
theorem rline_in (b c n : Nat) (f : Nat → Int) (i : Nat) (w : World) (h : RAt b c n f w) (hi : i < n) : Calls Tryd.prog 21 #[.pointer (some ⟨b, 0, none⟩), .int .i64 (i : Int)] w fun e w' => e = .returned (.tuple #[lineV (fun j => f (i * 4 + j)), .bool true]) ∧ Below w.heap.size w w' := by
  have n2 := h.n2
  have hrg := h.rg
  have hlt := h.lt
  have h2 := (h.below ((Below.refl _ _).alloc (Nat.le_refl _) (.cells #[.int .u32 0, .int .u32 0, .int .u32 0, .int .u32 0] 38)))
  have h3 := (h2.below ((Below.refl _ _).alloc (Nat.le_refl _) (.cells #[.int .u32 0, .int .u32 0, .int .u32 0, .int .u32 0] 38)))
  have q1 := (Ln.new (fun _ => 0) w).alloc (.cells #[.int .u32 0, .int .u32 0, .int .u32 0, .int .u32 0] 38)
  have q2 := Ln.new (W.wcut 0 f i) (w.alloc (.cells #[.int .u32 0, .int .u32 0, .int .u32 0, .int .u32 0] 38))
  have hB := ((Below.refl w.heap.size w).alloc (Nat.le_refl _) (.cells #[.int .u32 0, .int .u32 0, .int .u32 0, .int .u32 0] 38)).alloc (by simp) (.cells #[.int .u32 0, .int .u32 0, .int .u32 0, .int .u32 0] 38)
  simp only [World.size_alloc, W.wcut, Nat.not_lt_zero, if_false] at q2
  have hd := h3.head
  obtain ⟨m, hm⟩ : ∃ m, 16 * n = m := ⟨_, rfl⟩
  rw [hm] at hd
  have hm2 : (m : Int) / 16 = n := by omega
  have hin : (i : Int) < n := by omega
  have hz1 : decide ((i : Int) < 0) = false := by simp
  have hz2 : decide ((n : Int) ≤ i) = false := by simp; omega
  have hz3 : decide (n ≤ i) = false := by simp; omega
  go_enter Tryd.func21, Tryd.ntmps21
  go_wp2
  generalize World.alloc (World.alloc w _) _ = W1 at *
  have q2' : Ln (w.heap.size + 1) (W.wcut 0 f i) W1 := ⟨by simpa [W.wcut] using q2.out⟩
  go_loopw [7] (fun k wr => (k = .int .i64 0 ∧ RAt b c n f wr ∧ Ln w.heap.size (fun _ => 0) wr ∧ Ln (w.heap.size + 1) (W.wcut 0 f i) wr ∧ Below w.heap.size w wr) ∨ (k = .int .i64 1 ∧ RAt b c n f wr ∧ Ln w.heap.size (fun _ => 0) wr ∧ Ln (w.heap.size + 1) (W.wcut 1 f i) wr ∧ Below w.heap.size w wr) ∨ (k = .int .i64 2 ∧ RAt b c n f wr ∧ Ln w.heap.size (fun _ => 0) wr ∧ Ln (w.heap.size + 1) (W.wcut 2 f i) wr ∧ Below w.heap.size w wr) ∨ (k = .int .i64 3 ∧ RAt b c n f wr ∧ Ln w.heap.size (fun _ => 0) wr ∧ Ln (w.heap.size + 1) (W.wcut 3 f i) wr ∧ Below w.heap.size w wr) ∨ (k = .int .i64 4 ∧ RAt b c n f wr ∧ Ln w.heap.size (fun _ => 0) wr ∧ Ln (w.heap.size + 1) (W.wcut 4 f i) wr ∧ Below w.heap.size w wr)) (fun k _ => 4 - (intOf k).toNat)
  case atStart => exact Or.inl ⟨rfl, h3, q1, q2', hB⟩
  case round =>
    clear hd q1 q2 q2' hB h2 h3
    rcases hrel with ⟨rfl, r1, r2, r3, r4⟩ | ⟨rfl, r1, r2, r3, r4⟩ | ⟨rfl, r1, r2, r3, r4⟩ | ⟨rfl, r1, r2, r3, r4⟩ | ⟨rfl, r1, r2, r3, r4⟩
    · obtain ⟨d0, d1, d2, d3, dz⟩ := r3.cells
      go_wp2_with fail
      refine (rload_l r1 _ (i * 16 + 4 * 0) _ (f (i * 4 + 0)) true (by omega) (by omega) (load_word n i 0 f hrg hi (by decide)) (W.has_in n _ 4 (W.al_4 _ (by omega)) (by omega))).mono ?_
      rintro e w' ⟨rfl, rfl⟩
      go_wp2
      go_roundw
      case rel => exact Or.inr (Or.inl ⟨by go_num, r1.kept (gset _ _ _ _) (by omega) (by omega), r2.kept (gset _ _ _ _) (by omega), r3.put0, r4.setCell (p := ⟨w.heap.size + 1, _, none⟩) (Nat.le_succ _) _⟩)
      case measure => simp [intOf]
    · obtain ⟨d0, d1, d2, d3, dz⟩ := r3.cells
      go_wp2_with fail
      refine (rload_l r1 _ (i * 16 + 4 * 1) _ (f (i * 4 + 1)) true (by omega) (by omega) (load_word n i 1 f hrg hi (by decide)) (W.has_in n _ 4 (W.al_4 _ (by omega)) (by omega))).mono ?_
      rintro e w' ⟨rfl, rfl⟩
      go_wp2
      go_roundw
      case rel => exact Or.inr (Or.inr (Or.inl ⟨by go_num, r1.kept (gset _ _ _ _) (by omega) (by omega), r2.kept (gset _ _ _ _) (by omega), r3.put1, r4.setCell (p := ⟨w.heap.size + 1, _, none⟩) (Nat.le_succ _) _⟩))
      case measure => simp [intOf]
    · obtain ⟨d0, d1, d2, d3, dz⟩ := r3.cells
      go_wp2_with fail
      refine (rload_l r1 _ (i * 16 + 4 * 2) _ (f (i * 4 + 2)) true (by omega) (by omega) (load_word n i 2 f hrg hi (by decide)) (W.has_in n _ 4 (W.al_4 _ (by omega)) (by omega))).mono ?_
      rintro e w' ⟨rfl, rfl⟩
      go_wp2
      go_roundw
      case rel => exact Or.inr (Or.inr (Or.inr (Or.inl ⟨by go_num, r1.kept (gset _ _ _ _) (by omega) (by omega), r2.kept (gset _ _ _ _) (by omega), r3.put2, r4.setCell (p := ⟨w.heap.size + 1, _, none⟩) (Nat.le_succ _) _⟩)))
      case measure => simp [intOf]
    · obtain ⟨d0, d1, d2, d3, dz⟩ := r3.cells
      go_wp2_with fail
      refine (rload_l r1 _ (i * 16 + 4 * 3) _ (f (i * 4 + 3)) true (by omega) (by omega) (load_word n i 3 f hrg hi (by decide)) (W.has_in n _ 4 (W.al_4 _ (by omega)) (by omega))).mono ?_
      rintro e w' ⟨rfl, rfl⟩
      go_wp2
      go_roundw
      case rel => exact Or.inr (Or.inr (Or.inr (Or.inr (⟨by go_num, r1.kept (gset _ _ _ _) (by omega) (by omega), r2.kept (gset _ _ _ _) (by omega), r3.put3, r4.setCell (p := ⟨w.heap.size + 1, _, none⟩) (Nat.le_succ _) _⟩))))
      case measure => simp [intOf]
    · obtain ⟨c0, c1, c2, c3, cz⟩ := r2.cells
      obtain ⟨d0, d1, d2, d3, dz⟩ := r3.cells
      simp only [W.wcut, show (0 : Nat) < 4 from by decide, show (1 : Nat) < 4 from by decide, show (2 : Nat) < 4 from by decide, show (3 : Nat) < 4 from by decide, if_true] at d0 d1 d2 d3
      go_wp2
      exact bodyPost_ret (v := .tuple #[lineV (fun j => f (i * 4 + j)), .bool true]) (by simp [results, Tryd.results21, go_sem, lineV, c0, c1, c2, c3]) rfl ⟨rfl, (((r4.setCell (p := ⟨w.heap.size, _, none⟩) (Nat.le_refl _) _).setCell (p := ⟨w.heap.size, _, none⟩) (Nat.le_refl _) _).setCell (p := ⟨w.heap.size, _, none⟩) (Nat.le_refl _) _).setCell (p := ⟨w.heap.size, _, none⟩) (Nat.le_refl _) _⟩

theorem rline_any (b c n : Nat) (f : Nat → Int) (i : Int) (w : World) (h : RAt b c n f w) : Calls Tryd.prog 21 #[.pointer (some ⟨b, 0, none⟩), .int .i64 i] w fun e w' => e = .returned (.tuple #[lineV (W.lineOf n f i), .bool (decide (0 ≤ i ∧ i < n))]) ∧ Below w.heap.size w w' := by
  by_cases hi : 0 ≤ i ∧ i < n
  · obtain ⟨k, rfl⟩ := Int.eq_ofNat_of_zero_le hi.1
    refine (rline_in b c n f k w h (by omega)).mono fun e w' ⟨a1, a2⟩ => ⟨by rw [a1, decide_eq_true hi, W.lineOf, if_pos hi]; rfl, a2⟩
  · refine (rline_out b c n f i w h hi).mono fun e w' ⟨a1, a2⟩ => ⟨by rw [a1, decide_eq_false hi, W.lineOf, if_neg hi], a2⟩
end Go.Proofs.YtjdiepklgcdamaaDoor
