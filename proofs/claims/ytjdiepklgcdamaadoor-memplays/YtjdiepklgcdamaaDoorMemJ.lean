/- A memory of a law's own, while calls go on; the chapter's examples. -/
import Derived.Test.YtjdiepklgcdamaaDoorMemI
namespace Go.Proofs.YtjdiepklgcdamaaDoor
open Go.ChangeShapes Go.WideShapes Go.ChangeAt Go.RowKit
set_option linter.unusedVariables false
set_option linter.unusedSimpArgs false

/-- Since the world w a memory f of n lines has been made. -/
structure Ms (w : World) (b c n cap : Nat) (f : Nat → Int) (wr : World) : Prop where
  bel : Below w.heap.size w wr
  at_ : MAt b c n cap f wr
  lb : w.heap.size ≤ b
  lc : w.heap.size ≤ c
theorem Ms.call {w : World} {b c n cap : Nat} {f : Nat → Int} {wr w' : World} (h : Ms w b c n cap f wr) (hb : Below wr.heap.size wr w') : Ms w b c n cap f w' :=
  ⟨h.bel.trans (hb.mono h.bel.size), h.at_.below hb, h.lb, h.lc⟩
theorem Ms.grown {w : World} {b c n cap : Nat} {f g : Nat → Int} {wr w' : World} (h : Ms w b c n cap f wr) (h2 : MAt b c n cap g w') (hg : wr.grownBy w' (some c)) : Ms w b c n cap g w' :=
  ⟨h.bel.grown hg h.bel.size (fun k hk => by cases hk; exact h.lc), h2, h.lb, h.lc⟩
theorem Ms.other {w : World} {b c n cap d : Nat} {f : Nat → Int} {wr w' : World} (h : Ms w b c n cap f wr) (hg : wr.grownBy w' (some d)) (h1 : b ≠ d) (h2 : c ≠ d) (hd : w.heap.size ≤ d) : Ms w b c n cap f w' :=
  ⟨h.bel.grown hg h.bel.size (fun k hk => by cases hk; exact hd), h.at_.kept hg h1 h2, h.lb, h.lc⟩
theorem Ms.start {w w1 w2 : World} {n cap : Nat} {f : Nat → Int} (hB : Below w.heap.size w w1) (h : MAt (w1.heap.size + 1) w1.heap.size n cap f w2) (hB2 : Below w1.heap.size w1 w2) : Ms w (w1.heap.size + 1) w1.heap.size n cap f w2 :=
  ⟨hB.trans (hB2.mono hB.size), h, by have := hB.size; omega, hB.size⟩

theorem load_l {w : World} {b c n cap : Nat} {f : Nat → Int} {wr : World} (h : Ms w b c n cap f wr) (a : Int) (A : Nat) (s V : Int) (B : Bool) (ha : (A : Int) = a) (hA : A < 4294967296) (hV : W.loadV n f A s = V) (hB : W.has n A s = B) : Calls Tryd.prog 18 #[.pointer (some ⟨b, 0, none⟩), .int .u32 a, .int .i64 s] wr fun e w' => e = .returned (.tuple #[.int .u32 V, .bool B]) ∧ Ms w b c n cap f w' ∧ Below wr.heap.size wr w' := by
  subst ha hV hB
  exact (load_any b c n cap f A s wr hA h.at_).mono fun e w' ⟨x, y⟩ => ⟨x, h.call y, y⟩
theorem store_l {w : World} {b c n cap : Nat} {f : Nat → Int} {wr : World} (h : Ms w b c n cap f wr) (a : Int) (A : Nat) (s v : Int) (B : Bool) (ha : (A : Int) = a) (hA : A < 4294967296) (hB : W.has n A s = B) : Calls Tryd.prog 14 #[.pointer (some ⟨b, 0, none⟩), .int .u32 a, .int .i64 s, .int .u32 v] wr fun e w' => e = .returned (.bool B) ∧ Ms w b c n cap (W.stored n f A s v) w' ∧ wr.grownBy w' (some c) := by
  subst ha hB
  exact (store_any b c n cap f A s v wr hA h.at_).mono fun e w' ⟨x, y, z⟩ => ⟨x, h.grown y z, z⟩
theorem setLine_l {w : World} {b c n cap : Nat} {f : Nat → Int} {wr : World} (h : Ms w b c n cap f wr) (i : Int) (L : Nat → Int) (B : Bool) (hL : ∀ k, 0 ≤ L k ∧ L k < 4294967296) (hB : decide (0 ≤ i ∧ i < n) = B) : Calls Tryd.prog 16 #[.pointer (some ⟨b, 0, none⟩), .int .i64 i, lineV L] wr fun e w' => e = .returned (.bool B) ∧ Ms w b c n cap (W.lined n f i L) w' ∧ wr.grownBy w' (some c) := by
  subst hB
  exact (setLine_any b c n cap f i L hL wr h.at_).mono fun e w' ⟨x, y, z⟩ => ⟨x, h.grown y z, z⟩
theorem line_l {w : World} {b c n cap : Nat} {f : Nat → Int} {wr : World} (h : Ms w b c n cap f wr) (i : Int) (B : Bool) (hB : decide (0 ≤ i ∧ i < n) = B) : Calls Tryd.prog 20 #[.pointer (some ⟨b, 0, none⟩), .int .i64 i] wr fun e w' => e = .returned (.tuple #[lineV (W.lineOf n f i), .bool B]) ∧ Ms w b c n cap f w' ∧ Below wr.heap.size wr w' := by
  subst hB
  exact (line_any b c n cap f i wr h.at_).mono fun e w' ⟨x, y⟩ => ⟨x, h.call y, y⟩
theorem has_l {w : World} {b c n cap : Nat} {f : Nat → Int} {wr : World} (h : Ms w b c n cap f wr) (a : Int) (A : Nat) (s : Int) (B : Bool) (ha : (A : Int) = a) (hA : A < 4294967296) (hB : W.has n A s = B) : Calls Tryd.prog 22 #[.pointer (some ⟨b, 0, none⟩), .int .u32 a, .int .i64 s] wr fun e w' => e = .returned (.bool B) ∧ wr = w' := by
  subst ha hB
  exact has_any b c n cap f A s wr hA h.at_
theorem bytes_l {w : World} {b c n cap : Nat} {f : Nat → Int} {wr : World} (h : Ms w b c n cap f wr) (x : Int) (hx : (16 * n : Int) = x) : Calls Tryd.prog 12 #[.pointer (some ⟨b, 0, none⟩)] wr fun e w' => e = .returned (.int .i64 x) ∧ wr = w' := by
  subst hx
  exact (bytes_any b c n cap f wr h.at_).mono fun e w' ⟨x, y⟩ => ⟨by rw [x]; simp, y⟩

theorem first7_any (w : World) : Calls Tryd.prog 8 #[] w fun e w' => e = .returned (.bool true) ∧ Below w.heap.size w w' := by
  have hc : ∀ j, j < 1 → (w.alloc (.cells #[.int .u32 67305985] 24)).cell? ⟨w.heap.size, 0 + j, none⟩ = some (.int .u32 ((fun _ => 67305985 : Nat → Int) j)) := by
    intro j hj
    match j, hj with
    | 0, _ => simp [go_sem]
  have b1 := (Below.refl w.heap.size w).alloc (Nat.le_refl _) (.cells #[.int .u32 67305985] 24)
  have v1 : W.loadV 1 (W.init 1 (fun _ => 67305985)) 1 1 = 2 := by kernel_rfl
  have v2 : W.loadV 1 (W.init 1 (fun _ => 67305985)) 2 2 = 1027 := by kernel_rfl
  have v3 : W.loadV 1 (W.init 1 (fun _ => 67305985)) 16 4 = 0 := by kernel_rfl
  have v4 : W.loadV 1 (W.init 1 (fun _ => 67305985)) 1 2 = 0 := by kernel_rfl
  have B1 : W.has 1 1 1 = true := by kernel_rfl
  have B2 : W.has 1 2 2 = true := by kernel_rfl
  have B3 : W.has 1 16 4 = false := by kernel_rfl
  have B4 : W.has 1 1 2 = false := by kernel_rfl
  go_enter Tryd.func8, Tryd.ntmps8
  go_wp2_with fail
  refine (new_k 1 16 w.heap.size 0 1 1 (fun _ => 67305985) _ rfl (by decide) (by decide) (by decide) (by simp) hc (fun _ => by decide)).mono ?_
  rintro e w2 ⟨rfl, hM, hB⟩
  have hL := Ms.start b1 hM hB
  generalize (w.alloc (.cells #[.int .u32 67305985] 24)).heap.size = g at *
  clear hM hB hc b1
  go_wp2_with fail
  refine (load_l hL _ 1 _ _ _ rfl (by decide) v1 B1).mono ?_
  clear hL
  rintro e w2 ⟨rfl, hL, _⟩
  go_wp2_with fail
  refine (load_l hL _ 2 _ _ _ rfl (by decide) v2 B2).mono ?_
  clear hL
  rintro e w2 ⟨rfl, hL, _⟩
  go_wp2_with fail
  refine (load_l hL _ 16 _ _ _ rfl (by decide) v3 B3).mono ?_
  clear hL
  rintro e w2 ⟨rfl, hL, _⟩
  go_wp2_with fail
  refine (load_l hL _ 1 _ _ _ rfl (by decide) v4 B4).mono ?_
  clear hL
  rintro e w2 ⟨rfl, hL, _⟩
  go_wp2
  go_ret
  exact ⟨rfl, hL.bel⟩
end Go.Proofs.YtjdiepklgcdamaaDoor
