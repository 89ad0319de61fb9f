/- Texts in one: IsaD. -/
import Derived.Deep.RegionHeld3
import Derived.Deep.DrawnRows
import Derived.Test.YtopehmpjfndgjaaJ13
/- What read returns: the instruction with the fields that a word has. -/
namespace Go.Proofs.Ytopehmpjfndgjaa
open Go.ChangeShapes Go.WideShapes Go.ChangeAt Go.RowKit
set_option linter.unusedVariables false
set_option linter.unusedSimpArgs false
attribute [local go_sem ↓] Go.wp_at_zero Go.wp_at_succ

/-- A block of n cells that may be written. -/
def Room (b n : Nat) (w : World) : Prop := ∃ c t, w.heap[b]? = some (.cells c t (0, 0)) ∧ c.size = n
theorem Room.below {b n m : Nat} {x y : World} (h : Room b n x) (hm : Below m x y) (hb : b < m) : Room b n y := by
  obtain ⟨c, t, h1, h2⟩ := h
  exact ⟨c, t, (hm.block b hb).trans h1, h2⟩
theorem Room.setCell {b n : Nat} {x : World} (h : Room b n x) (g j : Nat) (v : Value) : Room b n (x.setCell ⟨g, j, none⟩ v) := by
  obtain ⟨c, t, h1, h2⟩ := h
  by_cases hp : g = b
  · subst hp
    exact ⟨c.setIfInBounds j v, t, by rw [setCell_eq_setRow x g j c t (0, 0) v h1]; exact setRow_heap x g c _ t _ h1, by simpa using h2⟩
  · exact ⟨c, t, (Below.heap_setCell _ _ _ _ (fun e => hp e.symm)).trans h1, h2⟩
theorem Room.eight {b : Nat} {x : World} (h : Room b 8 x) : ∃ v0 v1 v2 v3 v4 v5 v6 v7, x.cell? ⟨b, 0, none⟩ = some v0 ∧ x.cell? ⟨b, 1, none⟩ = some v1 ∧ x.cell? ⟨b, 2, none⟩ = some v2 ∧ x.cell? ⟨b, 3, none⟩ = some v3 ∧ x.cell? ⟨b, 4, none⟩ = some v4 ∧ x.cell? ⟨b, 5, none⟩ = some v5 ∧ x.cell? ⟨b, 6, none⟩ = some v6 ∧ x.cell? ⟨b, 7, none⟩ = some v7 ∧ ∀ j, x.frozen? ⟨b, j, none⟩ = false := by
  obtain ⟨c, t, h1, h2⟩ := h
  have hc : ∀ j (hj : j < 8), x.cell? ⟨b, j, none⟩ = some (c[j]'(by omega)) := fun j hj => by simp [World.cell?, h1, h2, hj]
  exact ⟨_, _, _, _, _, _, _, _, hc 0 (by omega), hc 1 (by omega), hc 2 (by omega), hc 3 (by omega), hc 4 (by omega), hc 5 (by omega), hc 6 (by omega), hc 7 (by omega), fun j => by simp [World.frozen?, h1]⟩

abbrev SR (w : World) (N : Nat) (s : W.Sh) (x : Int) (w' : World) : Prop :=
  Below w.heap.size w w' ∧ w.heap.size + 2 ≤ N ∧ N < w'.heap.size ∧ Room (w.heap.size + 1) 8 w' ∧
  w'.cell? ⟨w.heap.size, 0, none⟩ = some (.int .u32 s.fixed) ∧ w'.cell? ⟨w.heap.size, 1, none⟩ = some (.bool s.rd) ∧ w'.cell? ⟨w.heap.size, 2, none⟩ = some (.bool s.rs1) ∧ w'.cell? ⟨w.heap.size, 3, none⟩ = some (.bool s.rs2) ∧ w'.cell? ⟨w.heap.size, 4, none⟩ = some (.bool s.csr) ∧
  w'.cell? ⟨w.heap.size, 5, none⟩ = some (.bool s.ord) ∧ w'.cell? ⟨w.heap.size, 6, none⟩ = some (.int .u8 s.fmt) ∧ w'.cell? ⟨w.heap.size, 7, none⟩ = some (.int .i64 s.low) ∧ w'.cell? ⟨w.heap.size, 8, none⟩ = some (.int .i64 s.size) ∧
  w'.cell? ⟨N, 1, none⟩ = some (.int .u32 (W.bitsOf x 7 5)) ∧ w'.cell? ⟨N, 3, none⟩ = some (.int .u32 (W.bitsOf x 15 5)) ∧ w'.cell? ⟨N, 4, none⟩ = some (.int .u32 (W.bitsOf x 20 5))
theorem SR.next {w a b : World} {N : Nat} {s : W.Sh} {x : Int} (h : SR w N s x a) (hz : a.heap.size ≤ b.heap.size) (hB : Below w.heap.size w b) (hR : Room (w.heap.size + 1) 8 b) (hc : ∀ p : Addr, p.block < a.heap.size → p.block ≠ w.heap.size + 1 → b.cell? p = a.cell? p) : SR w N s x b := by
  obtain ⟨h1, h2, h3, h4, c0, c1, c2, c3, c4, c5, c6, c7, c8, d1, d3, d4⟩ := h
  have q0 : ∀ j, b.cell? ⟨w.heap.size, j, none⟩ = a.cell? ⟨w.heap.size, j, none⟩ := fun j => hc _ (by show w.heap.size < _; omega) (by show w.heap.size ≠ _; omega)
  have q1 : ∀ j, b.cell? ⟨N, j, none⟩ = a.cell? ⟨N, j, none⟩ := fun j => hc _ h3 (by show N ≠ _; omega)
  refine ⟨hB, h2, by omega, hR, ?_⟩
  simp only [q0, q1]
  exact ⟨c0, c1, c2, c3, c4, c5, c6, c7, c8, d1, d3, d4⟩
theorem SR.below {w a b : World} {N : Nat} {s : W.Sh} {x : Int} (h : SR w N s x a) (hm : Below a.heap.size a b) : SR w N s x b :=
  h.next hm.size (h.1.trans (hm.mono h.1.size)) (h.2.2.2.1.below hm (by have := h.2.1; have := h.2.2.1; omega)) (fun p hp _ => hm.cell hp)
theorem SR.drewN {w a : World} {N : Nat} {s : W.Sh} {x : Int} (h : SR w N s x a) (k : Nat) : SR w N s x (a.drewN k) := h.below (below_drewN (Below.refl _ _) k)
theorem SR.drew {w a : World} {N : Nat} {s : W.Sh} {x : Int} (h : SR w N s x a) : SR w N s x a.drew := h.below (Below.refl _ _).drew
theorem SR.set {w a : World} {N : Nat} {s : W.Sh} {x : Int} {j : Nat} {v : Value} (h : SR w N s x a) : SR w N s x (a.setCell ⟨w.heap.size + 1, j, none⟩ v) :=
  h.next (by simp [World.setCell]) (h.1.setCell (by simp) _) (h.2.2.2.1.setCell _ _ _) (fun p _ hp => World.cell?_of_block (w := a) (Below.heap_setCell _ _ _ _ hp))

theorem SR.set8 {w a : World} {N : Nat} {s : W.Sh} {x : Int} (h : SR w N s x a) (v0 v1 v2 v3 v4 v5 v6 v7 : Value) :
    SR w N s x ((((((((a.setCell ⟨w.heap.size + 1, 0, none⟩ v0).setCell ⟨w.heap.size + 1, 1, none⟩ v1).setCell ⟨w.heap.size + 1, 2, none⟩ v2).setCell ⟨w.heap.size + 1, 3, none⟩ v3).setCell ⟨w.heap.size + 1, 4, none⟩ v4).setCell ⟨w.heap.size + 1, 5, none⟩ v5).setCell ⟨w.heap.size + 1, 6, none⟩ v6).setCell ⟨w.heap.size + 1, 7, none⟩ v7) :=
  SR.set (SR.set (SR.set (SR.set (SR.set (SR.set (SR.set (SR.set h)))))))

theorem SR.start {w w1 : World} {s : W.Sh} {x : Int} {t1 t2 t3 : TypeId} {h0 h2 h5 : Value} {z : Array Value} (hz : z.size = 8)
    (hb1 : Below ((w.alloc (.cells #[.int .u32 s.fixed, .bool s.rd, .bool s.rs1, .bool s.rs2, .bool s.csr, .bool s.ord, .int .u8 s.fmt, .int .i64 s.low, .int .i64 s.size] t1)).alloc (.cells z t2)).heap.size
      ((w.alloc (.cells #[.int .u32 s.fixed, .bool s.rd, .bool s.rs1, .bool s.rs2, .bool s.csr, .bool s.ord, .int .u8 s.fmt, .int .i64 s.low, .int .i64 s.size] t1)).alloc (.cells z t2)) w1) :
    SR w w1.heap.size s x (w1.alloc (.cells #[h0, .int .u32 (W.bitsOf x 7 5), h2, .int .u32 (W.bitsOf x 15 5), .int .u32 (W.bitsOf x 20 5), h5] t3)) := by
  have hs := hb1.size
  simp at hs
  have hb : Below w.heap.size w w1 := (((Below.refl _ _).alloc (Nat.le_refl _) _).alloc (by simp) _).trans (hb1.mono (by simp; omega))
  have hr : Room (w.heap.size + 1) 8 w1 := ⟨z, t2, (hb1.block _ (by simp)).trans (by simpa using heap_alloc_last (w.alloc _) _), hz⟩
  have q : ∀ j, (w1.alloc (.cells #[h0, .int .u32 (W.bitsOf x 7 5), h2, .int .u32 (W.bitsOf x 15 5), .int .u32 (W.bitsOf x 20 5), h5] t3)).cell? ⟨w.heap.size, j, none⟩ = (w.alloc (.cells #[.int .u32 s.fixed, .bool s.rd, .bool s.rs1, .bool s.rs2, .bool s.csr, .bool s.ord, .int .u8 s.fmt, .int .i64 s.low, .int .i64 s.size] t1)).cell? ⟨w.heap.size, j, none⟩ := fun j => by
    rw [World.cell?_alloc_past _ _ _ (by show w.heap.size < _; omega), hb1.cell (p := ⟨w.heap.size, j, none⟩) (by simp; omega), World.cell?_alloc_past _ _ _ (by simp)]
  refine ⟨hb.alloc (by omega) _, by omega, by simp, hr.below ((Below.refl _ _).alloc (Nat.le_refl _) _) (by omega), ?_⟩
  simp only [q]
  simp [go_sem]

theorem bits_bel (x low n : Int) (w : World) :
    Calls Try.prog 46 #[.int .u32 x, .int .i64 low, .int .i64 n] w fun e w' => e = .returned (.int .u32 (W.bitsOf x low n)) ∧ Below w.heap.size w w' :=
  (bits_any x low n w).mono fun e w' ⟨h, k, hk⟩ => ⟨h, by rw [hk]; exact below_drewN (Below.refl _ _) k⟩

set_option maxRecDepth 100000 in
set_option maxHeartbeats 12800000 in
theorem read_any (s : W.Sh) (hs : W.okSh s = true) (op x : Int) (w : World) :
    Calls Try.prog 37 #[shV s, .int .i64 op, .int .u32 x] w fun e w' => e = .returned (inV (W.read s op x)) ∧ Below w.heap.size w w' := by
  have Hs : Hid (W.okSh s = true) := hs
  clear hs
  have i1 : IntKind.i64.wrap (W.bitsOf x 7 5) = W.bitsOf x 7 5 := IntWalk.i64_in _ (by have := W.bitsOf_lt x 7 5; omega)
  have i2 : IntKind.i64.wrap (W.bitsOf x 15 5) = W.bitsOf x 15 5 := IntWalk.i64_in _ (by have := W.bitsOf_lt x 15 5; omega)
  have i3 : IntKind.i64.wrap (W.bitsOf x 20 5) = W.bitsOf x 20 5 := IntWalk.i64_in _ (by have := W.bitsOf_lt x 20 5; omega)
  have i4 : IntKind.i64.wrap (W.bitsOf x 20 12) = W.bitsOf x 20 12 := IntWalk.i64_in _ (by have := W.bitsOf_lt x 20 12; omega)
  unfold shV
  go_enter Try.func37, Try.ntmps37
  go_wp2_with (go_at_call 44; refine (split_any _ _).mono ?_; rintro e w1 ⟨rfl, hb1⟩; unfold headV)
  have hS0 := (SR.start (x := x) (t3 := 83) (h0 := .int .u32 (W.bitsOf x 0 7)) (h2 := .int .u32 (W.bitsOf x 12 3)) (h5 := .int .u32 (W.bitsOf x 25 7)) rfl hb1).drew
  clear hb1
  go_region_held3 (fun w' => Below w.heap.size w w' ∧ w.heap.size + 2 ≤ w1.heap.size ∧ w1.heap.size < w'.heap.size ∧ Room (w.heap.size + 1) 8 w' ∧
      w'.cell? ⟨w.heap.size, 0, none⟩ = some (.int .u32 s.fixed) ∧ w'.cell? ⟨w.heap.size, 1, none⟩ = some (.bool s.rd) ∧ w'.cell? ⟨w.heap.size, 2, none⟩ = some (.bool s.rs1) ∧ w'.cell? ⟨w.heap.size, 3, none⟩ = some (.bool s.rs2) ∧ w'.cell? ⟨w.heap.size, 4, none⟩ = some (.bool s.csr) ∧
      w'.cell? ⟨w.heap.size, 5, none⟩ = some (.bool s.ord) ∧ w'.cell? ⟨w.heap.size, 6, none⟩ = some (.int .u8 s.fmt) ∧ w'.cell? ⟨w.heap.size, 7, none⟩ = some (.int .i64 s.low) ∧ w'.cell? ⟨w.heap.size, 8, none⟩ = some (.int .i64 s.size) ∧
      w'.cell? ⟨w1.heap.size, 1, none⟩ = some (.int .u32 (W.bitsOf x 7 5)) ∧ w'.cell? ⟨w1.heap.size, 3, none⟩ = some (.int .u32 (W.bitsOf x 15 5)) ∧ w'.cell? ⟨w1.heap.size, 4, none⟩ = some (.int .u32 (W.bitsOf x 20 5)))
    (first
      | with_reducible assumption
      | (with_reducible refine SR.set8 (w := w) (N := w1.heap.size) (s := s) (x := x) ?_ _ _ _ _ _ _ _ _; with_reducible assumption)
      | (with_reducible refine SR.below (w := w) (N := w1.heap.size) (s := s) (x := x) ?_ hm; with_reducible assumption))
    (first
      | (go_at_call 46; refine (bits_bel _ _ _ _).mono ?_; rintro e w' ⟨rfl, hm⟩)
      | (go_at_call 47; refine (immS_any s x _).mono ?_; rintro e w' ⟨rfl, hm⟩)
      | (go_at_call 45; refine (only_any s Hs.out (W.readAll s op x) _).mono ?_; rintro e w' ⟨rfl, hm⟩; obtain ⟨v0, v1, v2, v3, v4, v5, v6, v7, r0, r1, r2, r3, r4, r5, r6, r7, r8⟩ := (SR.below (N := w1.heap.size) (s := s) (x := x) (w := w) (by assumption) hm).2.2.2.1.eight; unfold inV))
  go_wp2
  refine bodyPost_ret (v := inV (W.read s op x)) ?_ rfl ⟨rfl, by (go_split_ands; assumption)⟩
  simp [results, Try.results37, go_sem, inV, W.read, r0, r1, r2, r3, r4, r5, r6, r7]

end Go.Proofs.Ytopehmpjfndgjaa
