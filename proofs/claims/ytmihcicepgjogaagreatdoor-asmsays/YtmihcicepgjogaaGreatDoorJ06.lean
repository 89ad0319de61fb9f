/- Texts in one: IsaD, IsaH, Uses, FormA, IsaF, IsaG, IsaI. -/
import Derived.Deep.RegionHeld3
import Derived.Deep.DrawnRows
import Derived.Test.YtmihcicepgjogaaGreatDoorJ03
import Derived.Test.YtmihcicepgjogaaGreatDoorJ04
import Derived.Test.YtmihcicepgjogaaGreatDoorJ05
/- What read returns: the instruction with the fields that a word has. -/
namespace Go.Proofs.YtmihcicepgjogaaGreatDoor
open Go.ChangeShapes Go.WideShapes Go.ChangeAt Go.RowKit
set_option linter.unusedVariables false
set_option linter.unusedSimpArgs false
attribute [local go_sem ↓] Go.wp_at_zero Go.wp_at_succ

/-- A block of n cells that may be written. -/
def Room (b n : Nat) (w : World) : Prop := ∃ c t, w.heap[b]? = some (.cells c t (0, 0)) ∧ c.size = n
theorem Room.below {b n m : Nat} {x y : World} (h : Room b n x) (hm : Below m x y) (hb : b < m) : Room b n y := by
  obtain ⟨c, t, h1, h2⟩ := h
  exact ⟨c, t, (hm.block b hb).trans h1, h2⟩
theorem Room.setCell {b n : Nat} {x : World} (h : Room b n x) (g j : Nat) (v : Value) : Room b n (x.setCell ⟨g, j, none⟩ v) := by
  obtain ⟨c, t, h1, h2⟩ := h
  by_cases hp : g = b
  · subst hp
    exact ⟨c.setIfInBounds j v, t, by rw [setCell_eq_setRow x g j c t (0, 0) v h1]; exact setRow_heap x g c _ t _ h1, by simpa using h2⟩
  · exact ⟨c, t, (Below.heap_setCell _ _ _ _ (fun e => hp e.symm)).trans h1, h2⟩
theorem Room.eight {b : Nat} {x : World} (h : Room b 8 x) : ∃ v0 v1 v2 v3 v4 v5 v6 v7, x.cell? ⟨b, 0, none⟩ = some v0 ∧ x.cell? ⟨b, 1, none⟩ = some v1 ∧ x.cell? ⟨b, 2, none⟩ = some v2 ∧ x.cell? ⟨b, 3, none⟩ = some v3 ∧ x.cell? ⟨b, 4, none⟩ = some v4 ∧ x.cell? ⟨b, 5, none⟩ = some v5 ∧ x.cell? ⟨b, 6, none⟩ = some v6 ∧ x.cell? ⟨b, 7, none⟩ = some v7 ∧ ∀ j, x.frozen? ⟨b, j, none⟩ = false := by
  obtain ⟨c, t, h1, h2⟩ := h
  have hc : ∀ j (hj : j < 8), x.cell? ⟨b, j, none⟩ = some (c[j]'(by omega)) := fun j hj => by simp [World.cell?, h1, h2, hj]
  exact ⟨_, _, _, _, _, _, _, _, hc 0 (by omega), hc 1 (by omega), hc 2 (by omega), hc 3 (by omega), hc 4 (by omega), hc 5 (by omega), hc 6 (by omega), hc 7 (by omega), fun j => by simp [World.frozen?, h1]⟩

abbrev SR (w : World) (N : Nat) (s : W.Sh) (x : Int) (w' : World) : Prop :=
  Below w.heap.size w w' ∧ w.heap.size + 2 ≤ N ∧ N < w'.heap.size ∧ Room (w.heap.size + 1) 8 w' ∧
  w'.cell? ⟨w.heap.size, 0, none⟩ = some (.int .u32 s.fixed) ∧ w'.cell? ⟨w.heap.size, 1, none⟩ = some (.bool s.rd) ∧ w'.cell? ⟨w.heap.size, 2, none⟩ = some (.bool s.rs1) ∧ w'.cell? ⟨w.heap.size, 3, none⟩ = some (.bool s.rs2) ∧ w'.cell? ⟨w.heap.size, 4, none⟩ = some (.bool s.csr) ∧
  w'.cell? ⟨w.heap.size, 5, none⟩ = some (.bool s.ord) ∧ w'.cell? ⟨w.heap.size, 6, none⟩ = some (.int .u8 s.fmt) ∧ w'.cell? ⟨w.heap.size, 7, none⟩ = some (.int .i64 s.low) ∧ w'.cell? ⟨w.heap.size, 8, none⟩ = some (.int .i64 s.size) ∧
  w'.cell? ⟨N, 1, none⟩ = some (.int .u32 (W.bitsOf x 7 5)) ∧ w'.cell? ⟨N, 3, none⟩ = some (.int .u32 (W.bitsOf x 15 5)) ∧ w'.cell? ⟨N, 4, none⟩ = some (.int .u32 (W.bitsOf x 20 5))
theorem SR.next {w a b : World} {N : Nat} {s : W.Sh} {x : Int} (h : SR w N s x a) (hz : a.heap.size ≤ b.heap.size) (hB : Below w.heap.size w b) (hR : Room (w.heap.size + 1) 8 b) (hc : ∀ p : Addr, p.block < a.heap.size → p.block ≠ w.heap.size + 1 → b.cell? p = a.cell? p) : SR w N s x b := by
  obtain ⟨h1, h2, h3, h4, c0, c1, c2, c3, c4, c5, c6, c7, c8, d1, d3, d4⟩ := h
  have q0 : ∀ j, b.cell? ⟨w.heap.size, j, none⟩ = a.cell? ⟨w.heap.size, j, none⟩ := fun j => hc _ (by show w.heap.size < _; omega) (by show w.heap.size ≠ _; omega)
  have q1 : ∀ j, b.cell? ⟨N, j, none⟩ = a.cell? ⟨N, j, none⟩ := fun j => hc _ h3 (by show N ≠ _; omega)
  refine ⟨hB, h2, by omega, hR, ?_⟩
  simp only [q0, q1]
  exact ⟨c0, c1, c2, c3, c4, c5, c6, c7, c8, d1, d3, d4⟩
theorem SR.below {w a b : World} {N : Nat} {s : W.Sh} {x : Int} (h : SR w N s x a) (hm : Below a.heap.size a b) : SR w N s x b :=
  h.next hm.size (h.1.trans (hm.mono h.1.size)) (h.2.2.2.1.below hm (by have := h.2.1; have := h.2.2.1; omega)) (fun p hp _ => hm.cell hp)
theorem SR.drewN {w a : World} {N : Nat} {s : W.Sh} {x : Int} (h : SR w N s x a) (k : Nat) : SR w N s x (a.drewN k) := h.below (below_drewN (Below.refl _ _) k)
theorem SR.drew {w a : World} {N : Nat} {s : W.Sh} {x : Int} (h : SR w N s x a) : SR w N s x a.drew := h.below (Below.refl _ _).drew
theorem SR.set {w a : World} {N : Nat} {s : W.Sh} {x : Int} {j : Nat} {v : Value} (h : SR w N s x a) : SR w N s x (a.setCell ⟨w.heap.size + 1, j, none⟩ v) :=
  h.next (by simp [World.setCell]) (h.1.setCell (by simp) _) (h.2.2.2.1.setCell _ _ _) (fun p _ hp => World.cell?_of_block (w := a) (Below.heap_setCell _ _ _ _ hp))

theorem SR.set8 {w a : World} {N : Nat} {s : W.Sh} {x : Int} (h : SR w N s x a) (v0 v1 v2 v3 v4 v5 v6 v7 : Value) :
    SR w N s x ((((((((a.setCell ⟨w.heap.size + 1, 0, none⟩ v0).setCell ⟨w.heap.size + 1, 1, none⟩ v1).setCell ⟨w.heap.size + 1, 2, none⟩ v2).setCell ⟨w.heap.size + 1, 3, none⟩ v3).setCell ⟨w.heap.size + 1, 4, none⟩ v4).setCell ⟨w.heap.size + 1, 5, none⟩ v5).setCell ⟨w.heap.size + 1, 6, none⟩ v6).setCell ⟨w.heap.size + 1, 7, none⟩ v7) :=
  SR.set (SR.set (SR.set (SR.set (SR.set (SR.set (SR.set (SR.set h)))))))

theorem SR.start {w w1 : World} {s : W.Sh} {x : Int} {t1 t2 t3 : TypeId} {h0 h2 h5 : Value} {z : Array Value} (hz : z.size = 8)
    (hb1 : Below ((w.alloc (.cells #[.int .u32 s.fixed, .bool s.rd, .bool s.rs1, .bool s.rs2, .bool s.csr, .bool s.ord, .int .u8 s.fmt, .int .i64 s.low, .int .i64 s.size] t1)).alloc (.cells z t2)).heap.size
      ((w.alloc (.cells #[.int .u32 s.fixed, .bool s.rd, .bool s.rs1, .bool s.rs2, .bool s.csr, .bool s.ord, .int .u8 s.fmt, .int .i64 s.low, .int .i64 s.size] t1)).alloc (.cells z t2)) w1) :
    SR w w1.heap.size s x (w1.alloc (.cells #[h0, .int .u32 (W.bitsOf x 7 5), h2, .int .u32 (W.bitsOf x 15 5), .int .u32 (W.bitsOf x 20 5), h5] t3)) := by
  have hs := hb1.size
  simp at hs
  have hb : Below w.heap.size w w1 := (((Below.refl _ _).alloc (Nat.le_refl _) _).alloc (by simp) _).trans (hb1.mono (by simp; omega))
  have hr : Room (w.heap.size + 1) 8 w1 := ⟨z, t2, (hb1.block _ (by simp)).trans (by simpa using heap_alloc_last (w.alloc _) _), hz⟩
  have q : ∀ j, (w1.alloc (.cells #[h0, .int .u32 (W.bitsOf x 7 5), h2, .int .u32 (W.bitsOf x 15 5), .int .u32 (W.bitsOf x 20 5), h5] t3)).cell? ⟨w.heap.size, j, none⟩ = (w.alloc (.cells #[.int .u32 s.fixed, .bool s.rd, .bool s.rs1, .bool s.rs2, .bool s.csr, .bool s.ord, .int .u8 s.fmt, .int .i64 s.low, .int .i64 s.size] t1)).cell? ⟨w.heap.size, j, none⟩ := fun j => by
    rw [World.cell?_alloc_past _ _ _ (by show w.heap.size < _; omega), hb1.cell (p := ⟨w.heap.size, j, none⟩) (by simp; omega), World.cell?_alloc_past _ _ _ (by simp)]
  refine ⟨hb.alloc (by omega) _, by omega, by simp, hr.below ((Below.refl _ _).alloc (Nat.le_refl _) _) (by omega), ?_⟩
  simp only [q]
  simp [go_sem]

theorem bits_bel (x low n : Int) (w : World) :
    Calls Tryz.prog 92 #[.int .u32 x, .int .i64 low, .int .i64 n] w fun e w' => e = .returned (.int .u32 (W.bitsOf x low n)) ∧ Below w.heap.size w w' :=
  (bits_any x low n w).mono fun e w' ⟨h, k, hk⟩ => ⟨h, by rw [hk]; exact below_drewN (Below.refl _ _) k⟩

set_option maxRecDepth 100000 in
set_option maxHeartbeats 12800000 in
theorem read_any (s : W.Sh) (hs : W.okSh s = true) (op x : Int) (w : World) :
    Calls Tryz.prog 102 #[shV s, .int .i64 op, .int .u32 x] w fun e w' => e = .returned (inV (W.read s op x)) ∧ Below w.heap.size w w' := by
  have Hs : Hid (W.okSh s = true) := hs
  clear hs
  have i1 : IntKind.i64.wrap (W.bitsOf x 7 5) = W.bitsOf x 7 5 := IntWalk.i64_in _ (by have := W.bitsOf_lt x 7 5; omega)
  have i2 : IntKind.i64.wrap (W.bitsOf x 15 5) = W.bitsOf x 15 5 := IntWalk.i64_in _ (by have := W.bitsOf_lt x 15 5; omega)
  have i3 : IntKind.i64.wrap (W.bitsOf x 20 5) = W.bitsOf x 20 5 := IntWalk.i64_in _ (by have := W.bitsOf_lt x 20 5; omega)
  have i4 : IntKind.i64.wrap (W.bitsOf x 20 12) = W.bitsOf x 20 12 := IntWalk.i64_in _ (by have := W.bitsOf_lt x 20 12; omega)
  unfold shV
  go_enter Tryz.func102, Tryz.ntmps102
  go_wp2_with (go_at_call 126; refine (split_any _ _).mono ?_; rintro e w1 ⟨rfl, hb1⟩; unfold headV)
  have hS0 := (SR.start (x := x) (t3 := 126) (h0 := .int .u32 (W.bitsOf x 0 7)) (h2 := .int .u32 (W.bitsOf x 12 3)) (h5 := .int .u32 (W.bitsOf x 25 7)) rfl hb1).drew
  clear hb1
  go_region_held3 (fun w' => Below w.heap.size w w' ∧ w.heap.size + 2 ≤ w1.heap.size ∧ w1.heap.size < w'.heap.size ∧ Room (w.heap.size + 1) 8 w' ∧
      w'.cell? ⟨w.heap.size, 0, none⟩ = some (.int .u32 s.fixed) ∧ w'.cell? ⟨w.heap.size, 1, none⟩ = some (.bool s.rd) ∧ w'.cell? ⟨w.heap.size, 2, none⟩ = some (.bool s.rs1) ∧ w'.cell? ⟨w.heap.size, 3, none⟩ = some (.bool s.rs2) ∧ w'.cell? ⟨w.heap.size, 4, none⟩ = some (.bool s.csr) ∧
      w'.cell? ⟨w.heap.size, 5, none⟩ = some (.bool s.ord) ∧ w'.cell? ⟨w.heap.size, 6, none⟩ = some (.int .u8 s.fmt) ∧ w'.cell? ⟨w.heap.size, 7, none⟩ = some (.int .i64 s.low) ∧ w'.cell? ⟨w.heap.size, 8, none⟩ = some (.int .i64 s.size) ∧
      w'.cell? ⟨w1.heap.size, 1, none⟩ = some (.int .u32 (W.bitsOf x 7 5)) ∧ w'.cell? ⟨w1.heap.size, 3, none⟩ = some (.int .u32 (W.bitsOf x 15 5)) ∧ w'.cell? ⟨w1.heap.size, 4, none⟩ = some (.int .u32 (W.bitsOf x 20 5)))
    (first
      | with_reducible assumption
      | (with_reducible refine SR.set8 (w := w) (N := w1.heap.size) (s := s) (x := x) ?_ _ _ _ _ _ _ _ _; with_reducible assumption)
      | (with_reducible refine SR.below (w := w) (N := w1.heap.size) (s := s) (x := x) ?_ hm; with_reducible assumption))
    (first
      | (go_at_call 92; refine (bits_bel _ _ _ _).mono ?_; rintro e w' ⟨rfl, hm⟩)
      | (go_at_call 81; refine (immS_any s x _).mono ?_; rintro e w' ⟨rfl, hm⟩)
      | (go_at_call 50; refine (only_any s Hs.out (W.readAll s op x) _).mono ?_; rintro e w' ⟨rfl, hm⟩; obtain ⟨v0, v1, v2, v3, v4, v5, v6, v7, r0, r1, r2, r3, r4, r5, r6, r7, r8⟩ := (SR.below (N := w1.heap.size) (s := s) (x := x) (w := w) (by assumption) hm).2.2.2.1.eight; unfold inV))
  go_wp2
  refine bodyPost_ret (v := inV (W.read s op x)) ?_ rfl ⟨rfl, by (go_split_ands; assumption)⟩
  simp [results, Tryz.results102, go_sem, inV, W.read, r0, r1, r2, r3, r4, r5, r6, r7]

end Go.Proofs.YtmihcicepgjogaaGreatDoor

/- What Decode returns. -/
namespace Go.Proofs.YtmihcicepgjogaaGreatDoor
open Go.ChangeShapes Go.WideShapes Go.ChangeAt Go.RowKit
set_option linter.unusedVariables false
set_option linter.unusedSimpArgs false

/-- The codes lie in block g. -/
def Codes (g : Nat) (w : World) : Prop := g < w.heap.size ∧ ∀ k : Nat, k < 70 → w.cell? ⟨g, k, none⟩ = some (.int .u32 (W.code k))
theorem Codes.below {g : Nat} {a b : World} (h : Codes g a) (hm : Below a.heap.size a b) : Codes g b :=
  ⟨Nat.lt_of_lt_of_le h.1 hm.size, fun k hk => (hm.cell (p := ⟨g, k, none⟩) h.1).trans (h.2 k hk)⟩
theorem codesA_at (k : Nat) (hk : k < 70) : codesA[k]? = some (.int .u32 (W.code k)) := by
  have h : ((List.range 70).all fun k => decide (W.codes[k]? = some (W.code k))) = true := by decide +kernel
  have := List.all_eq_true.1 h k (List.mem_range.2 hk)
  simp at this
  simp [codesA, this]
theorem Codes.start (w : World) (t : TypeId) : Codes w.heap.size (w.alloc (.cells codesA t)) :=
  ⟨by simp, fun k hk => (cell_of_row _ _ k codesA t (0, 0) (heap_alloc_last w _)).trans (codesA_at k hk)⟩

theorem decFrom_step {x : Int} {k : Nat} (hk : k ≤ 69) : W.decFrom x k (70 - k) = bif W.hit x k then k else W.decFrom x (k + 1) (70 - (k + 1)) := by
  have : 70 - k = (70 - (k + 1)) + 1 := by omega
  rw [this, W.decFrom]

set_option maxRecDepth 100000 in
set_option maxHeartbeats 6400000 in
theorem decode_any (x : Int) (w : World) :
    Calls Tryz.prog 73 #[.int .u32 x] w fun e w' => e = .returned (.tuple #[inV (W.decI x), .bool (W.decB x)]) ∧ Below w.heap.size w w' := by
  have hst : ∀ w : World, (storeCells ⟨w.heap.size, 0, none⟩ codesA.toList 0).run Tryz.prog (w.alloc (.cells Tryz.zeroCells91 91)) = .ok () (w.alloc (.cells codesA 91)) := fun w =>
    run_storeCells_new w 91 _ _ (by kernel_rfl) (by kernel_rfl) (by kernel_rfl)
  have hn : codesA.size = 70 := by kernel_rfl
  go_enter Tryz.func73, Tryz.ntmps73
  go_wp2_with (go_at_call 51; refine (codes_any _).mono ?_; rintro e w1 ⟨rfl, hb1⟩)
  have hz := hb1.size
  simp at hz
  have hb2 : Below w.heap.size w w1 := ((Below.refl _ _).alloc (Nat.le_refl _) _).trans (hb1.mono (by simp))
  have hR : Room w.heap.size 8 w1 := ⟨_, _, (hb1.block _ (by simp)).trans (heap_alloc_last w _), rfl⟩
  clear hb1 hst hn
  go_loopw [5] (fun i wr => ∃ k : Nat, 1 ≤ k ∧ k ≤ 70 ∧ i = .int .i64 k ∧ Below w.heap.size w wr ∧ Codes w1.heap.size wr ∧ Room w.heap.size 8 wr ∧ W.dec x = W.decFrom x k (70 - k)) (fun i _ => 70 - (intOf i).toNat)
  case atStart => exact ⟨1, by omega, by omega, rfl, hb2.alloc (by omega) _, Codes.start _ _, hR.below ((Below.refl _ _).alloc (Nat.le_refl _) _) (by omega), rfl⟩
  case round =>
    obtain ⟨k, hk1, hk2, rfl, hbl, hC, hRr, hD⟩ := hrel
    have HD : Hid (W.dec x = W.decFrom x k (70 - k)) := hD
    have HC : Hid (Codes w1.heap.size wr) := hC
    have HR : Hid (Room w.heap.size 8 wr) := hRr
    clear hD hC hRr hR hb2
    by_cases hk : k ≤ 69
    · have e0 : W.decFrom x k (70 - k) = bif W.hit x k then k else W.decFrom x (k + 1) (70 - (k + 1)) := decFrom_step hk
      have E0 : Hid (W.decFrom x k (70 - k) = bif W.hit x k then k else W.decFrom x (k + 1) (70 - (k + 1))) := e0
      clear e0
      have hc : wr.cell? ⟨w1.heap.size, k, none⟩ = some (.int .u32 (W.code k)) := HC.out.2 k (by omega)
      have hk0 : (0 : Int) ≤ (k : Int) := Int.natCast_nonneg _
      have hk7 : (k : Int) < 70 := by omega
      have hk9 : (k : Int) ≤ 69 := by omega
      cases h1 : (bits .and .u32 (bits .xor .u32 x (W.code k)) 127 != 0)
      · cases h2 : (bits .and .u32 x (W.shp k).fixed == W.code k)
        · have hh : Hid (W.hit x k = false) := by
            have : W.hit x k = false := by simp [W.hit, h1, h2]
            exact this
          go_wp2_with (go_at_call 47; refine (shapeOf_any _ _).mono ?_; rintro e w2 ⟨rfl, hb2⟩; have hc2 : w2.cell? ⟨w1.heap.size, k, none⟩ = some (.int .u32 (W.code k)) := (hb2.cell (p := ⟨w1.heap.size, k, none⟩) HC.out.1).trans hc; have hlt : w1.heap.size < w2.heap.size := Nat.lt_of_lt_of_le HC.out.1 hb2.size; unfold shV)
          go_quiet (fail)
          go_wp2
          go_roundw
          case rel =>
            have hz2 := hbl.size
            have hz3 := HC.out.1
            exact ⟨k + 1, by omega, by omega, by go_num, hbl.trans ((below_drewN (hb2.alloc hb2.size _) nq).mono hbl.size), HC.out.below (below_drewN (hb2.alloc hb2.size _) nq), HR.out.below (below_drewN (hb2.alloc hb2.size _) nq) (by omega), by rw [HD.out, E0.out, hh.out]; rfl⟩
          case measure => simp [intOf]; omega
        · have hh : Hid (W.hit x k = true) := by
            have : W.hit x k = true := by simp [W.hit, h1, h2]
            exact this
          have hd : Hid (W.dec x = k) := by
            have : W.dec x = k := by rw [HD.out, E0.out, hh.out]; rfl
            exact this
          have hz2 := hbl.size
          have hz3 := HC.out.1
          go_wp2_with (go_at_call 47; refine (shapeOf_any _ _).mono ?_; rintro e w2 ⟨rfl, hb2⟩; have hc2 : w2.cell? ⟨w1.heap.size, k, none⟩ = some (.int .u32 (W.code k)) := (hb2.cell (p := ⟨w1.heap.size, k, none⟩) HC.out.1).trans hc; have hlt : w1.heap.size < w2.heap.size := Nat.lt_of_lt_of_le HC.out.1 hb2.size; unfold shV)
          go_quiet (fail)
          go_wp2_with (go_at_call 102; refine (read_any (W.shp k) (W.okSh_shp k) k x _).mono ?_; rintro e w3 ⟨rfl, hb3⟩; have hq : Below wr.heap.size wr w3 := (below_drewN (hb2.alloc hb2.size _) nq).trans (hb3.mono (by have := hb2.size; simp; omega)); obtain ⟨v0, v1, v2, v3, v4, v5, v6, v7, r0, r1, r2, r3, r4, r5, r6, r7, r8⟩ := (HR.out.below hq (by omega)).eight; unfold inV)
          refine bodyPost_ret (v := .tuple #[inV (W.read (W.shp k) k x), .bool true]) ?_ rfl ⟨?_, ?_⟩
          · simp [results, Tryz.results73, go_sem, inV, r0, r1, r2, r3, r4, r5, r6, r7]
          · rw [W.decI, W.decB, hd.out]
            have : (k != 0) = true := by simp; omega
            rw [this]
          · exact ((((((((hbl.trans (hq.mono hbl.size)).setCell (Nat.le_refl _) _).setCell (Nat.le_refl _) _).setCell (Nat.le_refl _) _).setCell (Nat.le_refl _) _).setCell (Nat.le_refl _) _).setCell (Nat.le_refl _) _).setCell (Nat.le_refl _) _).setCell (Nat.le_refl _) _
      · have hh : Hid (W.hit x k = false) := by
          have : W.hit x k = false := by simp [W.hit, h1]
          exact this
        go_wp2
        go_roundw
        case rel => exact ⟨k + 1, by omega, by omega, by go_num, hbl, HC.out, HR.out, by rw [HD.out, E0.out, hh.out]; rfl⟩
        case measure => simp [intOf]; omega
    · have hk70 : k = 70 := by omega
      have hd : Hid (W.dec x = 0) := by
        have : W.dec x = 0 := by rw [HD.out, hk70]; rfl
        exact this
      have hk7 : ¬ (k : Int) ≤ 69 := by omega
      clear hk70 HD hk hk1 hk2
      obtain ⟨v0, v1, v2, v3, v4, v5, v6, v7, r0, r1, r2, r3, r4, r5, r6, r7, r8⟩ := HR.out.eight
      go_wp2
      refine bodyPost_ret (v := .tuple #[inV ⟨0, 0, 0, 0, 0, 0, false, false⟩, .bool false]) ?_ rfl ⟨?_, ?_⟩
      · simp [results, Tryz.results73, go_sem, inV, r0, r1, r2, r3, r4, r5, r6, r7]
      · rw [W.decI, W.decB, hd.out]
        rfl
      · exact ((((((((hbl).setCell (Nat.le_refl _) _).setCell (Nat.le_refl _) _).setCell (Nat.le_refl _) _).setCell (Nat.le_refl _) _).setCell (Nat.le_refl _) _).setCell (Nat.le_refl _) _).setCell (Nat.le_refl _) _).setCell (Nat.le_refl _) _

end Go.Proofs.YtmihcicepgjogaaGreatDoor

/- What Uses answers. -/
namespace Go.Proofs.YtmihcicepgjogaaGreatDoor
open Go.ChangeShapes Go.WideShapes Go.ChangeAt Go.RowKit
set_option linter.unusedVariables false
set_option linter.unusedSimpArgs false
attribute [local go_sem ↓] Go.wp_at_zero Go.wp_at_succ

abbrev SU (w : World) (n : Nat) (s : W.Sh) (w' : World) : Prop :=
  Below w.heap.size w w' ∧ n < w'.heap.size ∧ w'.cell? ⟨n, 0, none⟩ = some (.int .u32 s.fixed) ∧ w'.cell? ⟨n, 1, none⟩ = some (.bool s.rd) ∧ w'.cell? ⟨n, 2, none⟩ = some (.bool s.rs1) ∧ w'.cell? ⟨n, 3, none⟩ = some (.bool s.rs2) ∧ w'.cell? ⟨n, 4, none⟩ = some (.bool s.csr) ∧ w'.cell? ⟨n, 5, none⟩ = some (.bool s.ord) ∧ w'.cell? ⟨n, 6, none⟩ = some (.int .u8 s.fmt) ∧ w'.cell? ⟨n, 7, none⟩ = some (.int .i64 s.low) ∧ w'.cell? ⟨n, 8, none⟩ = some (.int .i64 s.size)
theorem SU.below {w a b : World} {n : Nat} {s : W.Sh} (h : SU w n s a) (hm : Below a.heap.size a b) : SU w n s b := by
  obtain ⟨h1, h2, h3⟩ := h
  have q : ∀ j, b.cell? ⟨n, j, none⟩ = a.cell? ⟨n, j, none⟩ := fun j => hm.cell h2
  refine ⟨h1.trans (hm.mono h1.size), by have := hm.size; omega, ?_⟩
  simp only [q]
  exact h3
theorem SU.start {w w1 : World} {s : W.Sh} {t : TypeId} (hb : Below w.heap.size w w1) :
    SU w w1.heap.size s ((w1.alloc (.cells #[.int .u32 s.fixed, .bool s.rd, .bool s.rs1, .bool s.rs2, .bool s.csr, .bool s.ord, .int .u8 s.fmt, .int .i64 s.low, .int .i64 s.size] t)).drew) := by
  refine SU.below ⟨hb.alloc hb.size _, by simp, ?_⟩ (Below.refl _ _).drew
  simp [go_sem]

set_option maxRecDepth 100000 in
set_option maxHeartbeats 6400000 in
theorem uses_any (op : Int) (w : World) :
    Calls Tryz.prog 113 #[.int .i64 op] w fun e w' => e = .returned (.tuple #[.bool (W.shp op).rd, .bool (W.shp op).rs1, .bool (W.shp op).rs2, .bool (W.hasImm (W.shp op))]) ∧ Below w.heap.size w w' := by
  generalize hs : W.shp op = s
  have HS : Hid (W.shp op = s) := hs
  clear hs
  go_enter Tryz.func113, Tryz.ntmps113
  go_wp2_with (first
    | (go_at_call 47; refine (shapeOf_any _ _).mono ?_; rintro e w1 ⟨rfl, hb1⟩; rw [HS.out]; unfold shV))
  have hS0 := SU.start (s := s) (t := 86) hb1
  clear hb1
  go_region_held3 (fun w' => Below w.heap.size w w' ∧ w1.heap.size < w'.heap.size ∧ w'.cell? ⟨w1.heap.size, 0, none⟩ = some (.int .u32 s.fixed) ∧ w'.cell? ⟨w1.heap.size, 1, none⟩ = some (.bool s.rd) ∧ w'.cell? ⟨w1.heap.size, 2, none⟩ = some (.bool s.rs1) ∧ w'.cell? ⟨w1.heap.size, 3, none⟩ = some (.bool s.rs2) ∧ w'.cell? ⟨w1.heap.size, 4, none⟩ = some (.bool s.csr) ∧ w'.cell? ⟨w1.heap.size, 5, none⟩ = some (.bool s.ord) ∧ w'.cell? ⟨w1.heap.size, 6, none⟩ = some (.int .u8 s.fmt) ∧ w'.cell? ⟨w1.heap.size, 7, none⟩ = some (.int .i64 s.low) ∧ w'.cell? ⟨w1.heap.size, 8, none⟩ = some (.int .i64 s.size))
    (first
      | with_reducible assumption
      | (with_reducible refine SU.below (w := w) (n := w1.heap.size) (s := s) ?_ hm; with_reducible assumption)
      | (refine SU.below (w := w) (n := w1.heap.size) (s := s) ?_ hm; assumption))
    (first
      | (go_at_call 79; refine (hasImm_any s _).mono ?_; rintro e w' ⟨rfl, hm⟩))
  all_goals
    have hB : Below w.heap.size w w' := by (go_split_ands; assumption)
    go_wp2
    exact bodyPost_ret (v := .tuple #[.bool s.rd, .bool s.rs1, .bool s.rs2, .bool (W.hasImm s)]) (by simp [results, Tryz.results113, go_sem]) rfl ⟨rfl, hB⟩
end Go.Proofs.YtmihcicepgjogaaGreatDoor

/- The forms of package asm: how the parts of an op are written. -/
namespace Go.Proofs.YtmihcicepgjogaaGreatDoor
open Go.ChangeShapes Go.WideShapes Go.ChangeAt Go.RowKit
set_option linter.unusedVariables false
set_option linter.unusedSimpArgs false

namespace W
def fK (op : Int) : List UInt8 := bif kind op == 3 then [49, 44, 32, 50, 44, 32, 105] else bif kind op == 4 then [100, 44, 32, 105, 40, 49, 41] else bif kind op == 5 then [50, 44, 32, 105, 40, 49, 41] else bif kind op == 6 then [100, 44, 32, 50, 44, 32, 40, 49, 41] else bif hasImm (shp op) then [100, 44, 32, 49, 44, 32, 105] else bif (shp op).rs2 then [100, 44, 32, 49, 44, 32, 50] else []
/-- The form of an op. -/
def form (op : Int) : List UInt8 := bif op == 1 then [100, 44, 32, 117] else bif op == 2 then [100, 44, 32, 117] else bif op == 3 then [100, 44, 32, 105] else bif op == 4 then [100, 44, 32, 105, 40, 49, 41] else bif op == 38 then [112, 44, 32, 115] else bif op == 44 then [49, 44, 32, 50] else bif op == 45 then [100, 44, 32, 99, 44, 32, 49] else bif op == 46 then [100, 44, 32, 99, 44, 32, 49] else bif op == 47 then [100, 44, 32, 99, 44, 32, 49] else bif op == 48 then [100, 44, 32, 99, 44, 32, 105] else bif op == 49 then [100, 44, 32, 99, 44, 32, 105] else bif op == 50 then [100, 44, 32, 99, 44, 32, 105] else bif op == 59 then [100, 44, 32, 40, 49, 41] else fK op
end W

set_option maxRecDepth 100000 in
set_option maxHeartbeats 3200000 in
theorem formK_any (op : Int) (w : World) : Calls Tryz.prog 87 #[.int .i64 op] w fun e w' => e = .returned (.string ⟨(W.fK op).toArray⟩) ∧ Below w.heap.size w w' := by
  obtain ⟨k, hk⟩ : ∃ k, W.kind op = k := ⟨_, rfl⟩
  have HK : Hid (W.kind op = k) := hk
  have hb : Hid (Below w.heap.size w w) := Below.refl _ _
  clear hk
  cases h3 : (k == 3)
  case true =>
    have hv : Hid (W.fK op = [49, 44, 32, 50, 44, 32, 105]) := (by rw [W.fK, HK.out, h3]; rfl : W.fK op = _)
    go_enter Tryz.func87, Tryz.ntmps87
    go_wp2_with (go_at_call 112; refine (kind_any _ _).mono ?_; rintro e w' ⟨rfl, rfl⟩; rw [HK.out])
    go_ret
    exact ⟨by rw [hv.out]; rfl, hb.out⟩
  cases h4 : (k == 4)
  case true =>
    have hv : Hid (W.fK op = [100, 44, 32, 105, 40, 49, 41]) := (by rw [W.fK, HK.out, h3, h4]; rfl : W.fK op = _)
    go_enter Tryz.func87, Tryz.ntmps87
    go_wp2_with (go_at_call 112; refine (kind_any _ _).mono ?_; rintro e w' ⟨rfl, rfl⟩; rw [HK.out])
    go_ret
    exact ⟨by rw [hv.out]; rfl, hb.out⟩
  cases h5 : (k == 5)
  case true =>
    have hv : Hid (W.fK op = [50, 44, 32, 105, 40, 49, 41]) := (by rw [W.fK, HK.out, h3, h4, h5]; rfl : W.fK op = _)
    go_enter Tryz.func87, Tryz.ntmps87
    go_wp2_with (go_at_call 112; refine (kind_any _ _).mono ?_; rintro e w' ⟨rfl, rfl⟩; rw [HK.out])
    go_ret
    exact ⟨by rw [hv.out]; rfl, hb.out⟩
  cases h6 : (k == 6)
  case true =>
    have hv : Hid (W.fK op = [100, 44, 32, 50, 44, 32, 40, 49, 41]) := (by rw [W.fK, HK.out, h3, h4, h5, h6]; rfl : W.fK op = _)
    go_enter Tryz.func87, Tryz.ntmps87
    go_wp2_with (go_at_call 112; refine (kind_any _ _).mono ?_; rintro e w' ⟨rfl, rfl⟩; rw [HK.out])
    go_ret
    exact ⟨by rw [hv.out]; rfl, hb.out⟩
  cases h7 : W.hasImm (W.shp op)
  case true =>
    have hv : Hid (W.fK op = [100, 44, 32, 49, 44, 32, 105]) := (by rw [W.fK, HK.out, h3, h4, h5, h6, h7]; rfl : W.fK op = _)
    go_enter Tryz.func87, Tryz.ntmps87
    go_wp2_with (first
      | (go_at_call 112; refine (kind_any _ _).mono ?_; rintro e w' ⟨rfl, rfl⟩; rw [HK.out])
      | (go_at_call 113; refine (uses_any _ _).mono ?_; rintro e w1 ⟨rfl, hm⟩; have HM : Hid (Below w.heap.size w w1) := hm; clear hm))
    go_ret
    exact ⟨by rw [hv.out]; rfl, HM.out⟩
  cases h8 : (W.shp op).rs2
  case true =>
    have hv : Hid (W.fK op = [100, 44, 32, 49, 44, 32, 50]) := (by rw [W.fK, HK.out, h3, h4, h5, h6, h7, h8]; rfl : W.fK op = _)
    go_enter Tryz.func87, Tryz.ntmps87
    go_wp2_with (first
      | (go_at_call 112; refine (kind_any _ _).mono ?_; rintro e w' ⟨rfl, rfl⟩; rw [HK.out])
      | (go_at_call 113; refine (uses_any _ _).mono ?_; rintro e w1 ⟨rfl, hm⟩; have HM : Hid (Below w.heap.size w w1) := hm; clear hm))
    go_ret
    exact ⟨by rw [hv.out]; rfl, HM.out⟩
  case false =>
    have hv : Hid (W.fK op = []) := (by rw [W.fK, HK.out, h3, h4, h5, h6, h7, h8]; rfl : W.fK op = _)
    go_enter Tryz.func87, Tryz.ntmps87
    go_wp2_with (first
      | (go_at_call 112; refine (kind_any _ _).mono ?_; rintro e w' ⟨rfl, rfl⟩; rw [HK.out])
      | (go_at_call 113; refine (uses_any _ _).mono ?_; rintro e w1 ⟨rfl, hm⟩; have HM : Hid (Below w.heap.size w w1) := hm; clear hm))
    go_ret
    exact ⟨by rw [hv.out]; rfl, HM.out⟩

set_option maxRecDepth 100000 in
set_option maxHeartbeats 6400000 in
theorem form_any (op : Int) (w : World) : Calls Tryz.prog 55 #[.int .i64 op] w fun e w' => e = .returned (.string ⟨(W.form op).toArray⟩) ∧ Below w.heap.size w w' := by
  have hb : Hid (Below w.heap.size w w) := Below.refl _ _
  cases h1 : (op == 1)
  case true =>
    obtain rfl := beq_iff_eq.1 h1
    go_enter Tryz.func55, Tryz.ntmps55
    go_wp2
    go_ret
    exact ⟨rfl, hb.out⟩
  cases h2 : (op == 2)
  case true =>
    obtain rfl := beq_iff_eq.1 h2
    go_enter Tryz.func55, Tryz.ntmps55
    go_wp2
    go_ret
    exact ⟨rfl, hb.out⟩
  cases h3 : (op == 3)
  case true =>
    obtain rfl := beq_iff_eq.1 h3
    go_enter Tryz.func55, Tryz.ntmps55
    go_wp2
    go_ret
    exact ⟨rfl, hb.out⟩
  cases h4 : (op == 4)
  case true =>
    obtain rfl := beq_iff_eq.1 h4
    go_enter Tryz.func55, Tryz.ntmps55
    go_wp2
    go_ret
    exact ⟨rfl, hb.out⟩
  cases h38 : (op == 38)
  case true =>
    obtain rfl := beq_iff_eq.1 h38
    go_enter Tryz.func55, Tryz.ntmps55
    go_wp2
    go_ret
    exact ⟨rfl, hb.out⟩
  cases h44 : (op == 44)
  case true =>
    obtain rfl := beq_iff_eq.1 h44
    go_enter Tryz.func55, Tryz.ntmps55
    go_wp2
    go_ret
    exact ⟨rfl, hb.out⟩
  cases h45 : (op == 45)
  case true =>
    obtain rfl := beq_iff_eq.1 h45
    go_enter Tryz.func55, Tryz.ntmps55
    go_wp2
    go_ret
    exact ⟨rfl, hb.out⟩
  cases h46 : (op == 46)
  case true =>
    obtain rfl := beq_iff_eq.1 h46
    go_enter Tryz.func55, Tryz.ntmps55
    go_wp2
    go_ret
    exact ⟨rfl, hb.out⟩
  cases h47 : (op == 47)
  case true =>
    obtain rfl := beq_iff_eq.1 h47
    go_enter Tryz.func55, Tryz.ntmps55
    go_wp2
    go_ret
    exact ⟨rfl, hb.out⟩
  cases h48 : (op == 48)
  case true =>
    obtain rfl := beq_iff_eq.1 h48
    go_enter Tryz.func55, Tryz.ntmps55
    go_wp2
    go_ret
    exact ⟨rfl, hb.out⟩
  cases h49 : (op == 49)
  case true =>
    obtain rfl := beq_iff_eq.1 h49
    go_enter Tryz.func55, Tryz.ntmps55
    go_wp2
    go_ret
    exact ⟨rfl, hb.out⟩
  cases h50 : (op == 50)
  case true =>
    obtain rfl := beq_iff_eq.1 h50
    go_enter Tryz.func55, Tryz.ntmps55
    go_wp2
    go_ret
    exact ⟨rfl, hb.out⟩
  cases h59 : (op == 59)
  case true =>
    obtain rfl := beq_iff_eq.1 h59
    go_enter Tryz.func55, Tryz.ntmps55
    go_wp2
    go_ret
    exact ⟨rfl, hb.out⟩
  have hv : Hid (W.form op = W.fK op) := (by rw [W.form, h1, h2, h3, h4, h38, h44, h45, h46, h47, h48, h49, h50, h59]; rfl : W.form op = W.fK op)
  go_enter Tryz.func55, Tryz.ntmps55
  go_wp2_with (go_at_call 87; refine (formK_any _ _).mono ?_; rintro e w1 ⟨rfl, hm⟩)
  go_ret
  exact ⟨by rw [hv.out]; rfl, hm⟩
end Go.Proofs.YtmihcicepgjogaaGreatDoor

/- What layFields returns: the word of all fields but the immediate. -/
namespace Go.Proofs.YtmihcicepgjogaaGreatDoor
open Go.ChangeShapes Go.WideShapes Go.ChangeAt Go.RowKit
set_option linter.unusedVariables false
set_option linter.unusedSimpArgs false
attribute [local go_sem ↓] Go.wp_at_zero Go.wp_at_succ

abbrev SF (w : World) (i : W.I) (w' : World) : Prop :=
  Below w.heap.size w w' ∧ w.heap.size < w'.heap.size ∧ w'.cell? ⟨w.heap.size, 4, none⟩ = some (.int .i64 i.csr) ∧ w'.cell? ⟨w.heap.size, 6, none⟩ = some (.bool i.aq) ∧ w'.cell? ⟨w.heap.size, 7, none⟩ = some (.bool i.rl)
theorem SF.below {w a b : World} {i : W.I} (h : SF w i a) (hm : Below a.heap.size a b) : SF w i b := by
  obtain ⟨h1, h2, h3, h4, h5⟩ := h
  have q : ∀ j, b.cell? ⟨w.heap.size, j, none⟩ = a.cell? ⟨w.heap.size, j, none⟩ := fun j => hm.cell h2
  refine ⟨h1.trans (hm.mono h1.size), by have := hm.size; omega, ?_⟩
  simp only [q]
  exact ⟨h3, h4, h5⟩
theorem SF.alloc {w a : World} {i : W.I} (h : SF w i a) (o : Obj) : SF w i (a.alloc o) := h.below ((Below.refl _ _).alloc (Nat.le_refl _) _)
theorem SF.start {w w1 : World} {i : W.I} {t : TypeId}
    (hb1 : Below (w.alloc (.cells #[.int .i64 i.op, .int .i64 i.rd, .int .i64 i.rs1, .int .i64 i.rs2, .int .i64 i.csr, .int .u32 i.imm, .bool i.aq, .bool i.rl] t)).heap.size
      (w.alloc (.cells #[.int .i64 i.op, .int .i64 i.rd, .int .i64 i.rs1, .int .i64 i.rs2, .int .i64 i.csr, .int .u32 i.imm, .bool i.aq, .bool i.rl] t)) w1) : SF w i w1.drew := by
  have hs := hb1.size
  simp at hs
  have q : ∀ j, w1.drew.cell? ⟨w.heap.size, j, none⟩ = (w.alloc (.cells #[.int .i64 i.op, .int .i64 i.rd, .int .i64 i.rs1, .int .i64 i.rs2, .int .i64 i.csr, .int .u32 i.imm, .bool i.aq, .bool i.rl] t)).cell? ⟨w.heap.size, j, none⟩ := fun j => hb1.drew.cell (p := ⟨w.heap.size, j, none⟩) (by simp)
  refine ⟨(((Below.refl _ _).alloc (Nat.le_refl _) _).trans (hb1.mono (by simp))).drew, by show w.heap.size < w1.heap.size; omega, ?_⟩
  simp only [q]
  simp [go_sem]

theorem three_cells (w : World) (t : TypeId) (a b c : Int) :
    (∀ j, j < 3 → (w.alloc (.cells #[.int .i64 20, .int .i64 12, .int .u32 a, .int .i64 26, .int .i64 1, .int .u32 b, .int .i64 25, .int .i64 1, .int .u32 c] t)).cell? ⟨w.heap.size, 0 + j * 3, none⟩ = some (.int .i64 (W.gL j)))
    ∧ (∀ j, j < 3 → (w.alloc (.cells #[.int .i64 20, .int .i64 12, .int .u32 a, .int .i64 26, .int .i64 1, .int .u32 b, .int .i64 25, .int .i64 1, .int .u32 c] t)).cell? ⟨w.heap.size, 0 + j * 3 + 1, none⟩ = some (.int .i64 (W.gN j)))
    ∧ (∀ j, j < 3 → (w.alloc (.cells #[.int .i64 20, .int .i64 12, .int .u32 a, .int .i64 26, .int .i64 1, .int .u32 b, .int .i64 25, .int .i64 1, .int .u32 c] t)).cell? ⟨w.heap.size, 0 + j * 3 + 2, none⟩ = some (.int .u32 (W.three a b c j))) := by
  refine ⟨?_, ?_, ?_⟩
  all_goals
    intro j hj
    match j, hj with
    | 0, _ | 1, _ | 2, _ => simp [go_sem, W.gL, W.gN, W.three]

theorem bit_bel (b : Bool) (w : World) : Calls Tryz.prog 84 #[.bool b] w fun e w' => e = .returned (.int .u32 (W.one b)) ∧ Below w.heap.size w w' :=
  (bit_any b w).mono fun e w' ⟨h, hk⟩ => ⟨h, by rw [← hk]; exact Below.refl _ _⟩

set_option maxRecDepth 100000 in
set_option maxHeartbeats 12800000 in
theorem layF_any (i : W.I) (w : World) :
    Calls Tryz.prog 52 #[inV i] w fun e w' => e = .returned (.int .u32 (W.layF i)) ∧ Below w.heap.size w w' := by
  unfold inV
  have eF : Hid (W.layF i = bits .or .u32 (W.pack W.hL W.hN (six 0 (i.rd % 4294967296) 0 (i.rs1 % 4294967296) (i.rs2 % 4294967296) 0) 6) (W.pack W.gL W.gN (W.three (i.csr % 4294967296) (W.one i.aq) (W.one i.rl)) 3)) := rfl
  go_enter Tryz.func52, Tryz.ntmps52
  go_wp2_with (go_at_call 83; refine (join_any _ _ _ _ _ _ _).mono ?_; rintro e w1 ⟨rfl, hb1⟩)
  have hS0 := SF.start hb1
  clear hb1
  go_region_held3 (fun w' => Below w.heap.size w w' ∧ w.heap.size < w'.heap.size ∧ w'.cell? ⟨w.heap.size, 4, none⟩ = some (.int .i64 i.csr) ∧ w'.cell? ⟨w.heap.size, 6, none⟩ = some (.bool i.aq) ∧ w'.cell? ⟨w.heap.size, 7, none⟩ = some (.bool i.rl))
    (first
      | with_reducible assumption
      | (with_reducible refine SF.alloc (w := w) (i := i) ?_ _; with_reducible assumption)
      | (with_reducible refine SF.below (w := w) (i := i) ?_ hm; with_reducible assumption)
      | (refine SF.below (w := w) (i := i) ?_ hm; assumption))
    (first
      | (go_at_call 84; refine (bit_bel _ _).mono ?_; rintro e w' ⟨rfl, hm⟩)
      | (go_at_call 80; refine (pack_any _ 0 3 3 W.gL W.gN (W.three (i.csr % 4294967296) (W.one i.aq) (W.one i.rl)) _ (by decide) (by simp) (three_cells _ _ _ _ _).1 (three_cells _ _ _ _ _).2.1 (three_cells _ _ _ _ _).2.2).mono ?_; rintro e w' ⟨rfl, hm⟩))
  go_wp2
  go_ret
  exact ⟨ret_int eF.out.symm, by (go_split_ands; assumption)⟩

end Go.Proofs.YtmihcicepgjogaaGreatDoor

/- What layImm returns: the word of an immediate alone. -/
namespace Go.Proofs.YtmihcicepgjogaaGreatDoor
open Go.ChangeShapes Go.WideShapes Go.ChangeAt Go.RowKit
set_option linter.unusedVariables false
set_option linter.unusedSimpArgs false

set_option maxHeartbeats 3200000 in
theorem layImm_any (s : W.Sh) (v : Int) (w : World) :
    Calls Tryz.prog 48 #[shV s, .int .u32 v] w fun e w' => e = .returned (.tuple #[.int .u32 (W.layIV s v), .bool (W.layIB s v)]) ∧ Below w.heap.size w w' := by
  have hb : Below w.heap.size w w := Below.refl _ _
  obtain ⟨fixed, rd, rs1, rs2, csr, ord, fmt, low, size⟩ := s
  unfold shV
  cases h5 : W.hasI fmt size
  · have hr : Hid (W.layIV ⟨fixed, rd, rs1, rs2, csr, ord, fmt, low, size⟩ v = 0 ∧ W.layIB ⟨fixed, rd, rs1, rs2, csr, ord, fmt, low, size⟩ v = true) := by
      have : W.layIV ⟨fixed, rd, rs1, rs2, csr, ord, fmt, low, size⟩ v = 0 ∧ W.layIB ⟨fixed, rd, rs1, rs2, csr, ord, fmt, low, size⟩ v = true := by simp [W.layIV, W.layIB, W.hasImm, h5]
      exact this
    go_enter Tryz.func48, Tryz.ntmps48
    go_wp2_with (go_at_call 79; refine (hasImm_ex _ _ _ _ _ _ _ _ _ _).mono ?_; rintro e w' ⟨rfl, rfl⟩)
    exact bodyPost_ret (v := .tuple #[.int .u32 0, .bool true]) (by simp [results, Tryz.results48, go_sem]) rfl ⟨by rw [hr.out.1, hr.out.2], (hb.alloc hb.size _).alloc (by simp) _⟩
  · cases h6 : decide (0 < size)
    · have hr : Hid (W.layIV ⟨fixed, rd, rs1, rs2, csr, ord, fmt, low, size⟩ v = W.layV fmt v ∧ W.layIB ⟨fixed, rd, rs1, rs2, csr, ord, fmt, low, size⟩ v = W.layB fmt v) := by
        have : W.layIV ⟨fixed, rd, rs1, rs2, csr, ord, fmt, low, size⟩ v = W.layV fmt v ∧ W.layIB ⟨fixed, rd, rs1, rs2, csr, ord, fmt, low, size⟩ v = W.layB fmt v := by simp [W.layIV, W.layIB, W.hasImm, h5, h6]
        exact this
      go_enter Tryz.func48, Tryz.ntmps48
      go_wp2_with (first
        | (go_at_call 79; refine (hasImm_ex _ _ _ _ _ _ _ _ _ _).mono ?_; rintro e w' ⟨rfl, rfl⟩)
        | (go_at_call 82; refine (from_ (lay_any _ _ _) ((hb.alloc hb.size _).alloc (by simp) _)).mono ?_; clear hb; rintro e w' ⟨rfl, hb⟩))
      exact bodyPost_ret (v := .tuple #[.int .u32 (W.layV fmt v), .bool (W.layB fmt v)]) (by simp [results, Tryz.results48, go_sem]) rfl ⟨by rw [hr.out.1, hr.out.2], hb⟩
    · have hr : Hid (W.layIV ⟨fixed, rd, rs1, rs2, csr, ord, fmt, low, size⟩ v = W.lone v low size ∧ W.layIB ⟨fixed, rd, rs1, rs2, csr, ord, fmt, low, size⟩ v = (W.immS ⟨fixed, rd, rs1, rs2, csr, ord, fmt, low, size⟩ (W.lone v low size) == v)) := by
        have : W.layIV ⟨fixed, rd, rs1, rs2, csr, ord, fmt, low, size⟩ v = W.lone v low size ∧ W.layIB ⟨fixed, rd, rs1, rs2, csr, ord, fmt, low, size⟩ v = (W.immS ⟨fixed, rd, rs1, rs2, csr, ord, fmt, low, size⟩ (W.lone v low size) == v) := by simp [W.layIV, W.layIB, W.hasImm, h5, h6]
        exact this
      go_enter Tryz.func48, Tryz.ntmps48
      go_wp2_with (first
        | (go_at_call 79; refine (hasImm_ex _ _ _ _ _ _ _ _ _ _).mono ?_; rintro e w' ⟨rfl, rfl⟩))
      refine (pack_any (w.heap.size + 2) 0 1 1 (fun _ => low) (fun _ => size) (fun _ => v) _ (by decide) (by simp) ?_ ?_ ?_).mono ?_
      · intro j hj; obtain rfl : j = 0 := by omega
        simp [go_sem]
      · intro j hj; obtain rfl : j = 0 := by omega
        simp [go_sem]
      · intro j hj; obtain rfl : j = 0 := by omega
        simp [go_sem]
      rintro e w2 ⟨rfl, hb2⟩
      have c0 := hb2.cell (p := ⟨w.heap.size, 0, none⟩) (by simp; omega)
      simp [go_sem] at c0
      have c1 := hb2.cell (p := ⟨w.heap.size, 1, none⟩) (by simp; omega)
      simp [go_sem] at c1
      have c2 := hb2.cell (p := ⟨w.heap.size, 2, none⟩) (by simp; omega)
      simp [go_sem] at c2
      have c3 := hb2.cell (p := ⟨w.heap.size, 3, none⟩) (by simp; omega)
      simp [go_sem] at c3
      have c4 := hb2.cell (p := ⟨w.heap.size, 4, none⟩) (by simp; omega)
      simp [go_sem] at c4
      have c5 := hb2.cell (p := ⟨w.heap.size, 5, none⟩) (by simp; omega)
      simp [go_sem] at c5
      have c6 := hb2.cell (p := ⟨w.heap.size, 6, none⟩) (by simp; omega)
      simp [go_sem] at c6
      have c7 := hb2.cell (p := ⟨w.heap.size, 7, none⟩) (by simp; omega)
      simp [go_sem] at c7
      have c8 := hb2.cell (p := ⟨w.heap.size, 8, none⟩) (by simp; omega)
      simp [go_sem] at c8
      have hb3 : Below w.heap.size w w2 := (((hb.alloc hb.size _).alloc (by simp) _).alloc (by simp; omega) _).trans (hb2.mono (by simp; omega))
      clear hb2 hb
      have eL : Hid (W.lone v low size = W.pack (fun _ => low) (fun _ => size) (fun _ => v) 1) := rfl
      go_wp2_with (go_at_call 81; refine (from_ (immS_any ⟨fixed, rd, rs1, rs2, csr, ord, fmt, low, size⟩ _ _) hb3).mono ?_; clear hb3; rintro e w3 ⟨rfl, hb3⟩)
      exact bodyPost_ret (v := .tuple #[.int .u32 (W.lone v low size), .bool (W.immS ⟨fixed, rd, rs1, rs2, csr, ord, fmt, low, size⟩ (W.lone v low size) == v)]) (by simp [results, Tryz.results48, go_sem, eL.out]) rfl ⟨by rw [hr.out.1, hr.out.2], hb3⟩

end Go.Proofs.YtmihcicepgjogaaGreatDoor

/- What Encode returns. -/
namespace Go.Proofs.YtmihcicepgjogaaGreatDoor
open Go.ChangeShapes Go.WideShapes Go.ChangeAt Go.RowKit
set_option linter.unusedVariables false
set_option linter.unusedSimpArgs false
attribute [local go_sem ↓] Go.wp_at_zero Go.wp_at_succ

/-- The block of an error's variable. -/
def gl (j : Nat) : Nat := [1, 2, 3, 6, 7, 0, 8, 9, 10, 11, 12].getD j 0
/-- The document's errors lie where the program laid them: each a pointer of its own. -/
structure Sent (A : Nat → Addr) (w : World) : Prop where
  cell : ∀ j, j < 11 → w.cell? ⟨gl j, 0, none⟩ = some (.iface 194 (.pointer (some (A j))))
  apart : ∀ i j, i < 11 → j < 11 → A i = A j → i = j
  held : ∀ j, j < 11 → ∃ c t, w.heap[(A j).block]? = some (.cells c t (0, 0))
theorem Sent.below {A : Nat → Addr} {a b : World} (h : Sent A a) (hm : Below a.heap.size a b) : Sent A b where
  cell := fun j hj => (hm.cell (p := ⟨gl j, 0, none⟩) (World.block_lt_of_cell? _ _ (h.cell j hj))).trans (h.cell j hj)
  apart := h.apart
  held := fun j hj => by
    obtain ⟨c, t, hc⟩ := h.held j hj
    exact ⟨c, t, (hm.block _ (Array.getElem?_eq_some_iff.1 hc).1).trans hc⟩
def errV (A : Nat → Addr) : Nat → Value
  | 0 => .nilIface
  | k + 1 => .iface 194 (.pointer (some (A k)))

theorem idx_at (k : Nat) (hk : k < 70) (w : World) : (Instr.index 91 (.agg codesA) (.int .i64 k)).run Tryz.prog w = .ok (.int .u32 (W.code k)) w := by
  unfold Instr.index
  simp [go_sem]
  rw [if_pos hk, codesA_at k hk]
  rfl

/-- The instruction lies in block g. -/
def InAt (g : Nat) (i : W.I) (w' : World) : Prop :=
  w'.cell? ⟨g, 0, none⟩ = some (.int .i64 i.op) ∧ w'.cell? ⟨g, 1, none⟩ = some (.int .i64 i.rd) ∧ w'.cell? ⟨g, 2, none⟩ = some (.int .i64 i.rs1) ∧ w'.cell? ⟨g, 3, none⟩ = some (.int .i64 i.rs2) ∧ w'.cell? ⟨g, 4, none⟩ = some (.int .i64 i.csr) ∧ w'.cell? ⟨g, 5, none⟩ = some (.int .u32 i.imm) ∧ w'.cell? ⟨g, 6, none⟩ = some (.bool i.aq) ∧ w'.cell? ⟨g, 7, none⟩ = some (.bool i.rl)
def ShAt (g : Nat) (s : W.Sh) (w' : World) : Prop :=
  w'.cell? ⟨g, 0, none⟩ = some (.int .u32 s.fixed) ∧ w'.cell? ⟨g, 1, none⟩ = some (.bool s.rd) ∧ w'.cell? ⟨g, 2, none⟩ = some (.bool s.rs1) ∧ w'.cell? ⟨g, 3, none⟩ = some (.bool s.rs2) ∧ w'.cell? ⟨g, 4, none⟩ = some (.bool s.csr) ∧ w'.cell? ⟨g, 5, none⟩ = some (.bool s.ord) ∧ w'.cell? ⟨g, 6, none⟩ = some (.int .u8 s.fmt) ∧ w'.cell? ⟨g, 7, none⟩ = some (.int .i64 s.low) ∧ w'.cell? ⟨g, 8, none⟩ = some (.int .i64 s.size)
theorem InAt.below {g : Nat} {i : W.I} {a b : World} (h : InAt g i a) (hm : Below a.heap.size a b) : InAt g i b := by
  have hg := World.block_lt_of_cell? _ _ h.1
  have q : ∀ j, b.cell? ⟨g, j, none⟩ = a.cell? ⟨g, j, none⟩ := fun j => hm.cell hg
  unfold InAt
  simp only [q]
  exact h
theorem ShAt.below {g : Nat} {s : W.Sh} {a b : World} (h : ShAt g s a) (hm : Below a.heap.size a b) : ShAt g s b := by
  have hg := World.block_lt_of_cell? _ _ h.1
  have q : ∀ j, b.cell? ⟨g, j, none⟩ = a.cell? ⟨g, j, none⟩ := fun j => hm.cell hg
  unfold ShAt
  simp only [q]
  exact h
theorem InAt.start (w : World) (i : W.I) (t : TypeId) : InAt w.heap.size i (w.alloc (.cells #[.int .i64 i.op, .int .i64 i.rd, .int .i64 i.rs1, .int .i64 i.rs2, .int .i64 i.csr, .int .u32 i.imm, .bool i.aq, .bool i.rl] t)) := by
  unfold InAt; simp [go_sem]
theorem ShAt.start (w : World) (s : W.Sh) (t : TypeId) : ShAt w.heap.size s (w.alloc (.cells #[.int .u32 s.fixed, .bool s.rd, .bool s.rs1, .bool s.rs2, .bool s.csr, .bool s.ord, .int .u8 s.fmt, .int .i64 s.low, .int .i64 s.size] t)) := by
  unfold ShAt; simp [go_sem]

/-- Encode where the op is none. -/
theorem encode_kind (A : Nat → Addr) (i : W.I) (w : World) (hS : Sent A w) (h1 : W.known i.op = false) :
    Calls Tryz.prog 25 #[inV i] w fun e w' => e = .returned (.tuple #[.int .u32 0, errV A 1]) ∧ Below w.heap.size w w' := by
  unfold inV
  have c0 : w.cell? ⟨1, 0, none⟩ = some _ := hS.cell 0 (by omega)
  have hw : 1 < w.heap.size := World.block_lt_of_cell? _ _ c0
  have HS : Hid (Sent A w) := hS
  clear hS
  go_enter Tryz.func25, Tryz.ntmps25
  go_wp2_with (go_at_call 46; refine (known_any _ _).mono ?_; rintro e w' ⟨rfl, rfl⟩)
  go_quiet (fail)
  go_wp2
  exact bodyPost_ret (v := .tuple #[.int .u32 0, errV A 1]) (by simp [results, Tryz.results25, go_sem, errV]) rfl ⟨rfl, below_drewN ((Below.refl _ _).alloc (Nat.le_refl _) _) _⟩

theorem enc1 {w w1 : World} {i : W.I} {t : TypeId} (hb1 : Below (w.alloc (.cells #[.int .i64 i.op, .int .i64 i.rd, .int .i64 i.rs1, .int .i64 i.rs2, .int .i64 i.csr, .int .u32 i.imm, .bool i.aq, .bool i.rl] t)).heap.size (w.alloc (.cells #[.int .i64 i.op, .int .i64 i.rd, .int .i64 i.rs1, .int .i64 i.rs2, .int .i64 i.csr, .int .u32 i.imm, .bool i.aq, .bool i.rl] t)) w1) :
    Below w.heap.size w w1 ∧ w.heap.size < w1.heap.size ∧ InAt w.heap.size i w1 := by
  have hz := hb1.size
  simp at hz
  exact ⟨((Below.refl _ _).alloc (Nat.le_refl _) _).trans (hb1.mono (by simp)), by omega, (InAt.start w i t).below hb1⟩
/-- What holds while Encode goes on: the instruction lies in a block of its own, its shape in another. -/
structure St (A : Nat → Addr) (i : W.I) (s : W.Sh) (N : Nat) (w wc : World) : Prop where
  bel : Below w.heap.size w wc
  lt : w.heap.size < N
  lt2 : N < wc.heap.size
  inst : InAt w.heap.size i wc
  shape : ShAt N s wc
  sent : Sent A wc
theorem St.below {A : Nat → Addr} {i : W.I} {s : W.Sh} {N : Nat} {w a b : World} (h : St A i s N w a) (hm : Below a.heap.size a b) : St A i s N w b :=
  ⟨h.bel.trans (hm.mono h.bel.size), h.lt, Nat.lt_of_lt_of_le h.lt2 hm.size, h.inst.below hm, h.shape.below hm, h.sent.below hm⟩
theorem St.start {A : Nat → Addr} {i : W.I} {w w1 : World} {t : TypeId} (s : W.Sh) (hS : Sent A w) (h : Below w.heap.size w w1 ∧ w.heap.size < w1.heap.size ∧ InAt w.heap.size i w1) :
    St A i s w1.heap.size w (w1.alloc (.cells #[.int .u32 s.fixed, .bool s.rd, .bool s.rs1, .bool s.rs2, .bool s.csr, .bool s.ord, .int .u8 s.fmt, .int .i64 s.low, .int .i64 s.size] t)) :=
  ⟨h.1.alloc (by omega) _, h.2.1, by simp, h.2.2.below ((Below.refl _ _).alloc (Nat.le_refl _) _), ShAt.start _ _ _, (hS.below h.1).below ((Below.refl _ _).alloc (Nat.le_refl _) _)⟩

set_option maxHeartbeats 3200000 in
/-- Encode where the immediate has no room. -/
theorem encode_imm (A : Nat → Addr) (i : W.I) (w : World) (hS : Sent A w) (h1 : W.known i.op = true) (h2 : W.layIB (W.shp i.op) i.imm = false) :
    Calls Tryz.prog 25 #[inV i] w fun e w' => e = .returned (.tuple #[.int .u32 0, errV A 2]) ∧ Below w.heap.size w w' := by
  unfold inV
  have HS : Hid (Sent A w) := hS
  clear hS
  go_enter Tryz.func25, Tryz.ntmps25
  go_wp2_with (first
    | (go_at_call 46; refine (known_any _ _).mono ?_; rintro e w' ⟨rfl, rfl⟩)
    | (go_at_call 47; refine (shapeOf_any _ _).mono ?_; rintro e w1 ⟨rfl, hb1⟩; have hE := enc1 hb1; clear hb1; have hT : Hid (∀ t, St A i (W.shp i.op) w1.heap.size w (w1.alloc (.cells _ t))) := fun t => St.start (t := t) (W.shp i.op) HS.out hE; obtain ⟨hq1, hq2, x0, x1, x2, x3, x4, x5, x6, x7⟩ := hE; unfold shV)
    | (go_at_call 48; refine (layImm_any (W.shp i.op) _ _).mono ?_; rintro e w2 ⟨rfl, hb2⟩; have hU := (hT.out _).below hb2; clear hb2; have c1 : w2.cell? ⟨2, 0, none⟩ = some _ := hU.sent.cell 1 (by omega); have hB := hU.bel; clear hU))
  go_quiet (fail)
  go_wp2
  exact bodyPost_ret (v := .tuple #[.int .u32 0, errV A 2]) (by simp [results, Tryz.results25, go_sem, errV]) rfl ⟨rfl, below_drewN hB _⟩

set_option maxHeartbeats 3200000 in
/-- Encode where a field has no room. -/
theorem encode_range (A : Nat → Addr) (i : W.I) (w : World) (hS : Sent A w) (h1 : W.known i.op = true) (h2 : W.layIB (W.shp i.op) i.imm = true) (h3 : W.inRange i = false) :
    Calls Tryz.prog 25 #[inV i] w fun e w' => e = .returned (.tuple #[.int .u32 0, errV A 2]) ∧ Below w.heap.size w w' := by
  unfold inV
  have HS : Hid (Sent A w) := hS
  clear hS
  go_enter Tryz.func25, Tryz.ntmps25
  go_wp2_with (first
    | (go_at_call 46; refine (known_any _ _).mono ?_; rintro e w' ⟨rfl, rfl⟩)
    | (go_at_call 47; refine (shapeOf_any _ _).mono ?_; rintro e w1 ⟨rfl, hb1⟩; have hE := enc1 hb1; clear hb1; have hT : Hid (∀ t, St A i (W.shp i.op) w1.heap.size w (w1.alloc (.cells _ t))) := fun t => St.start (t := t) (W.shp i.op) HS.out hE; obtain ⟨hq1, hq2, x0, x1, x2, x3, x4, x5, x6, x7⟩ := hE; unfold shV)
    | (go_at_call 48; refine (layImm_any (W.shp i.op) _ _).mono ?_; rintro e w2 ⟨rfl, hb2⟩; have hU : Hid (St A i (W.shp i.op) w1.heap.size w w2) := (hT.out _).below hb2; clear hb2; obtain ⟨y0, y1, y2, y3, y4, y5, y6, y7⟩ := hU.out.inst)
    | (go_at_call 49; refine (inRange_any i _).mono ?_; rintro e w3 ⟨rfl, hb3⟩; have hV := hU.out.below hb3; clear hb3; have c1 : w3.cell? ⟨2, 0, none⟩ = some _ := hV.sent.cell 1 (by omega); have hB := hV.bel; clear hV))
  go_quiet (fail)
  go_wp2
  exact bodyPost_ret (v := .tuple #[.int .u32 0, errV A 2]) (by simp [results, Tryz.results25, go_sem, errV]) rfl ⟨rfl, below_drewN hB _⟩

end Go.Proofs.YtmihcicepgjogaaGreatDoor
