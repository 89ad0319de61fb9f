/- Texts in one: IsaD, IsaH, Uses. -/
import Derived.Deep.RegionHeld3
import Derived.Deep.DrawnRows
import Derived.Test.YteilpehekabccabGreatDoorJ07
import Derived.Test.YteilpehekabccabGreatDoorJ08
/- What read returns: the instruction with the fields that a word has. -/
namespace Go.Proofs.YteilpehekabccabGreatDoor
open Go.ChangeShapes Go.WideShapes Go.ChangeAt Go.RowKit
set_option linter.unusedVariables false
set_option linter.unusedSimpArgs false
attribute [local go_sem ↓] Go.wp_at_zero Go.wp_at_succ

/-- A block of n cells that may be written. -/
def Room (b n : Nat) (w : World) : Prop := ∃ c t, w.heap[b]? = some (.cells c t (0, 0)) ∧ c.size = n
theorem Room.below {b n m : Nat} {x y : World} (h : Room b n x) (hm : Below m x y) (hb : b < m) : Room b n y := by
  obtain ⟨c, t, h1, h2⟩ := h
  exact ⟨c, t, (hm.block b hb).trans h1, h2⟩
theorem Room.setCell {b n : Nat} {x : World} (h : Room b n x) (g j : Nat) (v : Value) : Room b n (x.setCell ⟨g, j, none⟩ v) := by
  obtain ⟨c, t, h1, h2⟩ := h
  by_cases hp : g = b
  · subst hp
    exact ⟨c.setIfInBounds j v, t, by rw [setCell_eq_setRow x g j c t (0, 0) v h1]; exact setRow_heap x g c _ t _ h1, by simpa using h2⟩
  · exact ⟨c, t, (Below.heap_setCell _ _ _ _ (fun e => hp e.symm)).trans h1, h2⟩
theorem Room.eight {b : Nat} {x : World} (h : Room b 8 x) : ∃ v0 v1 v2 v3 v4 v5 v6 v7, x.cell? ⟨b, 0, none⟩ = some v0 ∧ x.cell? ⟨b, 1, none⟩ = some v1 ∧ x.cell? ⟨b, 2, none⟩ = some v2 ∧ x.cell? ⟨b, 3, none⟩ = some v3 ∧ x.cell? ⟨b, 4, none⟩ = some v4 ∧ x.cell? ⟨b, 5, none⟩ = some v5 ∧ x.cell? ⟨b, 6, none⟩ = some v6 ∧ x.cell? ⟨b, 7, none⟩ = some v7 ∧ ∀ j, x.frozen? ⟨b, j, none⟩ = false := by
  obtain ⟨c, t, h1, h2⟩ := h
  have hc : ∀ j (hj : j < 8), x.cell? ⟨b, j, none⟩ = some (c[j]'(by omega)) := fun j hj => by simp [World.cell?, h1, h2, hj]
  exact ⟨_, _, _, _, _, _, _, _, hc 0 (by omega), hc 1 (by omega), hc 2 (by omega), hc 3 (by omega), hc 4 (by omega), hc 5 (by omega), hc 6 (by omega), hc 7 (by omega), fun j => by simp [World.frozen?, h1]⟩

abbrev SR (w : World) (N : Nat) (s : W.Sh) (x : Int) (w' : World) : Prop :=
  Below w.heap.size w w' ∧ w.heap.size + 2 ≤ N ∧ N < w'.heap.size ∧ Room (w.heap.size + 1) 8 w' ∧
  w'.cell? ⟨w.heap.size, 0, none⟩ = some (.int .u32 s.fixed) ∧ w'.cell? ⟨w.heap.size, 1, none⟩ = some (.bool s.rd) ∧ w'.cell? ⟨w.heap.size, 2, none⟩ = some (.bool s.rs1) ∧ w'.cell? ⟨w.heap.size, 3, none⟩ = some (.bool s.rs2) ∧ w'.cell? ⟨w.heap.size, 4, none⟩ = some (.bool s.csr) ∧
  w'.cell? ⟨w.heap.size, 5, none⟩ = some (.bool s.ord) ∧ w'.cell? ⟨w.heap.size, 6, none⟩ = some (.int .u8 s.fmt) ∧ w'.cell? ⟨w.heap.size, 7, none⟩ = some (.int .i64 s.low) ∧ w'.cell? ⟨w.heap.size, 8, none⟩ = some (.int .i64 s.size) ∧
  w'.cell? ⟨N, 1, none⟩ = some (.int .u32 (W.bitsOf x 7 5)) ∧ w'.cell? ⟨N, 3, none⟩ = some (.int .u32 (W.bitsOf x 15 5)) ∧ w'.cell? ⟨N, 4, none⟩ = some (.int .u32 (W.bitsOf x 20 5))
theorem SR.next {w a b : World} {N : Nat} {s : W.Sh} {x : Int} (h : SR w N s x a) (hz : a.heap.size ≤ b.heap.size) (hB : Below w.heap.size w b) (hR : Room (w.heap.size + 1) 8 b) (hc : ∀ p : Addr, p.block < a.heap.size → p.block ≠ w.heap.size + 1 → b.cell? p = a.cell? p) : SR w N s x b := by
  obtain ⟨h1, h2, h3, h4, c0, c1, c2, c3, c4, c5, c6, c7, c8, d1, d3, d4⟩ := h
  have q0 : ∀ j, b.cell? ⟨w.heap.size, j, none⟩ = a.cell? ⟨w.heap.size, j, none⟩ := fun j => hc _ (by show w.heap.size < _; omega) (by show w.heap.size ≠ _; omega)
  have q1 : ∀ j, b.cell? ⟨N, j, none⟩ = a.cell? ⟨N, j, none⟩ := fun j => hc _ h3 (by show N ≠ _; omega)
  refine ⟨hB, h2, by omega, hR, ?_⟩
  simp only [q0, q1]
  exact ⟨c0, c1, c2, c3, c4, c5, c6, c7, c8, d1, d3, d4⟩
theorem SR.below {w a b : World} {N : Nat} {s : W.Sh} {x : Int} (h : SR w N s x a) (hm : Below a.heap.size a b) : SR w N s x b :=
  h.next hm.size (h.1.trans (hm.mono h.1.size)) (h.2.2.2.1.below hm (by have := h.2.1; have := h.2.2.1; omega)) (fun p hp _ => hm.cell hp)
theorem SR.drewN {w a : World} {N : Nat} {s : W.Sh} {x : Int} (h : SR w N s x a) (k : Nat) : SR w N s x (a.drewN k) := h.below (below_drewN (Below.refl _ _) k)
theorem SR.drew {w a : World} {N : Nat} {s : W.Sh} {x : Int} (h : SR w N s x a) : SR w N s x a.drew := h.below (Below.refl _ _).drew
theorem SR.set {w a : World} {N : Nat} {s : W.Sh} {x : Int} {j : Nat} {v : Value} (h : SR w N s x a) : SR w N s x (a.setCell ⟨w.heap.size + 1, j, none⟩ v) :=
  h.next (by simp [World.setCell]) (h.1.setCell (by simp) _) (h.2.2.2.1.setCell _ _ _) (fun p _ hp => World.cell?_of_block (w := a) (Below.heap_setCell _ _ _ _ hp))

theorem SR.set8 {w a : World} {N : Nat} {s : W.Sh} {x : Int} (h : SR w N s x a) (v0 v1 v2 v3 v4 v5 v6 v7 : Value) :
    SR w N s x ((((((((a.setCell ⟨w.heap.size + 1, 0, none⟩ v0).setCell ⟨w.heap.size + 1, 1, none⟩ v1).setCell ⟨w.heap.size + 1, 2, none⟩ v2).setCell ⟨w.heap.size + 1, 3, none⟩ v3).setCell ⟨w.heap.size + 1, 4, none⟩ v4).setCell ⟨w.heap.size + 1, 5, none⟩ v5).setCell ⟨w.heap.size + 1, 6, none⟩ v6).setCell ⟨w.heap.size + 1, 7, none⟩ v7) :=
  SR.set (SR.set (SR.set (SR.set (SR.set (SR.set (SR.set (SR.set h)))))))

theorem SR.start {w w1 : World} {s : W.Sh} {x : Int} {t1 t2 t3 : TypeId} {h0 h2 h5 : Value} {z : Array Value} (hz : z.size = 8)
    (hb1 : Below ((w.alloc (.cells #[.int .u32 s.fixed, .bool s.rd, .bool s.rs1, .bool s.rs2, .bool s.csr, .bool s.ord, .int .u8 s.fmt, .int .i64 s.low, .int .i64 s.size] t1)).alloc (.cells z t2)).heap.size
      ((w.alloc (.cells #[.int .u32 s.fixed, .bool s.rd, .bool s.rs1, .bool s.rs2, .bool s.csr, .bool s.ord, .int .u8 s.fmt, .int .i64 s.low, .int .i64 s.size] t1)).alloc (.cells z t2)) w1) :
    SR w w1.heap.size s x (w1.alloc (.cells #[h0, .int .u32 (W.bitsOf x 7 5), h2, .int .u32 (W.bitsOf x 15 5), .int .u32 (W.bitsOf x 20 5), h5] t3)) := by
  have hs := hb1.size
  simp at hs
  have hb : Below w.heap.size w w1 := (((Below.refl _ _).alloc (Nat.le_refl _) _).alloc (by simp) _).trans (hb1.mono (by simp; omega))
  have hr : Room (w.heap.size + 1) 8 w1 := ⟨z, t2, (hb1.block _ (by simp)).trans (by simpa using heap_alloc_last (w.alloc _) _), hz⟩
  have q : ∀ j, (w1.alloc (.cells #[h0, .int .u32 (W.bitsOf x 7 5), h2, .int .u32 (W.bitsOf x 15 5), .int .u32 (W.bitsOf x 20 5), h5] t3)).cell? ⟨w.heap.size, j, none⟩ = (w.alloc (.cells #[.int .u32 s.fixed, .bool s.rd, .bool s.rs1, .bool s.rs2, .bool s.csr, .bool s.ord, .int .u8 s.fmt, .int .i64 s.low, .int .i64 s.size] t1)).cell? ⟨w.heap.size, j, none⟩ := fun j => by
    rw [World.cell?_alloc_past _ _ _ (by show w.heap.size < _; omega), hb1.cell (p := ⟨w.heap.size, j, none⟩) (by simp; omega), World.cell?_alloc_past _ _ _ (by simp)]
  refine ⟨hb.alloc (by omega) _, by omega, by simp, hr.below ((Below.refl _ _).alloc (Nat.le_refl _) _) (by omega), ?_⟩
  simp only [q]
  simp [go_sem]

theorem bits_bel (x low n : Int) (w : World) :
    Calls Tryz.prog 44 #[.int .u32 x, .int .i64 low, .int .i64 n] w fun e w' => e = .returned (.int .u32 (W.bitsOf x low n)) ∧ Below w.heap.size w w' :=
  (bits_any x low n w).mono fun e w' ⟨h, k, hk⟩ => ⟨h, by rw [hk]; exact below_drewN (Below.refl _ _) k⟩

set_option maxRecDepth 100000 in
set_option maxHeartbeats 12800000 in
theorem read_any (s : W.Sh) (hs : W.okSh s = true) (op x : Int) (w : World) :
    Calls Tryz.prog 49 #[shV s, .int .i64 op, .int .u32 x] w fun e w' => e = .returned (inV (W.read s op x)) ∧ Below w.heap.size w w' := by
  have Hs : Hid (W.okSh s = true) := hs
  clear hs
  have i1 : IntKind.i64.wrap (W.bitsOf x 7 5) = W.bitsOf x 7 5 := IntWalk.i64_in _ (by have := W.bitsOf_lt x 7 5; omega)
  have i2 : IntKind.i64.wrap (W.bitsOf x 15 5) = W.bitsOf x 15 5 := IntWalk.i64_in _ (by have := W.bitsOf_lt x 15 5; omega)
  have i3 : IntKind.i64.wrap (W.bitsOf x 20 5) = W.bitsOf x 20 5 := IntWalk.i64_in _ (by have := W.bitsOf_lt x 20 5; omega)
  have i4 : IntKind.i64.wrap (W.bitsOf x 20 12) = W.bitsOf x 20 12 := IntWalk.i64_in _ (by have := W.bitsOf_lt x 20 12; omega)
  unfold shV
  go_enter Tryz.func49, Tryz.ntmps49
  go_wp2_with (go_at_call 65; refine (split_any _ _).mono ?_; rintro e w1 ⟨rfl, hb1⟩; unfold headV)
  have hS0 := (SR.start (x := x) (t3 := 117) (h0 := .int .u32 (W.bitsOf x 0 7)) (h2 := .int .u32 (W.bitsOf x 12 3)) (h5 := .int .u32 (W.bitsOf x 25 7)) rfl hb1).drew
  clear hb1
  go_region_held3 (fun w' => Below w.heap.size w w' ∧ w.heap.size + 2 ≤ w1.heap.size ∧ w1.heap.size < w'.heap.size ∧ Room (w.heap.size + 1) 8 w' ∧
      w'.cell? ⟨w.heap.size, 0, none⟩ = some (.int .u32 s.fixed) ∧ w'.cell? ⟨w.heap.size, 1, none⟩ = some (.bool s.rd) ∧ w'.cell? ⟨w.heap.size, 2, none⟩ = some (.bool s.rs1) ∧ w'.cell? ⟨w.heap.size, 3, none⟩ = some (.bool s.rs2) ∧ w'.cell? ⟨w.heap.size, 4, none⟩ = some (.bool s.csr) ∧
      w'.cell? ⟨w.heap.size, 5, none⟩ = some (.bool s.ord) ∧ w'.cell? ⟨w.heap.size, 6, none⟩ = some (.int .u8 s.fmt) ∧ w'.cell? ⟨w.heap.size, 7, none⟩ = some (.int .i64 s.low) ∧ w'.cell? ⟨w.heap.size, 8, none⟩ = some (.int .i64 s.size) ∧
      w'.cell? ⟨w1.heap.size, 1, none⟩ = some (.int .u32 (W.bitsOf x 7 5)) ∧ w'.cell? ⟨w1.heap.size, 3, none⟩ = some (.int .u32 (W.bitsOf x 15 5)) ∧ w'.cell? ⟨w1.heap.size, 4, none⟩ = some (.int .u32 (W.bitsOf x 20 5)))
    (first
      | with_reducible assumption
      | (with_reducible refine SR.set8 (w := w) (N := w1.heap.size) (s := s) (x := x) ?_ _ _ _ _ _ _ _ _; with_reducible assumption)
      | (with_reducible refine SR.below (w := w) (N := w1.heap.size) (s := s) (x := x) ?_ hm; with_reducible assumption))
    (first
      | (go_at_call 44; refine (bits_bel _ _ _ _).mono ?_; rintro e w' ⟨rfl, hm⟩)
      | (go_at_call 67; refine (immS_any s x _).mono ?_; rintro e w' ⟨rfl, hm⟩)
      | (go_at_call 66; refine (only_any s Hs.out (W.readAll s op x) _).mono ?_; rintro e w' ⟨rfl, hm⟩; obtain ⟨v0, v1, v2, v3, v4, v5, v6, v7, r0, r1, r2, r3, r4, r5, r6, r7, r8⟩ := (SR.below (N := w1.heap.size) (s := s) (x := x) (w := w) (by assumption) hm).2.2.2.1.eight; unfold inV))
  go_wp2
  refine bodyPost_ret (v := inV (W.read s op x)) ?_ rfl ⟨rfl, by (go_split_ands; assumption)⟩
  simp [results, Tryz.results49, go_sem, inV, W.read, r0, r1, r2, r3, r4, r5, r6, r7]

end Go.Proofs.YteilpehekabccabGreatDoor

/- What Decode returns. -/
namespace Go.Proofs.YteilpehekabccabGreatDoor
open Go.ChangeShapes Go.WideShapes Go.ChangeAt Go.RowKit
set_option linter.unusedVariables false
set_option linter.unusedSimpArgs false

/-- The codes lie in block g. -/
def Codes (g : Nat) (w : World) : Prop := g < w.heap.size ∧ ∀ k : Nat, k < 70 → w.cell? ⟨g, k, none⟩ = some (.int .u32 (W.code k))
theorem Codes.below {g : Nat} {a b : World} (h : Codes g a) (hm : Below a.heap.size a b) : Codes g b :=
  ⟨Nat.lt_of_lt_of_le h.1 hm.size, fun k hk => (hm.cell (p := ⟨g, k, none⟩) h.1).trans (h.2 k hk)⟩
theorem codesA_at (k : Nat) (hk : k < 70) : codesA[k]? = some (.int .u32 (W.code k)) := by
  have h : ((List.range 70).all fun k => decide (W.codes[k]? = some (W.code k))) = true := by decide +kernel
  have := List.all_eq_true.1 h k (List.mem_range.2 hk)
  simp at this
  simp [codesA, this]
theorem Codes.start (w : World) (t : TypeId) : Codes w.heap.size (w.alloc (.cells codesA t)) :=
  ⟨by simp, fun k hk => (cell_of_row _ _ k codesA t (0, 0) (heap_alloc_last w _)).trans (codesA_at k hk)⟩

theorem decFrom_step {x : Int} {k : Nat} (hk : k ≤ 69) : W.decFrom x k (70 - k) = bif W.hit x k then k else W.decFrom x (k + 1) (70 - (k + 1)) := by
  have : 70 - k = (70 - (k + 1)) + 1 := by omega
  rw [this, W.decFrom]

set_option maxRecDepth 100000 in
set_option maxHeartbeats 6400000 in
theorem decode_any (x : Int) (w : World) :
    Calls Tryz.prog 34 #[.int .u32 x] w fun e w' => e = .returned (.tuple #[inV (W.decI x), .bool (W.decB x)]) ∧ Below w.heap.size w w' := by
  have hst : ∀ w : World, (storeCells ⟨w.heap.size, 0, none⟩ codesA.toList 0).run Tryz.prog (w.alloc (.cells Tryz.zeroCells96 96)) = .ok () (w.alloc (.cells codesA 96)) := fun w =>
    run_storeCells_new w 96 _ _ (by kernel_rfl) (by kernel_rfl) (by kernel_rfl)
  have hn : codesA.size = 70 := by kernel_rfl
  go_enter Tryz.func34, Tryz.ntmps34
  go_wp2_with (go_at_call 47; refine (codes_any _).mono ?_; rintro e w1 ⟨rfl, hb1⟩)
  have hz := hb1.size
  simp at hz
  have hb2 : Below w.heap.size w w1 := ((Below.refl _ _).alloc (Nat.le_refl _) _).trans (hb1.mono (by simp))
  have hR : Room w.heap.size 8 w1 := ⟨_, _, (hb1.block _ (by simp)).trans (heap_alloc_last w _), rfl⟩
  clear hb1 hst hn
  go_loopw [5] (fun i wr => ∃ k : Nat, 1 ≤ k ∧ k ≤ 70 ∧ i = .int .i64 k ∧ Below w.heap.size w wr ∧ Codes w1.heap.size wr ∧ Room w.heap.size 8 wr ∧ W.dec x = W.decFrom x k (70 - k)) (fun i _ => 70 - (intOf i).toNat)
  case atStart => exact ⟨1, by omega, by omega, rfl, hb2.alloc (by omega) _, Codes.start _ _, hR.below ((Below.refl _ _).alloc (Nat.le_refl _) _) (by omega), rfl⟩
  case round =>
    obtain ⟨k, hk1, hk2, rfl, hbl, hC, hRr, hD⟩ := hrel
    have HD : Hid (W.dec x = W.decFrom x k (70 - k)) := hD
    have HC : Hid (Codes w1.heap.size wr) := hC
    have HR : Hid (Room w.heap.size 8 wr) := hRr
    clear hD hC hRr hR hb2
    by_cases hk : k ≤ 69
    · have e0 : W.decFrom x k (70 - k) = bif W.hit x k then k else W.decFrom x (k + 1) (70 - (k + 1)) := decFrom_step hk
      have E0 : Hid (W.decFrom x k (70 - k) = bif W.hit x k then k else W.decFrom x (k + 1) (70 - (k + 1))) := e0
      clear e0
      have hc : wr.cell? ⟨w1.heap.size, k, none⟩ = some (.int .u32 (W.code k)) := HC.out.2 k (by omega)
      have hk0 : (0 : Int) ≤ (k : Int) := Int.natCast_nonneg _
      have hk7 : (k : Int) < 70 := by omega
      have hk9 : (k : Int) ≤ 69 := by omega
      cases h1 : (bits .and .u32 (bits .xor .u32 x (W.code k)) 127 != 0)
      · cases h2 : (bits .and .u32 x (W.shp k).fixed == W.code k)
        · have hh : Hid (W.hit x k = false) := by
            have : W.hit x k = false := by simp [W.hit, h1, h2]
            exact this
          go_wp2_with (go_at_call 48; refine (shapeOf_any _ _).mono ?_; rintro e w2 ⟨rfl, hb2⟩; have hc2 : w2.cell? ⟨w1.heap.size, k, none⟩ = some (.int .u32 (W.code k)) := (hb2.cell (p := ⟨w1.heap.size, k, none⟩) HC.out.1).trans hc; have hlt : w1.heap.size < w2.heap.size := Nat.lt_of_lt_of_le HC.out.1 hb2.size; unfold shV)
          go_quiet (fail)
          go_wp2
          go_roundw
          case rel =>
            have hz2 := hbl.size
            have hz3 := HC.out.1
            exact ⟨k + 1, by omega, by omega, by go_num, hbl.trans ((below_drewN (hb2.alloc hb2.size _) nq).mono hbl.size), HC.out.below (below_drewN (hb2.alloc hb2.size _) nq), HR.out.below (below_drewN (hb2.alloc hb2.size _) nq) (by omega), by rw [HD.out, E0.out, hh.out]; rfl⟩
          case measure => simp [intOf]; omega
        · have hh : Hid (W.hit x k = true) := by
            have : W.hit x k = true := by simp [W.hit, h1, h2]
            exact this
          have hd : Hid (W.dec x = k) := by
            have : W.dec x = k := by rw [HD.out, E0.out, hh.out]; rfl
            exact this
          have hz2 := hbl.size
          have hz3 := HC.out.1
          go_wp2_with (go_at_call 48; refine (shapeOf_any _ _).mono ?_; rintro e w2 ⟨rfl, hb2⟩; have hc2 : w2.cell? ⟨w1.heap.size, k, none⟩ = some (.int .u32 (W.code k)) := (hb2.cell (p := ⟨w1.heap.size, k, none⟩) HC.out.1).trans hc; have hlt : w1.heap.size < w2.heap.size := Nat.lt_of_lt_of_le HC.out.1 hb2.size; unfold shV)
          go_quiet (fail)
          go_wp2_with (go_at_call 49; refine (read_any (W.shp k) (W.okSh_shp k) k x _).mono ?_; rintro e w3 ⟨rfl, hb3⟩; have hq : Below wr.heap.size wr w3 := (below_drewN (hb2.alloc hb2.size _) nq).trans (hb3.mono (by have := hb2.size; simp; omega)); obtain ⟨v0, v1, v2, v3, v4, v5, v6, v7, r0, r1, r2, r3, r4, r5, r6, r7, r8⟩ := (HR.out.below hq (by omega)).eight; unfold inV)
          refine bodyPost_ret (v := .tuple #[inV (W.read (W.shp k) k x), .bool true]) ?_ rfl ⟨?_, ?_⟩
          · simp [results, Tryz.results34, go_sem, inV, r0, r1, r2, r3, r4, r5, r6, r7]
          · rw [W.decI, W.decB, hd.out]
            have : (k != 0) = true := by simp; omega
            rw [this]
          · exact ((((((((hbl.trans (hq.mono hbl.size)).setCell (Nat.le_refl _) _).setCell (Nat.le_refl _) _).setCell (Nat.le_refl _) _).setCell (Nat.le_refl _) _).setCell (Nat.le_refl _) _).setCell (Nat.le_refl _) _).setCell (Nat.le_refl _) _).setCell (Nat.le_refl _) _
      · have hh : Hid (W.hit x k = false) := by
          have : W.hit x k = false := by simp [W.hit, h1]
          exact this
        go_wp2
        go_roundw
        case rel => exact ⟨k + 1, by omega, by omega, by go_num, hbl, HC.out, HR.out, by rw [HD.out, E0.out, hh.out]; rfl⟩
        case measure => simp [intOf]; omega
    · have hk70 : k = 70 := by omega
      have hd : Hid (W.dec x = 0) := by
        have : W.dec x = 0 := by rw [HD.out, hk70]; rfl
        exact this
      have hk7 : ¬ (k : Int) ≤ 69 := by omega
      clear hk70 HD hk hk1 hk2
      obtain ⟨v0, v1, v2, v3, v4, v5, v6, v7, r0, r1, r2, r3, r4, r5, r6, r7, r8⟩ := HR.out.eight
      go_wp2
      refine bodyPost_ret (v := .tuple #[inV ⟨0, 0, 0, 0, 0, 0, false, false⟩, .bool false]) ?_ rfl ⟨?_, ?_⟩
      · simp [results, Tryz.results34, go_sem, inV, r0, r1, r2, r3, r4, r5, r6, r7]
      · rw [W.decI, W.decB, hd.out]
        rfl
      · exact ((((((((hbl).setCell (Nat.le_refl _) _).setCell (Nat.le_refl _) _).setCell (Nat.le_refl _) _).setCell (Nat.le_refl _) _).setCell (Nat.le_refl _) _).setCell (Nat.le_refl _) _).setCell (Nat.le_refl _) _).setCell (Nat.le_refl _) _

end Go.Proofs.YteilpehekabccabGreatDoor

/- What Uses answers. -/
namespace Go.Proofs.YteilpehekabccabGreatDoor
open Go.ChangeShapes Go.WideShapes Go.ChangeAt Go.RowKit
set_option linter.unusedVariables false
set_option linter.unusedSimpArgs false
attribute [local go_sem ↓] Go.wp_at_zero Go.wp_at_succ

abbrev SU (w : World) (n : Nat) (s : W.Sh) (w' : World) : Prop :=
  Below w.heap.size w w' ∧ n < w'.heap.size ∧ w'.cell? ⟨n, 0, none⟩ = some (.int .u32 s.fixed) ∧ w'.cell? ⟨n, 1, none⟩ = some (.bool s.rd) ∧ w'.cell? ⟨n, 2, none⟩ = some (.bool s.rs1) ∧ w'.cell? ⟨n, 3, none⟩ = some (.bool s.rs2) ∧ w'.cell? ⟨n, 4, none⟩ = some (.bool s.csr) ∧ w'.cell? ⟨n, 5, none⟩ = some (.bool s.ord) ∧ w'.cell? ⟨n, 6, none⟩ = some (.int .u8 s.fmt) ∧ w'.cell? ⟨n, 7, none⟩ = some (.int .i64 s.low) ∧ w'.cell? ⟨n, 8, none⟩ = some (.int .i64 s.size)
theorem SU.below {w a b : World} {n : Nat} {s : W.Sh} (h : SU w n s a) (hm : Below a.heap.size a b) : SU w n s b := by
  obtain ⟨h1, h2, h3⟩ := h
  have q : ∀ j, b.cell? ⟨n, j, none⟩ = a.cell? ⟨n, j, none⟩ := fun j => hm.cell h2
  refine ⟨h1.trans (hm.mono h1.size), by have := hm.size; omega, ?_⟩
  simp only [q]
  exact h3
theorem SU.start {w w1 : World} {s : W.Sh} {t : TypeId} (hb : Below w.heap.size w w1) :
    SU w w1.heap.size s ((w1.alloc (.cells #[.int .u32 s.fixed, .bool s.rd, .bool s.rs1, .bool s.rs2, .bool s.csr, .bool s.ord, .int .u8 s.fmt, .int .i64 s.low, .int .i64 s.size] t)).drew) := by
  refine SU.below ⟨hb.alloc hb.size _, by simp, ?_⟩ (Below.refl _ _).drew
  simp [go_sem]

set_option maxRecDepth 100000 in
set_option maxHeartbeats 6400000 in
theorem uses_any (op : Int) (w : World) :
    Calls Tryz.prog 89 #[.int .i64 op] w fun e w' => e = .returned (.tuple #[.bool (W.shp op).rd, .bool (W.shp op).rs1, .bool (W.shp op).rs2, .bool (W.hasImm (W.shp op))]) ∧ Below w.heap.size w w' := by
  generalize hs : W.shp op = s
  have HS : Hid (W.shp op = s) := hs
  clear hs
  go_enter Tryz.func89, Tryz.ntmps89
  go_wp2_with (first
    | (go_at_call 48; refine (shapeOf_any _ _).mono ?_; rintro e w1 ⟨rfl, hb1⟩; rw [HS.out]; unfold shV))
  have hS0 := SU.start (s := s) (t := 99) hb1
  clear hb1
  go_region_held3 (fun w' => Below w.heap.size w w' ∧ w1.heap.size < w'.heap.size ∧ w'.cell? ⟨w1.heap.size, 0, none⟩ = some (.int .u32 s.fixed) ∧ w'.cell? ⟨w1.heap.size, 1, none⟩ = some (.bool s.rd) ∧ w'.cell? ⟨w1.heap.size, 2, none⟩ = some (.bool s.rs1) ∧ w'.cell? ⟨w1.heap.size, 3, none⟩ = some (.bool s.rs2) ∧ w'.cell? ⟨w1.heap.size, 4, none⟩ = some (.bool s.csr) ∧ w'.cell? ⟨w1.heap.size, 5, none⟩ = some (.bool s.ord) ∧ w'.cell? ⟨w1.heap.size, 6, none⟩ = some (.int .u8 s.fmt) ∧ w'.cell? ⟨w1.heap.size, 7, none⟩ = some (.int .i64 s.low) ∧ w'.cell? ⟨w1.heap.size, 8, none⟩ = some (.int .i64 s.size))
    (first
      | with_reducible assumption
      | (with_reducible refine SU.below (w := w) (n := w1.heap.size) (s := s) ?_ hm; with_reducible assumption)
      | (refine SU.below (w := w) (n := w1.heap.size) (s := s) ?_ hm; assumption))
    (first
      | (go_at_call 86; refine (hasImm_any s _).mono ?_; rintro e w' ⟨rfl, hm⟩))
  all_goals
    have hB : Below w.heap.size w w' := by (go_split_ands; assumption)
    go_wp2
    exact bodyPost_ret (v := .tuple #[.bool s.rd, .bool s.rs1, .bool s.rs2, .bool (W.hasImm s)]) (by simp [results, Tryz.results89, go_sem]) rfl ⟨rfl, hB⟩
end Go.Proofs.YteilpehekabccabGreatDoor
