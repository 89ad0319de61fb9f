/- What Encode returns. -/
import Derived.Test.YthbcdlaejefkaaaDoorIsaF
import Derived.Test.YthbcdlaejefkaaaDoorIsaG
import Derived.Test.YthbcdlaejefkaaaDoorIsaH
namespace Go.Proofs.YthbcdlaejefkaaaDoor
open Go.ChangeShapes Go.WideShapes Go.ChangeAt Go.RowKit
set_option linter.unusedVariables false
set_option linter.unusedSimpArgs false
attribute [local go_sem ↓] Go.wp_at_zero Go.wp_at_succ

/-- The document's errors lie where the program laid them: each a pointer of its own. -/
structure Sent (A : Nat → Addr) (w : World) : Prop where
  cell : ∀ j, j < 11 → w.cell? ⟨j, 0, none⟩ = some (.iface 113 (.pointer (some (A j))))
  apart : ∀ i j, i < 11 → j < 11 → A i = A j → i = j
  held : ∀ j, j < 11 → ∃ c t, w.heap[(A j).block]? = some (.cells c t (0, 0))
theorem Sent.below {A : Nat → Addr} {a b : World} (h : Sent A a) (hm : Below a.heap.size a b) : Sent A b where
  cell := fun j hj => (hm.cell (p := ⟨j, 0, none⟩) (World.block_lt_of_cell? _ _ (h.cell j hj))).trans (h.cell j hj)
  apart := h.apart
  held := fun j hj => by
    obtain ⟨c, t, hc⟩ := h.held j hj
    exact ⟨c, t, (hm.block _ (Array.getElem?_eq_some_iff.1 hc).1).trans hc⟩
def errV (A : Nat → Addr) : Nat → Value
  | 0 => .nilIface
  | k + 1 => .iface 113 (.pointer (some (A k)))

theorem idx_at (k : Nat) (hk : k < 70) (w : World) : (Instr.index 56 (.agg codesA) (.int .i64 k)).run Tryd.prog w = .ok (.int .u32 (W.code k)) w := by
  unfold Instr.index
  simp [go_sem]
  rw [if_pos hk, codesA_at k hk]
  rfl

/-- The instruction lies in block g. -/
def InAt (g : Nat) (i : W.I) (w' : World) : Prop :=
  w'.cell? ⟨g, 0, none⟩ = some (.int .i64 i.op) ∧ w'.cell? ⟨g, 1, none⟩ = some (.int .i64 i.rd) ∧ w'.cell? ⟨g, 2, none⟩ = some (.int .i64 i.rs1) ∧ w'.cell? ⟨g, 3, none⟩ = some (.int .i64 i.rs2) ∧ w'.cell? ⟨g, 4, none⟩ = some (.int .i64 i.csr) ∧ w'.cell? ⟨g, 5, none⟩ = some (.int .u32 i.imm) ∧ w'.cell? ⟨g, 6, none⟩ = some (.bool i.aq) ∧ w'.cell? ⟨g, 7, none⟩ = some (.bool i.rl)
def ShAt (g : Nat) (s : W.Sh) (w' : World) : Prop :=
  w'.cell? ⟨g, 0, none⟩ = some (.int .u32 s.fixed) ∧ w'.cell? ⟨g, 1, none⟩ = some (.bool s.rd) ∧ w'.cell? ⟨g, 2, none⟩ = some (.bool s.rs1) ∧ w'.cell? ⟨g, 3, none⟩ = some (.bool s.rs2) ∧ w'.cell? ⟨g, 4, none⟩ = some (.bool s.csr) ∧ w'.cell? ⟨g, 5, none⟩ = some (.bool s.ord) ∧ w'.cell? ⟨g, 6, none⟩ = some (.int .u8 s.fmt) ∧ w'.cell? ⟨g, 7, none⟩ = some (.int .i64 s.low) ∧ w'.cell? ⟨g, 8, none⟩ = some (.int .i64 s.size)
theorem InAt.below {g : Nat} {i : W.I} {a b : World} (h : InAt g i a) (hm : Below a.heap.size a b) : InAt g i b := by
  have hg := World.block_lt_of_cell? _ _ h.1
  have q : ∀ j, b.cell? ⟨g, j, none⟩ = a.cell? ⟨g, j, none⟩ := fun j => hm.cell hg
  unfold InAt
  simp only [q]
  exact h
theorem ShAt.below {g : Nat} {s : W.Sh} {a b : World} (h : ShAt g s a) (hm : Below a.heap.size a b) : ShAt g s b := by
  have hg := World.block_lt_of_cell? _ _ h.1
  have q : ∀ j, b.cell? ⟨g, j, none⟩ = a.cell? ⟨g, j, none⟩ := fun j => hm.cell hg
  unfold ShAt
  simp only [q]
  exact h
theorem InAt.start (w : World) (i : W.I) (t : TypeId) : InAt w.heap.size i (w.alloc (.cells #[.int .i64 i.op, .int .i64 i.rd, .int .i64 i.rs1, .int .i64 i.rs2, .int .i64 i.csr, .int .u32 i.imm, .bool i.aq, .bool i.rl] t)) := by
  unfold InAt; simp [go_sem]
theorem ShAt.start (w : World) (s : W.Sh) (t : TypeId) : ShAt w.heap.size s (w.alloc (.cells #[.int .u32 s.fixed, .bool s.rd, .bool s.rs1, .bool s.rs2, .bool s.csr, .bool s.ord, .int .u8 s.fmt, .int .i64 s.low, .int .i64 s.size] t)) := by
  unfold ShAt; simp [go_sem]

/-- Encode where the op is none. -/
theorem encode_kind (A : Nat → Addr) (i : W.I) (w : World) (hS : Sent A w) (h1 : W.known i.op = false) :
    Calls Tryd.prog 12 #[inV i] w fun e w' => e = .returned (.tuple #[.int .u32 0, errV A 1]) ∧ Below w.heap.size w w' := by
  unfold inV
  have c0 := hS.cell 0 (by omega)
  have hw : 0 < w.heap.size := World.block_lt_of_cell? _ _ c0
  have HS : Hid (Sent A w) := hS
  clear hS
  go_enter Tryd.func12, Tryd.ntmps12
  go_wp2_with (go_at_call 30; refine (known_any _ _).mono ?_; rintro e w' ⟨rfl, rfl⟩)
  go_quiet (fail)
  go_wp2
  exact bodyPost_ret (v := .tuple #[.int .u32 0, errV A 1]) (by simp [results, Tryd.results12, go_sem, errV]) rfl ⟨rfl, below_drewN ((Below.refl _ _).alloc (Nat.le_refl _) _) _⟩

theorem enc1 {w w1 : World} {i : W.I} {t : TypeId} (hb1 : Below (w.alloc (.cells #[.int .i64 i.op, .int .i64 i.rd, .int .i64 i.rs1, .int .i64 i.rs2, .int .i64 i.csr, .int .u32 i.imm, .bool i.aq, .bool i.rl] t)).heap.size (w.alloc (.cells #[.int .i64 i.op, .int .i64 i.rd, .int .i64 i.rs1, .int .i64 i.rs2, .int .i64 i.csr, .int .u32 i.imm, .bool i.aq, .bool i.rl] t)) w1) :
    Below w.heap.size w w1 ∧ w.heap.size < w1.heap.size ∧ InAt w.heap.size i w1 := by
  have hz := hb1.size
  simp at hz
  exact ⟨((Below.refl _ _).alloc (Nat.le_refl _) _).trans (hb1.mono (by simp)), by omega, (InAt.start w i t).below hb1⟩
/-- What holds while Encode goes on: the instruction lies in a block of its own, its shape in another. -/
structure St (A : Nat → Addr) (i : W.I) (s : W.Sh) (N : Nat) (w wc : World) : Prop where
  bel : Below w.heap.size w wc
  lt : w.heap.size < N
  lt2 : N < wc.heap.size
  inst : InAt w.heap.size i wc
  shape : ShAt N s wc
  sent : Sent A wc
theorem St.below {A : Nat → Addr} {i : W.I} {s : W.Sh} {N : Nat} {w a b : World} (h : St A i s N w a) (hm : Below a.heap.size a b) : St A i s N w b :=
  ⟨h.bel.trans (hm.mono h.bel.size), h.lt, Nat.lt_of_lt_of_le h.lt2 hm.size, h.inst.below hm, h.shape.below hm, h.sent.below hm⟩
theorem St.start {A : Nat → Addr} {i : W.I} {w w1 : World} {t : TypeId} (s : W.Sh) (hS : Sent A w) (h : Below w.heap.size w w1 ∧ w.heap.size < w1.heap.size ∧ InAt w.heap.size i w1) :
    St A i s w1.heap.size w (w1.alloc (.cells #[.int .u32 s.fixed, .bool s.rd, .bool s.rs1, .bool s.rs2, .bool s.csr, .bool s.ord, .int .u8 s.fmt, .int .i64 s.low, .int .i64 s.size] t)) :=
  ⟨h.1.alloc (by omega) _, h.2.1, by simp, h.2.2.below ((Below.refl _ _).alloc (Nat.le_refl _) _), ShAt.start _ _ _, (hS.below h.1).below ((Below.refl _ _).alloc (Nat.le_refl _) _)⟩

set_option maxHeartbeats 3200000 in
/-- Encode where the immediate has no room. -/
theorem encode_imm (A : Nat → Addr) (i : W.I) (w : World) (hS : Sent A w) (h1 : W.known i.op = true) (h2 : W.layIB (W.shp i.op) i.imm = false) :
    Calls Tryd.prog 12 #[inV i] w fun e w' => e = .returned (.tuple #[.int .u32 0, errV A 2]) ∧ Below w.heap.size w w' := by
  unfold inV
  have HS : Hid (Sent A w) := hS
  clear hS
  go_enter Tryd.func12, Tryd.ntmps12
  go_wp2_with (first
    | (go_at_call 30; refine (known_any _ _).mono ?_; rintro e w' ⟨rfl, rfl⟩)
    | (go_at_call 25; refine (shapeOf_any _ _).mono ?_; rintro e w1 ⟨rfl, hb1⟩; have hE := enc1 hb1; clear hb1; have hT : Hid (∀ t, St A i (W.shp i.op) w1.heap.size w (w1.alloc (.cells _ t))) := fun t => St.start (t := t) (W.shp i.op) HS.out hE; obtain ⟨hq1, hq2, x0, x1, x2, x3, x4, x5, x6, x7⟩ := hE; unfold shV)
    | (go_at_call 31; refine (layImm_any (W.shp i.op) _ _).mono ?_; rintro e w2 ⟨rfl, hb2⟩; have hU := (hT.out _).below hb2; clear hb2; have c1 := hU.sent.cell 1 (by omega); have hB := hU.bel; clear hU))
  go_quiet (fail)
  go_wp2
  exact bodyPost_ret (v := .tuple #[.int .u32 0, errV A 2]) (by simp [results, Tryd.results12, go_sem, errV]) rfl ⟨rfl, below_drewN hB _⟩

set_option maxHeartbeats 3200000 in
/-- Encode where a field has no room. -/
theorem encode_range (A : Nat → Addr) (i : W.I) (w : World) (hS : Sent A w) (h1 : W.known i.op = true) (h2 : W.layIB (W.shp i.op) i.imm = true) (h3 : W.inRange i = false) :
    Calls Tryd.prog 12 #[inV i] w fun e w' => e = .returned (.tuple #[.int .u32 0, errV A 2]) ∧ Below w.heap.size w w' := by
  unfold inV
  have HS : Hid (Sent A w) := hS
  clear hS
  go_enter Tryd.func12, Tryd.ntmps12
  go_wp2_with (first
    | (go_at_call 30; refine (known_any _ _).mono ?_; rintro e w' ⟨rfl, rfl⟩)
    | (go_at_call 25; refine (shapeOf_any _ _).mono ?_; rintro e w1 ⟨rfl, hb1⟩; have hE := enc1 hb1; clear hb1; have hT : Hid (∀ t, St A i (W.shp i.op) w1.heap.size w (w1.alloc (.cells _ t))) := fun t => St.start (t := t) (W.shp i.op) HS.out hE; obtain ⟨hq1, hq2, x0, x1, x2, x3, x4, x5, x6, x7⟩ := hE; unfold shV)
    | (go_at_call 31; refine (layImm_any (W.shp i.op) _ _).mono ?_; rintro e w2 ⟨rfl, hb2⟩; have hU : Hid (St A i (W.shp i.op) w1.heap.size w w2) := (hT.out _).below hb2; clear hb2; obtain ⟨y0, y1, y2, y3, y4, y5, y6, y7⟩ := hU.out.inst)
    | (go_at_call 32; refine (inRange_any i _).mono ?_; rintro e w3 ⟨rfl, hb3⟩; have hV := hU.out.below hb3; clear hb3; have c1 := hV.sent.cell 1 (by omega); have hB := hV.bel; clear hV))
  go_quiet (fail)
  go_wp2
  exact bodyPost_ret (v := .tuple #[.int .u32 0, errV A 2]) (by simp [results, Tryd.results12, go_sem, errV]) rfl ⟨rfl, below_drewN hB _⟩

end Go.Proofs.YthbcdlaejefkaaaDoor
