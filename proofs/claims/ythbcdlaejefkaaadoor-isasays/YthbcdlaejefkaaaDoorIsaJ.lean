/- What Encode returns where all fields have room. -/
import Derived.Test.YthbcdlaejefkaaaDoorIsaI
namespace Go.Proofs.YthbcdlaejefkaaaDoor
open Go.ChangeShapes Go.WideShapes Go.ChangeAt Go.RowKit
set_option linter.unusedVariables false
set_option linter.unusedSimpArgs false
attribute [local go_sem ↓] Go.wp_at_zero Go.wp_at_succ

abbrev SE (A : Nat → Addr) (i : W.I) (s : W.Sh) (N : Nat) (w w' : World) : Prop := St A i s N w w' ∧ (w'.cell? ⟨w.heap.size, 0, none⟩ = some (.int .i64 i.op) ∧ w'.cell? ⟨w.heap.size, 1, none⟩ = some (.int .i64 i.rd) ∧ w'.cell? ⟨w.heap.size, 2, none⟩ = some (.int .i64 i.rs1) ∧ w'.cell? ⟨w.heap.size, 3, none⟩ = some (.int .i64 i.rs2) ∧ w'.cell? ⟨w.heap.size, 4, none⟩ = some (.int .i64 i.csr) ∧ w'.cell? ⟨w.heap.size, 5, none⟩ = some (.int .u32 i.imm) ∧ w'.cell? ⟨w.heap.size, 6, none⟩ = some (.bool i.aq) ∧ w'.cell? ⟨w.heap.size, 7, none⟩ = some (.bool i.rl)) ∧ (w'.cell? ⟨N, 0, none⟩ = some (.int .u32 s.fixed) ∧ w'.cell? ⟨N, 1, none⟩ = some (.bool s.rd) ∧ w'.cell? ⟨N, 2, none⟩ = some (.bool s.rs1) ∧ w'.cell? ⟨N, 3, none⟩ = some (.bool s.rs2) ∧ w'.cell? ⟨N, 4, none⟩ = some (.bool s.csr) ∧ w'.cell? ⟨N, 5, none⟩ = some (.bool s.ord) ∧ w'.cell? ⟨N, 6, none⟩ = some (.int .u8 s.fmt) ∧ w'.cell? ⟨N, 7, none⟩ = some (.int .i64 s.low) ∧ w'.cell? ⟨N, 8, none⟩ = some (.int .i64 s.size))
theorem SE.of {A : Nat → Addr} {i : W.I} {s : W.Sh} {N : Nat} {w w' : World} (h : St A i s N w w') : SE A i s N w w' := ⟨h, h.inst, h.shape⟩
theorem SE.below {A : Nat → Addr} {i : W.I} {s : W.Sh} {N : Nat} {w a b : World} (h : SE A i s N w a) (hm : Below a.heap.size a b) : SE A i s N w b := SE.of (h.1.below hm)

theorem neq_inst (a b : W.I) (w : World) : (binOp .neq 24 (inV a) (inV b)).run Tryd.prog w = .ok (.bool (!W.same a b)) w := by
  unfold inV W.same
  by_cases h0 : a.op = b.op
  · by_cases h1 : a.rd = b.rd
    · by_cases h2 : a.rs1 = b.rs1
      · by_cases h3 : a.rs2 = b.rs2
        · by_cases h4 : a.csr = b.csr
          · by_cases h5 : a.imm = b.imm
            · by_cases h6 : a.aq = b.aq
              · by_cases h7 : a.rl = b.rl
                · simp [go_sem, h0, h1, h2, h3, h4, h5, h6, h7]
                · simp [go_sem, h0, h1, h2, h3, h4, h5, h6, h7]
              · simp [go_sem, h0, h1, h2, h3, h4, h5, h6]
            · simp [go_sem, h0, h1, h2, h3, h4, h5]
          · simp [go_sem, h0, h1, h2, h3, h4]
        · simp [go_sem, h0, h1, h2, h3]
      · simp [go_sem, h0, h1, h2]
    · simp [go_sem, h0, h1]
  · simp [go_sem, h0]

set_option maxRecDepth 100000 in
set_option maxHeartbeats 6400000 in
/-- Encode where a field is told that the op has no use for. -/
theorem encode_shape (A : Nat → Addr) (i : W.I) (w : World) (hS : Sent A w) (h1 : W.known i.op = true) (h2 : W.layIB (W.shp i.op) i.imm = true) (h3 : W.inRange i = true) (h4 : W.same (W.only (W.shp i.op) i) i = false) :
    Calls Tryd.prog 12 #[inV i] w fun e w' => e = .returned (.tuple #[.int .u32 0, errV A 3]) ∧ Below w.heap.size w w' := by
  have hcmp : ∀ w, (binOp .neq 24 (.agg #[.int .i64 (W.only (W.shp i.op) i).op, .int .i64 (W.only (W.shp i.op) i).rd, .int .i64 (W.only (W.shp i.op) i).rs1, .int .i64 (W.only (W.shp i.op) i).rs2, .int .i64 (W.only (W.shp i.op) i).csr, .int .u32 (W.only (W.shp i.op) i).imm, .bool (W.only (W.shp i.op) i).aq, .bool (W.only (W.shp i.op) i).rl]) (.agg #[.int .i64 i.op, .int .i64 i.rd, .int .i64 i.rs1, .int .i64 i.rs2, .int .i64 i.csr, .int .u32 i.imm, .bool i.aq, .bool i.rl])).run Tryd.prog w = .ok (.bool true) w := fun w => by
    have := neq_inst (W.only (W.shp i.op) i) i w
    rw [h4] at this
    exact this
  clear h4
  unfold inV
  have HS : Hid (Sent A w) := hS
  clear hS
  go_enter Tryd.func12, Tryd.ntmps12
  go_wp2_with (first
    | (go_at_call 30; refine (known_any _ _).mono ?_; rintro e w' ⟨rfl, rfl⟩)
    | (go_at_call 25; refine (shapeOf_any _ _).mono ?_; rintro e w1 ⟨rfl, hb1⟩; have hE := enc1 hb1; clear hb1; have hT : Hid (∀ t, St A i (W.shp i.op) w1.heap.size w (w1.alloc (.cells _ t))) := fun t => St.start (t := t) (W.shp i.op) HS.out hE; obtain ⟨hq1, hq2, x0, x1, x2, x3, x4, x5, x6, x7⟩ := hE; unfold shV)
    | (go_at_call 31; refine (layImm_any (W.shp i.op) _ _).mono ?_; rintro e w2 ⟨rfl, hb2⟩; have hU : Hid (St A i (W.shp i.op) w1.heap.size w w2) := (hT.out _).below hb2; clear hb2; obtain ⟨y0, y1, y2, y3, y4, y5, y6, y7⟩ := hU.out.inst)
    | (go_at_call 32; refine (inRange_any i _).mono ?_; rintro e w3 ⟨rfl, hb3⟩; have hV : Hid (St A i (W.shp i.op) w1.heap.size w w3) := hU.out.below hb3; clear hb3))
  have hS0 := SE.of (hV.out.below (Below.refl _ _).drew)
  clear x0 x1 x2 x3 x4 x5 x6 x7 y0 y1 y2 y3 y4 y5 y6 y7 hq1 hq2
  go_region_held3 (fun w' => St A i (W.shp i.op) w1.heap.size w w' ∧ (w'.cell? ⟨w.heap.size, 0, none⟩ = some (.int .i64 i.op) ∧ w'.cell? ⟨w.heap.size, 1, none⟩ = some (.int .i64 i.rd) ∧ w'.cell? ⟨w.heap.size, 2, none⟩ = some (.int .i64 i.rs1) ∧ w'.cell? ⟨w.heap.size, 3, none⟩ = some (.int .i64 i.rs2) ∧ w'.cell? ⟨w.heap.size, 4, none⟩ = some (.int .i64 i.csr) ∧ w'.cell? ⟨w.heap.size, 5, none⟩ = some (.int .u32 i.imm) ∧ w'.cell? ⟨w.heap.size, 6, none⟩ = some (.bool i.aq) ∧ w'.cell? ⟨w.heap.size, 7, none⟩ = some (.bool i.rl)) ∧ (w'.cell? ⟨w1.heap.size, 0, none⟩ = some (.int .u32 (W.shp i.op).fixed) ∧ w'.cell? ⟨w1.heap.size, 1, none⟩ = some (.bool (W.shp i.op).rd) ∧ w'.cell? ⟨w1.heap.size, 2, none⟩ = some (.bool (W.shp i.op).rs1) ∧ w'.cell? ⟨w1.heap.size, 3, none⟩ = some (.bool (W.shp i.op).rs2) ∧ w'.cell? ⟨w1.heap.size, 4, none⟩ = some (.bool (W.shp i.op).csr) ∧ w'.cell? ⟨w1.heap.size, 5, none⟩ = some (.bool (W.shp i.op).ord) ∧ w'.cell? ⟨w1.heap.size, 6, none⟩ = some (.int .u8 (W.shp i.op).fmt) ∧ w'.cell? ⟨w1.heap.size, 7, none⟩ = some (.int .i64 (W.shp i.op).low) ∧ w'.cell? ⟨w1.heap.size, 8, none⟩ = some (.int .i64 (W.shp i.op).size)))
    (first
      | with_reducible assumption
      | (with_reducible refine SE.below (A := A) (i := i) (s := W.shp i.op) (N := w1.heap.size) (w := w) ?_ hm; with_reducible assumption)
      | (refine SE.below (A := A) (i := i) (s := W.shp i.op) (N := w1.heap.size) (w := w) ?_ hm; assumption))
    (first
      | (go_at_call 33; refine (only_any (W.shp i.op) (W.okSh_shp i.op) i _).mono ?_; rintro e w' ⟨rfl, hm⟩; unfold inV))
  have hB : Below w.heap.size w w' := (by (go_split_ands; assumption) : St A i (W.shp i.op) w1.heap.size w w').bel
  have c2 := (by (go_split_ands; assumption) : St A i (W.shp i.op) w1.heap.size w w').sent.cell 2 (by omega)
  clear hcmp
  go_wp2
  go_quiet (fail)
  go_wp2
  exact bodyPost_ret (v := .tuple #[.int .u32 0, errV A 3]) (by simp [results, Tryd.results12, go_sem, errV]) rfl ⟨rfl, below_drewN hB _⟩

set_option maxRecDepth 100000 in
set_option maxHeartbeats 6400000 in
/-- Encode of what has a word. -/
theorem encode_ok (A : Nat → Addr) (i : W.I) (w : World) (hS : Sent A w) (h1 : W.known i.op = true) (h2 : W.layIB (W.shp i.op) i.imm = true) (h3 : W.inRange i = true) (h4 : W.same (W.only (W.shp i.op) i) i = true) :
    Calls Tryd.prog 12 #[inV i] w fun e w' => e = .returned (.tuple #[.int .u32 (bits .or .u32 (bits .or .u32 (W.code i.op.toNat) (W.layIV (W.shp i.op) i.imm)) (W.layF i)), errV A 0]) ∧ Below w.heap.size w w' := by
  have hcmp : ∀ w, (binOp .neq 24 (.agg #[.int .i64 (W.only (W.shp i.op) i).op, .int .i64 (W.only (W.shp i.op) i).rd, .int .i64 (W.only (W.shp i.op) i).rs1, .int .i64 (W.only (W.shp i.op) i).rs2, .int .i64 (W.only (W.shp i.op) i).csr, .int .u32 (W.only (W.shp i.op) i).imm, .bool (W.only (W.shp i.op) i).aq, .bool (W.only (W.shp i.op) i).rl]) (.agg #[.int .i64 i.op, .int .i64 i.rd, .int .i64 i.rs1, .int .i64 i.rs2, .int .i64 i.csr, .int .u32 i.imm, .bool i.aq, .bool i.rl])).run Tryd.prog w = .ok (.bool false) w := fun w => by
    have := neq_inst (W.only (W.shp i.op) i) i w
    rw [h4] at this
    exact this
  clear h4
  have hix : ∀ w, (Instr.index 56 (.agg codesA) (.int .i64 i.op)).run Tryd.prog w = .ok (.int .u32 (W.code i.op.toNat)) w := fun w => by
    have hk : 1 ≤ i.op ∧ i.op ≤ 69 := by simpa [W.known, W.fr] using h1
    have := idx_at i.op.toNat (by omega) w
    rwa [Int.toNat_of_nonneg (by omega)] at this
  unfold inV
  have HS : Hid (Sent A w) := hS
  clear hS
  go_enter Tryd.func12, Tryd.ntmps12
  go_wp2_with (first
    | (go_at_call 30; refine (known_any _ _).mono ?_; rintro e w' ⟨rfl, rfl⟩)
    | (go_at_call 25; refine (shapeOf_any _ _).mono ?_; rintro e w1 ⟨rfl, hb1⟩; have hE := enc1 hb1; clear hb1; have hT : Hid (∀ t, St A i (W.shp i.op) w1.heap.size w (w1.alloc (.cells _ t))) := fun t => St.start (t := t) (W.shp i.op) HS.out hE; obtain ⟨hq1, hq2, x0, x1, x2, x3, x4, x5, x6, x7⟩ := hE; unfold shV)
    | (go_at_call 31; refine (layImm_any (W.shp i.op) _ _).mono ?_; rintro e w2 ⟨rfl, hb2⟩; have hU : Hid (St A i (W.shp i.op) w1.heap.size w w2) := (hT.out _).below hb2; clear hb2; obtain ⟨y0, y1, y2, y3, y4, y5, y6, y7⟩ := hU.out.inst)
    | (go_at_call 32; refine (inRange_any i _).mono ?_; rintro e w3 ⟨rfl, hb3⟩; have hV : Hid (St A i (W.shp i.op) w1.heap.size w w3) := hU.out.below hb3; clear hb3))
  have hS0 := SE.of (hV.out.below (Below.refl _ _).drew)
  clear x0 x1 x2 x3 x4 x5 x6 x7 y0 y1 y2 y3 y4 y5 y6 y7 hq1 hq2
  go_region_held3 (fun w' => St A i (W.shp i.op) w1.heap.size w w' ∧ (w'.cell? ⟨w.heap.size, 0, none⟩ = some (.int .i64 i.op) ∧ w'.cell? ⟨w.heap.size, 1, none⟩ = some (.int .i64 i.rd) ∧ w'.cell? ⟨w.heap.size, 2, none⟩ = some (.int .i64 i.rs1) ∧ w'.cell? ⟨w.heap.size, 3, none⟩ = some (.int .i64 i.rs2) ∧ w'.cell? ⟨w.heap.size, 4, none⟩ = some (.int .i64 i.csr) ∧ w'.cell? ⟨w.heap.size, 5, none⟩ = some (.int .u32 i.imm) ∧ w'.cell? ⟨w.heap.size, 6, none⟩ = some (.bool i.aq) ∧ w'.cell? ⟨w.heap.size, 7, none⟩ = some (.bool i.rl)) ∧ (w'.cell? ⟨w1.heap.size, 0, none⟩ = some (.int .u32 (W.shp i.op).fixed) ∧ w'.cell? ⟨w1.heap.size, 1, none⟩ = some (.bool (W.shp i.op).rd) ∧ w'.cell? ⟨w1.heap.size, 2, none⟩ = some (.bool (W.shp i.op).rs1) ∧ w'.cell? ⟨w1.heap.size, 3, none⟩ = some (.bool (W.shp i.op).rs2) ∧ w'.cell? ⟨w1.heap.size, 4, none⟩ = some (.bool (W.shp i.op).csr) ∧ w'.cell? ⟨w1.heap.size, 5, none⟩ = some (.bool (W.shp i.op).ord) ∧ w'.cell? ⟨w1.heap.size, 6, none⟩ = some (.int .u8 (W.shp i.op).fmt) ∧ w'.cell? ⟨w1.heap.size, 7, none⟩ = some (.int .i64 (W.shp i.op).low) ∧ w'.cell? ⟨w1.heap.size, 8, none⟩ = some (.int .i64 (W.shp i.op).size)))
    (first
      | with_reducible assumption
      | (with_reducible refine SE.below (A := A) (i := i) (s := W.shp i.op) (N := w1.heap.size) (w := w) ?_ hm; with_reducible assumption)
      | (refine SE.below (A := A) (i := i) (s := W.shp i.op) (N := w1.heap.size) (w := w) ?_ hm; assumption))
    (first
      | (go_at_call 33; refine (only_any (W.shp i.op) (W.okSh_shp i.op) i _).mono ?_; rintro e w' ⟨rfl, hm⟩; unfold inV))
  clear hcmp
  have hS1 : SE A i (W.shp i.op) w1.heap.size w w'.drew := SE.of ((by (go_split_ands; assumption) : St A i (W.shp i.op) w1.heap.size w w').below (Below.refl _ _).drew)
  go_wp2
  go_region_held3 (fun w' => St A i (W.shp i.op) w1.heap.size w w' ∧ (w'.cell? ⟨w.heap.size, 0, none⟩ = some (.int .i64 i.op) ∧ w'.cell? ⟨w.heap.size, 1, none⟩ = some (.int .i64 i.rd) ∧ w'.cell? ⟨w.heap.size, 2, none⟩ = some (.int .i64 i.rs1) ∧ w'.cell? ⟨w.heap.size, 3, none⟩ = some (.int .i64 i.rs2) ∧ w'.cell? ⟨w.heap.size, 4, none⟩ = some (.int .i64 i.csr) ∧ w'.cell? ⟨w.heap.size, 5, none⟩ = some (.int .u32 i.imm) ∧ w'.cell? ⟨w.heap.size, 6, none⟩ = some (.bool i.aq) ∧ w'.cell? ⟨w.heap.size, 7, none⟩ = some (.bool i.rl)) ∧ (w'.cell? ⟨w1.heap.size, 0, none⟩ = some (.int .u32 (W.shp i.op).fixed) ∧ w'.cell? ⟨w1.heap.size, 1, none⟩ = some (.bool (W.shp i.op).rd) ∧ w'.cell? ⟨w1.heap.size, 2, none⟩ = some (.bool (W.shp i.op).rs1) ∧ w'.cell? ⟨w1.heap.size, 3, none⟩ = some (.bool (W.shp i.op).rs2) ∧ w'.cell? ⟨w1.heap.size, 4, none⟩ = some (.bool (W.shp i.op).csr) ∧ w'.cell? ⟨w1.heap.size, 5, none⟩ = some (.bool (W.shp i.op).ord) ∧ w'.cell? ⟨w1.heap.size, 6, none⟩ = some (.int .u8 (W.shp i.op).fmt) ∧ w'.cell? ⟨w1.heap.size, 7, none⟩ = some (.int .i64 (W.shp i.op).low) ∧ w'.cell? ⟨w1.heap.size, 8, none⟩ = some (.int .i64 (W.shp i.op).size)))
    (first
      | with_reducible assumption
      | (with_reducible refine SE.below (A := A) (i := i) (s := W.shp i.op) (N := w1.heap.size) (w := w) ?_ hm; with_reducible assumption)
      | (refine SE.below (A := A) (i := i) (s := W.shp i.op) (N := w1.heap.size) (w := w) ?_ hm; assumption))
    (first
      | (go_at_call 24; refine (codes_any _).mono ?_; rintro e w' ⟨rfl, hm⟩)
      | (go_at_call 34; refine (layF_any i _).mono ?_; rintro e w' ⟨rfl, hm⟩))
  all_goals
    have hB : Below w.heap.size w w' := (by (go_split_ands; assumption) : St A i (W.shp i.op) w1.heap.size w w').bel
    go_wp2
    exact bodyPost_ret (v := .tuple #[.int .u32 (bits .or .u32 (bits .or .u32 (W.code i.op.toNat) (W.layIV (W.shp i.op) i.imm)) (W.layF i)), errV A 0]) (by simp [results, Tryd.results12, go_sem, errV]) rfl ⟨rfl, hB⟩

/-- Encode of whatever instruction. -/
theorem encode_any (A : Nat → Addr) (i : W.I) (w : World) (hS : Sent A w) :
    Calls Tryd.prog 12 #[inV i] w fun e w' => e = .returned (.tuple #[.int .u32 (W.encV i), errV A (W.encE i)]) ∧ Below w.heap.size w w' := by
  cases h1 : W.known i.op
  · have e : W.encE i = 1 := by simp [W.encE, h1]
    have := encode_kind A i w hS h1
    rw [W.encV, e]; exact this
  cases h2 : W.layIB (W.shp i.op) i.imm
  · have e : W.encE i = 2 := by simp [W.encE, h1, h2]
    have := encode_imm A i w hS h1 h2
    rw [W.encV, e]; exact this
  cases h3 : W.inRange i
  · have e : W.encE i = 2 := by simp [W.encE, h1, h2, h3]
    have := encode_range A i w hS h1 h2 h3
    rw [W.encV, e]; exact this
  cases h4 : W.same (W.only (W.shp i.op) i) i
  · have e : W.encE i = 3 := by simp [W.encE, h1, h2, h3, h4]
    have := encode_shape A i w hS h1 h2 h3 h4
    rw [W.encV, e]; exact this
  · have e : W.encE i = 0 := by simp [W.encE, h1, h2, h3, h4]
    have := encode_ok A i w hS h1 h2 h3 h4
    rw [W.encV, e]; exact this

end Go.Proofs.YthbcdlaejefkaaaDoor
