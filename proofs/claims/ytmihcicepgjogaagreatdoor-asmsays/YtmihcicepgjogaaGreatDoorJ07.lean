/- Texts in one: IsaJ, See, First. -/
import Derived.LaidEql
import Derived.Test.YtmihcicepgjogaaGreatDoorJ06
/- What Encode returns where all fields have room. -/
namespace Go.Proofs.YtmihcicepgjogaaGreatDoor
open Go.ChangeShapes Go.WideShapes Go.ChangeAt Go.RowKit
set_option linter.unusedVariables false
set_option linter.unusedSimpArgs false
attribute [local go_sem ↓] Go.wp_at_zero Go.wp_at_succ

abbrev SE (A : Nat → Addr) (i : W.I) (s : W.Sh) (N : Nat) (w w' : World) : Prop := St A i s N w w' ∧ (w'.cell? ⟨w.heap.size, 0, none⟩ = some (.int .i64 i.op) ∧ w'.cell? ⟨w.heap.size, 1, none⟩ = some (.int .i64 i.rd) ∧ w'.cell? ⟨w.heap.size, 2, none⟩ = some (.int .i64 i.rs1) ∧ w'.cell? ⟨w.heap.size, 3, none⟩ = some (.int .i64 i.rs2) ∧ w'.cell? ⟨w.heap.size, 4, none⟩ = some (.int .i64 i.csr) ∧ w'.cell? ⟨w.heap.size, 5, none⟩ = some (.int .u32 i.imm) ∧ w'.cell? ⟨w.heap.size, 6, none⟩ = some (.bool i.aq) ∧ w'.cell? ⟨w.heap.size, 7, none⟩ = some (.bool i.rl)) ∧ (w'.cell? ⟨N, 0, none⟩ = some (.int .u32 s.fixed) ∧ w'.cell? ⟨N, 1, none⟩ = some (.bool s.rd) ∧ w'.cell? ⟨N, 2, none⟩ = some (.bool s.rs1) ∧ w'.cell? ⟨N, 3, none⟩ = some (.bool s.rs2) ∧ w'.cell? ⟨N, 4, none⟩ = some (.bool s.csr) ∧ w'.cell? ⟨N, 5, none⟩ = some (.bool s.ord) ∧ w'.cell? ⟨N, 6, none⟩ = some (.int .u8 s.fmt) ∧ w'.cell? ⟨N, 7, none⟩ = some (.int .i64 s.low) ∧ w'.cell? ⟨N, 8, none⟩ = some (.int .i64 s.size))
theorem SE.of {A : Nat → Addr} {i : W.I} {s : W.Sh} {N : Nat} {w w' : World} (h : St A i s N w w') : SE A i s N w w' := ⟨h, h.inst, h.shape⟩
theorem SE.below {A : Nat → Addr} {i : W.I} {s : W.Sh} {N : Nat} {w a b : World} (h : SE A i s N w a) (hm : Below a.heap.size a b) : SE A i s N w b := SE.of (h.1.below hm)

theorem neq_inst (a b : W.I) (w : World) : (binOp .neq 24 (inV a) (inV b)).run Tryz.prog w = .ok (.bool (!W.same a b)) w := by
  unfold inV W.same
  by_cases h0 : a.op = b.op
  · by_cases h1 : a.rd = b.rd
    · by_cases h2 : a.rs1 = b.rs1
      · by_cases h3 : a.rs2 = b.rs2
        · by_cases h4 : a.csr = b.csr
          · by_cases h5 : a.imm = b.imm
            · by_cases h6 : a.aq = b.aq
              · by_cases h7 : a.rl = b.rl
                · simp [go_sem, h0, h1, h2, h3, h4, h5, h6, h7]
                · simp [go_sem, h0, h1, h2, h3, h4, h5, h6, h7]
              · simp [go_sem, h0, h1, h2, h3, h4, h5, h6]
            · simp [go_sem, h0, h1, h2, h3, h4, h5]
          · simp [go_sem, h0, h1, h2, h3, h4]
        · simp [go_sem, h0, h1, h2, h3]
      · simp [go_sem, h0, h1, h2]
    · simp [go_sem, h0, h1]
  · simp [go_sem, h0]

set_option maxRecDepth 100000 in
set_option maxHeartbeats 6400000 in
/-- Encode where a field is told that the op has no use for. -/
theorem encode_shape (A : Nat → Addr) (i : W.I) (w : World) (hS : Sent A w) (h1 : W.known i.op = true) (h2 : W.layIB (W.shp i.op) i.imm = true) (h3 : W.inRange i = true) (h4 : W.same (W.only (W.shp i.op) i) i = false) :
    Calls Tryz.prog 25 #[inV i] w fun e w' => e = .returned (.tuple #[.int .u32 0, errV A 3]) ∧ Below w.heap.size w w' := by
  have hcmp : ∀ w, (binOp .neq 24 (.agg #[.int .i64 (W.only (W.shp i.op) i).op, .int .i64 (W.only (W.shp i.op) i).rd, .int .i64 (W.only (W.shp i.op) i).rs1, .int .i64 (W.only (W.shp i.op) i).rs2, .int .i64 (W.only (W.shp i.op) i).csr, .int .u32 (W.only (W.shp i.op) i).imm, .bool (W.only (W.shp i.op) i).aq, .bool (W.only (W.shp i.op) i).rl]) (.agg #[.int .i64 i.op, .int .i64 i.rd, .int .i64 i.rs1, .int .i64 i.rs2, .int .i64 i.csr, .int .u32 i.imm, .bool i.aq, .bool i.rl])).run Tryz.prog w = .ok (.bool true) w := fun w => by
    have := neq_inst (W.only (W.shp i.op) i) i w
    rw [h4] at this
    exact this
  clear h4
  unfold inV
  have HS : Hid (Sent A w) := hS
  clear hS
  go_enter Tryz.func25, Tryz.ntmps25
  go_wp2_with (first
    | (go_at_call 46; refine (known_any _ _).mono ?_; rintro e w' ⟨rfl, rfl⟩)
    | (go_at_call 47; refine (shapeOf_any _ _).mono ?_; rintro e w1 ⟨rfl, hb1⟩; have hE := enc1 hb1; clear hb1; have hT : Hid (∀ t, St A i (W.shp i.op) w1.heap.size w (w1.alloc (.cells _ t))) := fun t => St.start (t := t) (W.shp i.op) HS.out hE; obtain ⟨hq1, hq2, x0, x1, x2, x3, x4, x5, x6, x7⟩ := hE; unfold shV)
    | (go_at_call 48; refine (layImm_any (W.shp i.op) _ _).mono ?_; rintro e w2 ⟨rfl, hb2⟩; have hU : Hid (St A i (W.shp i.op) w1.heap.size w w2) := (hT.out _).below hb2; clear hb2; obtain ⟨y0, y1, y2, y3, y4, y5, y6, y7⟩ := hU.out.inst)
    | (go_at_call 49; refine (inRange_any i _).mono ?_; rintro e w3 ⟨rfl, hb3⟩; have hV : Hid (St A i (W.shp i.op) w1.heap.size w w3) := hU.out.below hb3; clear hb3))
  have hS0 := SE.of (hV.out.below (Below.refl _ _).drew)
  clear x0 x1 x2 x3 x4 x5 x6 x7 y0 y1 y2 y3 y4 y5 y6 y7 hq1 hq2
  go_region_held3 (fun w' => St A i (W.shp i.op) w1.heap.size w w' ∧ (w'.cell? ⟨w.heap.size, 0, none⟩ = some (.int .i64 i.op) ∧ w'.cell? ⟨w.heap.size, 1, none⟩ = some (.int .i64 i.rd) ∧ w'.cell? ⟨w.heap.size, 2, none⟩ = some (.int .i64 i.rs1) ∧ w'.cell? ⟨w.heap.size, 3, none⟩ = some (.int .i64 i.rs2) ∧ w'.cell? ⟨w.heap.size, 4, none⟩ = some (.int .i64 i.csr) ∧ w'.cell? ⟨w.heap.size, 5, none⟩ = some (.int .u32 i.imm) ∧ w'.cell? ⟨w.heap.size, 6, none⟩ = some (.bool i.aq) ∧ w'.cell? ⟨w.heap.size, 7, none⟩ = some (.bool i.rl)) ∧ (w'.cell? ⟨w1.heap.size, 0, none⟩ = some (.int .u32 (W.shp i.op).fixed) ∧ w'.cell? ⟨w1.heap.size, 1, none⟩ = some (.bool (W.shp i.op).rd) ∧ w'.cell? ⟨w1.heap.size, 2, none⟩ = some (.bool (W.shp i.op).rs1) ∧ w'.cell? ⟨w1.heap.size, 3, none⟩ = some (.bool (W.shp i.op).rs2) ∧ w'.cell? ⟨w1.heap.size, 4, none⟩ = some (.bool (W.shp i.op).csr) ∧ w'.cell? ⟨w1.heap.size, 5, none⟩ = some (.bool (W.shp i.op).ord) ∧ w'.cell? ⟨w1.heap.size, 6, none⟩ = some (.int .u8 (W.shp i.op).fmt) ∧ w'.cell? ⟨w1.heap.size, 7, none⟩ = some (.int .i64 (W.shp i.op).low) ∧ w'.cell? ⟨w1.heap.size, 8, none⟩ = some (.int .i64 (W.shp i.op).size)))
    (first
      | with_reducible assumption
      | (with_reducible refine SE.below (A := A) (i := i) (s := W.shp i.op) (N := w1.heap.size) (w := w) ?_ hm; with_reducible assumption)
      | (refine SE.below (A := A) (i := i) (s := W.shp i.op) (N := w1.heap.size) (w := w) ?_ hm; assumption))
    (first
      | (go_at_call 50; refine (only_any (W.shp i.op) (W.okSh_shp i.op) i _).mono ?_; rintro e w' ⟨rfl, hm⟩; unfold inV))
  have hB : Below w.heap.size w w' := (by (go_split_ands; assumption) : St A i (W.shp i.op) w1.heap.size w w').bel
  have c2 : w'.cell? ⟨3, 0, none⟩ = some _ := (by (go_split_ands; assumption) : St A i (W.shp i.op) w1.heap.size w w').sent.cell 2 (by omega)
  clear hcmp
  go_wp2
  go_quiet (fail)
  go_wp2
  exact bodyPost_ret (v := .tuple #[.int .u32 0, errV A 3]) (by simp [results, Tryz.results25, go_sem, errV]) rfl ⟨rfl, below_drewN hB _⟩

set_option maxRecDepth 100000 in
set_option maxHeartbeats 6400000 in
/-- Encode of what has a word. -/
theorem encode_ok (A : Nat → Addr) (i : W.I) (w : World) (hS : Sent A w) (h1 : W.known i.op = true) (h2 : W.layIB (W.shp i.op) i.imm = true) (h3 : W.inRange i = true) (h4 : W.same (W.only (W.shp i.op) i) i = true) :
    Calls Tryz.prog 25 #[inV i] w fun e w' => e = .returned (.tuple #[.int .u32 (bits .or .u32 (bits .or .u32 (W.code i.op.toNat) (W.layIV (W.shp i.op) i.imm)) (W.layF i)), errV A 0]) ∧ Below w.heap.size w w' := by
  have hcmp : ∀ w, (binOp .neq 24 (.agg #[.int .i64 (W.only (W.shp i.op) i).op, .int .i64 (W.only (W.shp i.op) i).rd, .int .i64 (W.only (W.shp i.op) i).rs1, .int .i64 (W.only (W.shp i.op) i).rs2, .int .i64 (W.only (W.shp i.op) i).csr, .int .u32 (W.only (W.shp i.op) i).imm, .bool (W.only (W.shp i.op) i).aq, .bool (W.only (W.shp i.op) i).rl]) (.agg #[.int .i64 i.op, .int .i64 i.rd, .int .i64 i.rs1, .int .i64 i.rs2, .int .i64 i.csr, .int .u32 i.imm, .bool i.aq, .bool i.rl])).run Tryz.prog w = .ok (.bool false) w := fun w => by
    have := neq_inst (W.only (W.shp i.op) i) i w
    rw [h4] at this
    exact this
  clear h4
  have hix : ∀ w, (Instr.index 91 (.agg codesA) (.int .i64 i.op)).run Tryz.prog w = .ok (.int .u32 (W.code i.op.toNat)) w := fun w => by
    have hk : 1 ≤ i.op ∧ i.op ≤ 69 := by simpa [W.known, W.fr] using h1
    have := idx_at i.op.toNat (by omega) w
    rwa [Int.toNat_of_nonneg (by omega)] at this
  unfold inV
  have HS : Hid (Sent A w) := hS
  clear hS
  go_enter Tryz.func25, Tryz.ntmps25
  go_wp2_with (first
    | (go_at_call 46; refine (known_any _ _).mono ?_; rintro e w' ⟨rfl, rfl⟩)
    | (go_at_call 47; refine (shapeOf_any _ _).mono ?_; rintro e w1 ⟨rfl, hb1⟩; have hE := enc1 hb1; clear hb1; have hT : Hid (∀ t, St A i (W.shp i.op) w1.heap.size w (w1.alloc (.cells _ t))) := fun t => St.start (t := t) (W.shp i.op) HS.out hE; obtain ⟨hq1, hq2, x0, x1, x2, x3, x4, x5, x6, x7⟩ := hE; unfold shV)
    | (go_at_call 48; refine (layImm_any (W.shp i.op) _ _).mono ?_; rintro e w2 ⟨rfl, hb2⟩; have hU : Hid (St A i (W.shp i.op) w1.heap.size w w2) := (hT.out _).below hb2; clear hb2; obtain ⟨y0, y1, y2, y3, y4, y5, y6, y7⟩ := hU.out.inst)
    | (go_at_call 49; refine (inRange_any i _).mono ?_; rintro e w3 ⟨rfl, hb3⟩; have hV : Hid (St A i (W.shp i.op) w1.heap.size w w3) := hU.out.below hb3; clear hb3))
  have hS0 := SE.of (hV.out.below (Below.refl _ _).drew)
  clear x0 x1 x2 x3 x4 x5 x6 x7 y0 y1 y2 y3 y4 y5 y6 y7 hq1 hq2
  go_region_held3 (fun w' => St A i (W.shp i.op) w1.heap.size w w' ∧ (w'.cell? ⟨w.heap.size, 0, none⟩ = some (.int .i64 i.op) ∧ w'.cell? ⟨w.heap.size, 1, none⟩ = some (.int .i64 i.rd) ∧ w'.cell? ⟨w.heap.size, 2, none⟩ = some (.int .i64 i.rs1) ∧ w'.cell? ⟨w.heap.size, 3, none⟩ = some (.int .i64 i.rs2) ∧ w'.cell? ⟨w.heap.size, 4, none⟩ = some (.int .i64 i.csr) ∧ w'.cell? ⟨w.heap.size, 5, none⟩ = some (.int .u32 i.imm) ∧ w'.cell? ⟨w.heap.size, 6, none⟩ = some (.bool i.aq) ∧ w'.cell? ⟨w.heap.size, 7, none⟩ = some (.bool i.rl)) ∧ (w'.cell? ⟨w1.heap.size, 0, none⟩ = some (.int .u32 (W.shp i.op).fixed) ∧ w'.cell? ⟨w1.heap.size, 1, none⟩ = some (.bool (W.shp i.op).rd) ∧ w'.cell? ⟨w1.heap.size, 2, none⟩ = some (.bool (W.shp i.op).rs1) ∧ w'.cell? ⟨w1.heap.size, 3, none⟩ = some (.bool (W.shp i.op).rs2) ∧ w'.cell? ⟨w1.heap.size, 4, none⟩ = some (.bool (W.shp i.op).csr) ∧ w'.cell? ⟨w1.heap.size, 5, none⟩ = some (.bool (W.shp i.op).ord) ∧ w'.cell? ⟨w1.heap.size, 6, none⟩ = some (.int .u8 (W.shp i.op).fmt) ∧ w'.cell? ⟨w1.heap.size, 7, none⟩ = some (.int .i64 (W.shp i.op).low) ∧ w'.cell? ⟨w1.heap.size, 8, none⟩ = some (.int .i64 (W.shp i.op).size)))
    (first
      | with_reducible assumption
      | (with_reducible refine SE.below (A := A) (i := i) (s := W.shp i.op) (N := w1.heap.size) (w := w) ?_ hm; with_reducible assumption)
      | (refine SE.below (A := A) (i := i) (s := W.shp i.op) (N := w1.heap.size) (w := w) ?_ hm; assumption))
    (first
      | (go_at_call 50; refine (only_any (W.shp i.op) (W.okSh_shp i.op) i _).mono ?_; rintro e w' ⟨rfl, hm⟩; unfold inV))
  clear hcmp
  have hS1 : SE A i (W.shp i.op) w1.heap.size w w'.drew := SE.of ((by (go_split_ands; assumption) : St A i (W.shp i.op) w1.heap.size w w').below (Below.refl _ _).drew)
  go_wp2
  go_region_held3 (fun w' => St A i (W.shp i.op) w1.heap.size w w' ∧ (w'.cell? ⟨w.heap.size, 0, none⟩ = some (.int .i64 i.op) ∧ w'.cell? ⟨w.heap.size, 1, none⟩ = some (.int .i64 i.rd) ∧ w'.cell? ⟨w.heap.size, 2, none⟩ = some (.int .i64 i.rs1) ∧ w'.cell? ⟨w.heap.size, 3, none⟩ = some (.int .i64 i.rs2) ∧ w'.cell? ⟨w.heap.size, 4, none⟩ = some (.int .i64 i.csr) ∧ w'.cell? ⟨w.heap.size, 5, none⟩ = some (.int .u32 i.imm) ∧ w'.cell? ⟨w.heap.size, 6, none⟩ = some (.bool i.aq) ∧ w'.cell? ⟨w.heap.size, 7, none⟩ = some (.bool i.rl)) ∧ (w'.cell? ⟨w1.heap.size, 0, none⟩ = some (.int .u32 (W.shp i.op).fixed) ∧ w'.cell? ⟨w1.heap.size, 1, none⟩ = some (.bool (W.shp i.op).rd) ∧ w'.cell? ⟨w1.heap.size, 2, none⟩ = some (.bool (W.shp i.op).rs1) ∧ w'.cell? ⟨w1.heap.size, 3, none⟩ = some (.bool (W.shp i.op).rs2) ∧ w'.cell? ⟨w1.heap.size, 4, none⟩ = some (.bool (W.shp i.op).csr) ∧ w'.cell? ⟨w1.heap.size, 5, none⟩ = some (.bool (W.shp i.op).ord) ∧ w'.cell? ⟨w1.heap.size, 6, none⟩ = some (.int .u8 (W.shp i.op).fmt) ∧ w'.cell? ⟨w1.heap.size, 7, none⟩ = some (.int .i64 (W.shp i.op).low) ∧ w'.cell? ⟨w1.heap.size, 8, none⟩ = some (.int .i64 (W.shp i.op).size)))
    (first
      | with_reducible assumption
      | (with_reducible refine SE.below (A := A) (i := i) (s := W.shp i.op) (N := w1.heap.size) (w := w) ?_ hm; with_reducible assumption)
      | (refine SE.below (A := A) (i := i) (s := W.shp i.op) (N := w1.heap.size) (w := w) ?_ hm; assumption))
    (first
      | (go_at_call 51; refine (codes_any _).mono ?_; rintro e w' ⟨rfl, hm⟩)
      | (go_at_call 52; refine (layF_any i _).mono ?_; rintro e w' ⟨rfl, hm⟩))
  all_goals
    have hB : Below w.heap.size w w' := (by (go_split_ands; assumption) : St A i (W.shp i.op) w1.heap.size w w').bel
    go_wp2
    exact bodyPost_ret (v := .tuple #[.int .u32 (bits .or .u32 (bits .or .u32 (W.code i.op.toNat) (W.layIV (W.shp i.op) i.imm)) (W.layF i)), errV A 0]) (by simp [results, Tryz.results25, go_sem, errV]) rfl ⟨rfl, hB⟩

/-- Encode of whatever instruction. -/
theorem encode_any (A : Nat → Addr) (i : W.I) (w : World) (hS : Sent A w) :
    Calls Tryz.prog 25 #[inV i] w fun e w' => e = .returned (.tuple #[.int .u32 (W.encV i), errV A (W.encE i)]) ∧ Below w.heap.size w w' := by
  cases h1 : W.known i.op
  · have e : W.encE i = 1 := by simp [W.encE, h1]
    have := encode_kind A i w hS h1
    rw [W.encV, e]; exact this
  cases h2 : W.layIB (W.shp i.op) i.imm
  · have e : W.encE i = 2 := by simp [W.encE, h1, h2]
    have := encode_imm A i w hS h1 h2
    rw [W.encV, e]; exact this
  cases h3 : W.inRange i
  · have e : W.encE i = 2 := by simp [W.encE, h1, h2, h3]
    have := encode_range A i w hS h1 h2 h3
    rw [W.encV, e]; exact this
  cases h4 : W.same (W.only (W.shp i.op) i) i
  · have e : W.encE i = 3 := by simp [W.encE, h1, h2, h3, h4]
    have := encode_shape A i w hS h1 h2 h3 h4
    rw [W.encV, e]; exact this
  · have e : W.encE i = 0 := by simp [W.encE, h1, h2, h3, h4]
    have := encode_ok A i w hS h1 h2 h3 h4
    rw [W.encV, e]; exact this

end Go.Proofs.YtmihcicepgjogaaGreatDoor

/- What the statements' own look at errors answers. -/
namespace Go.Proofs.YtmihcicepgjogaaGreatDoor
open Go.ChangeShapes Go.WideShapes Go.ChangeAt Go.RowKit
set_option linter.unusedVariables false
set_option linter.unusedSimpArgs false

/-- Which variable stands at which place of the list. -/
def perm (p : Nat) : Nat := [3, 0, 4, 2, 5, 1, 6, 7, 8, 9, 10].getD p 0
def ptr (A : Nat → Addr) (g : Nat) : Value := .iface 194 (.pointer (some (A g)))

theorem eql_same (w : World) (a : Addr) : (binOp .eql 27 (.iface 194 (.pointer (some a))) (.iface 194 (.pointer (some a)))).run Tryz.prog w = .ok (.bool true) w := by
  obtain ⟨i, hi⟩ : ∃ j, Tryz.prog.info? 194 = some j := Option.isSome_iff_exists.1 (by kernel_rfl)
  have hc : i.comparable = true := by
    have : (Tryz.prog.info? 194).map (·.comparable) = some true := by kernel_rfl
    rw [hi] at this; simpa using this
  obtain ⟨j, hj⟩ : ∃ j, Tryz.prog.info? 196 = some j := Option.isSome_iff_exists.1 (by kernel_rfl)
  exact run_eql_iface_ptr_same w a Tryz.underlying27 Tryz.underlying194 hi hc hj
theorem eql_other (w : World) {a b : Addr} {ca cb : Array Value} {ta tb : TypeId} (hne : a ≠ b) (ha : w.heap[a.block]? = some (.cells ca ta (0, 0))) (hb : w.heap[b.block]? = some (.cells cb tb (0, 0))) :
    (binOp .eql 27 (.iface 194 (.pointer (some a))) (.iface 194 (.pointer (some b)))).run Tryz.prog w = .ok (.bool false) w := by
  obtain ⟨i, hi⟩ : ∃ j, Tryz.prog.info? 194 = some j := Option.isSome_iff_exists.1 (by kernel_rfl)
  have hc : i.comparable = true := by
    have : (Tryz.prog.info? 194).map (·.comparable) = some true := by kernel_rfl
    rw [hi] at this; simpa using this
  obtain ⟨j, hj⟩ : ∃ j, Tryz.prog.info? 196 = some j := Option.isSome_iff_exists.1 (by kernel_rfl)
  have hz : j.size ≠ 0 := by
    have : (Tryz.prog.info? 196).map (·.size) = some 1 := by kernel_rfl
    rw [hj] at this; simp at this; omega
  exact run_eql_iface_ptr_other w Tryz.underlying27 Tryz.underlying194 hi hc hj hz hne ha hb

theorem alike_same (a : Addr) (w : World) :
    Calls Tryz.prog 129 #[.iface 194 (.pointer (some a)), .iface 194 (.pointer (some a))] w fun e w' => e = .returned (.bool true) ∧ w = w' := by
  have he := eql_same (a := a)
  go_enter Tryz.func129, Tryz.ntmps129
  go_wp2
  go_ret
  exact ⟨rfl, rfl⟩
theorem alike_other (a b : Addr) (w : World) (he : (binOp .eql 27 (.iface 194 (.pointer (some a))) (.iface 194 (.pointer (some b)))).run Tryz.prog w = .ok (.bool false) w) :
    Calls Tryz.prog 129 #[.iface 194 (.pointer (some a)), .iface 194 (.pointer (some b))] w fun e w' => e = .returned (.bool false) ∧ w = w' := by
  go_enter Tryz.func129, Tryz.ntmps129
  go_wp2
  go_ret
  exact ⟨rfl, rfl⟩

theorem sentinels_any (A : Nat → Addr) (w : World) (hS : Sent A w) :
    Calls Tryz.prog 128 #[] w fun e w' => e = .returned (.slice (some ⟨w.heap.size, 0, none⟩) 11 11) ∧ w' = w.alloc (.cells #[ptr A 3, ptr A 0, ptr A 4, ptr A 2, ptr A 5, ptr A 1, ptr A 6, ptr A 7, ptr A 8, ptr A 9, ptr A 10] 27) := by
  have c0 : w.cell? ⟨1, 0, none⟩ = some _ := hS.cell 0 (by omega)
  have c1 : w.cell? ⟨2, 0, none⟩ = some _ := hS.cell 1 (by omega)
  have c2 : w.cell? ⟨3, 0, none⟩ = some _ := hS.cell 2 (by omega)
  have c3 : w.cell? ⟨6, 0, none⟩ = some _ := hS.cell 3 (by omega)
  have c4 : w.cell? ⟨7, 0, none⟩ = some _ := hS.cell 4 (by omega)
  have c5 : w.cell? ⟨0, 0, none⟩ = some _ := hS.cell 5 (by omega)
  have c6 : w.cell? ⟨8, 0, none⟩ = some _ := hS.cell 6 (by omega)
  have c7 : w.cell? ⟨9, 0, none⟩ = some _ := hS.cell 7 (by omega)
  have c8 : w.cell? ⟨10, 0, none⟩ = some _ := hS.cell 8 (by omega)
  have c9 : w.cell? ⟨11, 0, none⟩ = some _ := hS.cell 9 (by omega)
  have c10 : w.cell? ⟨12, 0, none⟩ = some _ := hS.cell 10 (by omega)
  clear hS
  go_enter Tryz.func128, Tryz.ntmps128
  go_wp2
  go_ret
  exact ⟨rfl, rfl⟩

theorem Room.two {b : Nat} {x : World} (h : Room b 2 x) : ∃ v0 v1, x.cell? ⟨b, 0, none⟩ = some v0 ∧ x.cell? ⟨b, 1, none⟩ = some v1 ∧ ∀ j, x.frozen? ⟨b, j, none⟩ = false := by
  obtain ⟨c, t, h1, h2⟩ := h
  have hc : ∀ j (hj : j < 2), x.cell? ⟨b, j, none⟩ = some (c[j]'(by omega)) := fun j hj => by simp [World.cell?, h1, h2, hj]
  exact ⟨_, _, hc 0 (by omega), hc 1 (by omega), fun j => by simp [World.frozen?, h1]⟩

theorem bare_any (c : Int) (w : World) :
    Calls Tryz.prog 39 #[.int .i64 c] w fun e w' => e = .returned (.agg #[.int .i64 c, .slice none 0 0]) ∧ Below w.heap.size w w' := by
  go_enter Tryz.func39, Tryz.ntmps39
  go_wp2
  exact bodyPost_ret (v := .agg #[.int .i64 c, .slice none 0 0]) (by simp [results, Tryz.results39, go_sem]) rfl ⟨rfl, (Below.refl _ _).alloc (Nat.le_refl _) _⟩

theorem none_any (w : World) :
    Calls Tryz.prog 45 #[] w fun e w' => e = .returned (.agg #[.int .i64 0, .slice none 0 0]) ∧ Below w.heap.size w w' := by
  go_enter Tryz.func45, Tryz.ntmps45
  go_wp2
  exact bodyPost_ret (v := .agg #[.int .i64 0, .slice none 0 0]) (by simp [results, Tryz.results45, go_sem]) rfl ⟨rfl, (Below.refl _ _).alloc (Nat.le_refl _) _⟩

theorem sameInts_nil (w : World) :
    Calls Tryz.prog 77 #[.slice none 0 0, .slice none 0 0] w fun e w' => e = .returned (.bool true) ∧ w = w' := by
  go_enter Tryz.func77, Tryz.ntmps77
  go_wp2
  go_loopw [5] (fun i wr => i = .int .i64 0 ∧ w = wr) (fun _ _ => 0)
  case atStart => exact ⟨rfl, rfl⟩
  case round =>
    obtain ⟨rfl, rfl⟩ := hrel
    go_wp2
    go_ret
    exact ⟨rfl, rfl⟩

theorem sameFault_any (a b : Int) (w : World) :
    Calls Tryz.prog 44 #[.agg #[.int .i64 a, .slice none 0 0], .agg #[.int .i64 b, .slice none 0 0]] w fun e w' => e = .returned (.bool (a == b)) ∧ Below w.heap.size w w' := by
  have hb : Below w.heap.size w w := Below.refl _ _
  cases h : (a == b)
  all_goals
    go_enter Tryz.func44, Tryz.ntmps44
    go_wp2_with (go_at_call 77; refine (sameInts_nil _).mono ?_; rintro e w' ⟨rfl, rfl⟩)
    go_ret
    exact ⟨rfl, (hb.alloc hb.size _).alloc (by simp) _⟩

theorem perm_inj (p q : Nat) (hp : p < 11) (hq : q < 11) (h : perm p = perm q) : p = q := by
  have : ((List.range 11).all fun p => (List.range 11).all fun q => !(perm p == perm q) || (p == q)) = true := by decide +kernel
  have := List.all_eq_true.1 this p (List.mem_range.2 hp)
  have := List.all_eq_true.1 this q (List.mem_range.2 hq)
  simpa [h] using this
theorem perm_lt (p : Nat) (hp : p < 11) : perm p < 11 := by
  have : ((List.range 11).all fun p => decide (perm p < 11)) = true := by decide +kernel
  simpa using List.all_eq_true.1 this p (List.mem_range.2 hp)

theorem sentinels_c (A : Nat → Addr) (w : World) (hS : Sent A w) :
    Calls Tryz.prog 128 #[] w fun e w' => e = .returned (.slice (some ⟨w.heap.size, 0, none⟩) 11 11) ∧ Below w.heap.size w w' ∧ ∀ k, k < 11 → w'.cell? ⟨w.heap.size, k, none⟩ = some (ptr A (perm k)) :=
  (sentinels_any A w hS).mono fun e w' ⟨h, hw'⟩ => by
    subst hw'
    refine ⟨h, (Below.refl _ _).alloc (Nat.le_refl _) _, fun k hk => ?_⟩
    match k, hk with
    | 0, _ | 1, _ | 2, _ | 3, _ | 4, _ | 5, _ | 6, _ | 7, _ | 8, _ | 9, _ | 10, _ => simp [go_sem, perm]

theorem sentinel_any (A : Nat → Addr) (p : Nat) (hp : p < 11) (w : World) (hS : Sent A w) :
    Calls Tryz.prog 105 #[.iface 194 (.pointer (some (A (perm p))))] w fun e w' => e = .returned (.int .i64 (101 + p)) ∧ Below w.heap.size w w' := by
  have HS : Hid (Sent A w) := hS
  have Hp : Hid (p < 11) := hp
  clear hS hp
  go_enter Tryz.func105, Tryz.ntmps105
  go_wp2_with (go_at_call 128; refine (sentinels_c A _ HS.out).mono ?_; rintro e w' ⟨rfl, hb, hc⟩; have HC : Hid (∀ k, k < 11 → w'.cell? ⟨w.heap.size, k, none⟩ = some (ptr A (perm k))) := hc; clear hc)
  go_loopw [4] (fun i wr => ∃ k : Nat, k ≤ p ∧ i = .int .i64 k ∧ w' = wr) (fun i _ => 11 - (intOf i).toNat)
  case atStart => exact ⟨0, by omega, rfl, rfl⟩
  case round =>
    obtain ⟨k, hk, rfl, rfl⟩ := hrel
    have hk11 : (k : Int) < 11 := by have := Hp.out; omega
    have hk0 : (0 : Int) ≤ (k : Int) := Int.natCast_nonneg _
    have hc : w'.cell? ⟨w.heap.size, k, none⟩ = some (.iface 194 (.pointer (some (A (perm k))))) := HC.out k (by omega)
    by_cases h : k = p
    · subst h
      go_wp2_with (go_at_call 129; refine (alike_same _ _).mono ?_; rintro e w'' ⟨rfl, rfl⟩)
      go_ret
      exact ⟨ret_int (by first | rfl | (simp [go_sem]; done) | (have := Hp.out; go_num)), hb⟩
    · have hs := HS.out.below hb
      have hne : A (perm p) ≠ A (perm k) := fun e => h (perm_inj p k Hp.out (by have := Hp.out; omega) (hs.apart _ _ (perm_lt _ Hp.out) (perm_lt _ (by have := Hp.out; omega)) e)).symm
      obtain ⟨ca, ta, ha⟩ := hs.held (perm p) (perm_lt _ Hp.out)
      obtain ⟨cb, tb, hb'⟩ := hs.held (perm k) (perm_lt _ (by have := Hp.out; omega))
      have he := eql_other w' hne ha hb'
      have HE : Hid (_ = _) := he
      clear he ha hb' hne hs
      go_wp2_with (go_at_call 129; refine (alike_other _ _ _ HE.out).mono ?_; rintro e w'' ⟨rfl, rfl⟩)
      go_roundw
      case rel => exact ⟨k + 1, by omega, by go_num, by first | rfl | trivial⟩
      case measure => simp [intOf]; omega

/-- The document's number of an error. -/
def num : Nat → Int
  | 0 => 0
  | 1 => 102
  | 2 => 106
  | _ => 104
/-- Its place in the list. -/
def pos : Nat → Nat
  | 1 => 1
  | 2 => 5
  | _ => 3

set_option maxRecDepth 100000 in
set_option maxHeartbeats 1600000 in
theorem fault_any (A : Nat → Addr) (p : Nat) (hp : p < 11) (w : World) (hS : Sent A w) :
    Calls Tryz.prog 76 #[.iface 194 (.pointer (some (A (perm p)))), .int .i64 9] w fun e w' => e = .returned (.agg #[.int .i64 (101 + p), .slice none 0 0]) ∧ Below w.heap.size w w' := by
  have HS : Hid (Sent A w) := hS
  have Hp : Hid (p < 11) := hp
  clear hS hp
  have hT : ∀ v w, (Instr.typeAssert (.iface 194 v) 27 77 true).run Tryz.prog w = .ok (.tuple #[.pointer none, .bool false]) w := fun _ _ => by kernel_rfl
  go_enter Tryz.func76, Tryz.ntmps76
  go_wp2_with (first
    | (go_at_call 105; refine (sentinel_any A p Hp.out _ (HS.out.below ((Below.refl _ _).alloc (Nat.le_refl _) _))).mono ?_; rintro e w1 ⟨rfl, hb1⟩; have hR : Room w.heap.size 2 w1 := ⟨_, _, (hb1.block _ (by simp)).trans (heap_alloc_last w _), rfl⟩; have hb : Below w.heap.size w w1 := ((Below.refl _ _).alloc (Nat.le_refl _) _).trans (hb1.mono (by simp)); have hlt : w.heap.size < w1.heap.size := (by have := hb1.size; simp at this; omega); clear hb1)
    | (go_at_call 39; refine (bare_any _ _).mono ?_; rintro e w2 ⟨rfl, hb2⟩; obtain ⟨v0, v1, r0, r1, r2⟩ := (hR.below hb2 hlt).two; have hb := hb.trans (hb2.mono hb.size); clear hb2))
  refine bodyPost_ret (v := .agg #[.int .i64 (101 + p), .slice none 0 0]) ?_ rfl ⟨rfl, ?_⟩
  · simp [results, Tryz.results76, go_sem, r0, r1]
  · exact (hb.setCell (Nat.le_refl _) _).setCell (Nat.le_refl _) _

theorem faultOf_some (A : Nat → Addr) (p : Nat) (hp : p < 11) (w : World) (hS : Sent A w) :
    Calls Tryz.prog 43 #[.iface 194 (.pointer (some (A (perm p))))] w fun e w' => e = .returned (.agg #[.int .i64 (101 + p), .slice none 0 0]) ∧ Below w.heap.size w w' := by
  have HS : Hid (Sent A w) := hS
  have Hp : Hid (p < 11) := hp
  clear hS hp
  go_enter Tryz.func43, Tryz.ntmps43
  go_wp2_with (first
    | (go_at_call 76; refine (fault_any A p Hp.out _ (HS.out.below ((Below.refl _ _).alloc (Nat.le_refl _) _))).mono ?_; rintro e w1 ⟨rfl, hb1⟩; have hR : Room w.heap.size 2 w1 := ⟨_, _, (hb1.block _ (by simp)).trans (heap_alloc_last w _), rfl⟩; have hb : Below w.heap.size w w1 := ((Below.refl _ _).alloc (Nat.le_refl _) _).trans (hb1.mono (by simp)); clear hb1; obtain ⟨v0, v1, r0, r1, r2⟩ := hR.two))
  refine bodyPost_ret (v := .agg #[.int .i64 (101 + p), .slice none 0 0]) ?_ rfl ⟨rfl, ?_⟩
  · simp [results, Tryz.results43, go_sem, r0, r1]
  · exact (hb.setCell (Nat.le_refl _) _).setCell (Nat.le_refl _) _

theorem faultOf_nil (w : World) :
    Calls Tryz.prog 43 #[.nilIface] w fun e w' => e = .returned (.agg #[.int .i64 0, .slice none 0 0]) ∧ Below w.heap.size w w' := by
  go_enter Tryz.func43, Tryz.ntmps43
  go_wp2_with (first
    | (go_at_call 45; refine (none_any _).mono ?_; rintro e w1 ⟨rfl, hb1⟩; have hR : Room w.heap.size 2 w1 := ⟨_, _, (hb1.block _ (by simp)).trans (heap_alloc_last w _), rfl⟩; have hb : Below w.heap.size w w1 := ((Below.refl _ _).alloc (Nat.le_refl _) _).trans (hb1.mono (by simp)); clear hb1; obtain ⟨v0, v1, r0, r1, r2⟩ := hR.two))
  refine bodyPost_ret (v := .agg #[.int .i64 0, .slice none 0 0]) ?_ rfl ⟨rfl, ?_⟩
  · simp [results, Tryz.results43, go_sem, r0, r1]
  · exact (hb.setCell (Nat.le_refl _) _).setCell (Nat.le_refl _) _

theorem faultOf_any (A : Nat → Addr) (k : Nat) (hk : k ≤ 3) (w : World) (hS : Sent A w) :
    Calls Tryz.prog 43 #[errV A k] w fun e w' => e = .returned (.agg #[.int .i64 (num k), .slice none 0 0]) ∧ Below w.heap.size w w' := by
  match k, hk with
  | 0, _ => exact faultOf_nil w
  | 1, _ => exact faultOf_some A 1 (by omega) w hS
  | 2, _ => exact faultOf_some A 5 (by omega) w hS
  | 3, _ => exact faultOf_some A 3 (by omega) w hS

set_option maxHeartbeats 1600000 in
theorem is_any (A : Nat → Addr) (k : Nat) (hk : k ≤ 3) (c : Int) (w : World) (hS : Sent A w) :
    Calls Tryz.prog 14 #[errV A k, .int .i64 c] w fun e w' => e = .returned (.bool (num k == c)) ∧ Below w.heap.size w w' := by
  have same : ∀ w : World, Sent A w → Calls Tryz.prog 19 #[errV A k, .agg #[.int .i64 c, .slice none 0 0]] w fun e w' => e = .returned (.bool (num k == c)) ∧ Below w.heap.size w w' := by
    intro w hS
    have HS : Hid (Sent A w) := hS
    have Hk : Hid (k ≤ 3) := hk
    clear hS hk
    generalize hv : errV A k = v
    have HV : Hid (v = errV A k) := hv.symm
    clear hv
    go_enter Tryz.func19, Tryz.ntmps19
    go_wp2_with (first
      | (go_at_call 43; rw [HV.out]; refine (faultOf_any A k Hk.out _ (HS.out.below ((Below.refl _ _).alloc (Nat.le_refl _) _))).mono ?_; rintro e w1 ⟨rfl, hb1⟩; have hlt : w.heap.size < w1.heap.size := (by have := hb1.size; simp at this; omega); have x0 := hb1.cell (p := ⟨w.heap.size, 0, none⟩) (by simp); have x1 := hb1.cell (p := ⟨w.heap.size, 1, none⟩) (by simp); simp [go_sem] at x0 x1; have hb : Below w.heap.size w w1 := ((Below.refl _ _).alloc (Nat.le_refl _) _).trans (hb1.mono (by simp)); clear hb1)
      | (go_at_call 44; refine (sameFault_any _ _ _).mono ?_; rintro e w2 ⟨rfl, hb2⟩; have hq := hb.trans ((((Below.refl _ _).alloc (Nat.le_refl _) _).trans (hb2.mono (by simp))).mono hb.size)))
    go_ret
    exact ⟨rfl, hq⟩
  generalize hv : errV A k = v at same ⊢
  have HV : Hid (v = errV A k) := hv.symm
  have HS : Hid (Sent A w) := hS
  have Sm : Hid (∀ w : World, Sent A w → Calls Tryz.prog 19 #[v, .agg #[.int .i64 c, .slice none 0 0]] w fun e w' => e = .returned (.bool (num k == c)) ∧ Below w.heap.size w w') := same
  clear hv hS same hk
  go_enter Tryz.func14, Tryz.ntmps14
  go_wp2_with (first
    | (go_at_call 39; refine (bare_any _ _).mono ?_; rintro e w1 ⟨rfl, hb1⟩)
    | (go_at_call 19; refine (Sm.out _ (HS.out.below hb1)).mono ?_; rintro e w2 ⟨rfl, hb2⟩))
  go_ret
  exact ⟨rfl, hb1.trans (hb2.mono hb1.size)⟩

end Go.Proofs.YtmihcicepgjogaaGreatDoor

/- Two instructions alike; the chapter's examples. -/
namespace Go.Proofs.YtmihcicepgjogaaGreatDoor
open Go.ChangeShapes Go.WideShapes Go.ChangeAt Go.RowKit
set_option linter.unusedVariables false
set_option linter.unusedSimpArgs false

set_option maxHeartbeats 3200000 in
theorem sameInst_any (a b : W.I) (w : World) :
    Calls Tryz.prog 15 #[inV a, inV b] w fun e w' => e = .returned (.bool (W.same a b)) ∧ Below w.heap.size w w' := by
  have hb : Below w.heap.size w w := Below.refl _ _
  cases h0 : (a.op == b.op)
  case' true => cases h1 : (a.rd == b.rd)
  case' true.true => cases h2 : (a.rs1 == b.rs1)
  case' true.true.true => cases h3 : (a.rs2 == b.rs2)
  case' true.true.true.true => cases h4 : (a.csr == b.csr)
  case' true.true.true.true.true => cases h5 : (a.imm == b.imm)
  case' true.true.true.true.true.true => cases h6 : (a.aq == b.aq)
  case' true.true.true.true.true.true.true => cases h7 : (a.rl == b.rl)
  all_goals
    unfold inV
    go_enter Tryz.func15, Tryz.ntmps15
    go_wp2
    go_ret
    exact ⟨ret_bool' (by simp only [W.same, *, Bool.and_true, Bool.and_false, Bool.true_and, Bool.false_and]), (hb.alloc hb.size _).alloc (by simp) _⟩

theorem from2 {w0 w w' : World} (hb : Below w0.heap.size w0 w) (hm : Below w.heap.size w w') : Below w0.heap.size w0 w' := hb.trans (hm.mono hb.size)
theorem encE_le (i : W.I) : W.encE i ≤ 3 := by
  unfold W.encE
  cases W.known i.op <;> cases (W.layIB (W.shp i.op) i.imm && W.inRange i) <;> cases (W.same (W.only (W.shp i.op) i) i) <;> simp

end Go.Proofs.YtmihcicepgjogaaGreatDoor
