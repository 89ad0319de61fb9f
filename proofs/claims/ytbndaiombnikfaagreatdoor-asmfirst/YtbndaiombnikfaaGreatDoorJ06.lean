/- Texts in one: Uses, FormA, IsaF, IsaG, IsaI, IsaJ. -/
import Derived.Deep.RegionHeld3
import Derived.Deep.DrawnRows
import Derived.Test.YtbndaiombnikfaaGreatDoorJ03
import Derived.Test.YtbndaiombnikfaaGreatDoorJ04
import Derived.Test.YtbndaiombnikfaaGreatDoorJ05
/- What Uses answers. -/
namespace Go.Proofs.YtbndaiombnikfaaGreatDoor
open Go.ChangeShapes Go.WideShapes Go.ChangeAt Go.RowKit
set_option linter.unusedVariables false
set_option linter.unusedSimpArgs false
attribute [local go_sem ↓] Go.wp_at_zero Go.wp_at_succ

abbrev SU (w : World) (n : Nat) (s : W.Sh) (w' : World) : Prop :=
  Below w.heap.size w w' ∧ n < w'.heap.size ∧ w'.cell? ⟨n, 0, none⟩ = some (.int .u32 s.fixed) ∧ w'.cell? ⟨n, 1, none⟩ = some (.bool s.rd) ∧ w'.cell? ⟨n, 2, none⟩ = some (.bool s.rs1) ∧ w'.cell? ⟨n, 3, none⟩ = some (.bool s.rs2) ∧ w'.cell? ⟨n, 4, none⟩ = some (.bool s.csr) ∧ w'.cell? ⟨n, 5, none⟩ = some (.bool s.ord) ∧ w'.cell? ⟨n, 6, none⟩ = some (.int .u8 s.fmt) ∧ w'.cell? ⟨n, 7, none⟩ = some (.int .i64 s.low) ∧ w'.cell? ⟨n, 8, none⟩ = some (.int .i64 s.size)
theorem SU.below {w a b : World} {n : Nat} {s : W.Sh} (h : SU w n s a) (hm : Below a.heap.size a b) : SU w n s b := by
  obtain ⟨h1, h2, h3⟩ := h
  have q : ∀ j, b.cell? ⟨n, j, none⟩ = a.cell? ⟨n, j, none⟩ := fun j => hm.cell h2
  refine ⟨h1.trans (hm.mono h1.size), by have := hm.size; omega, ?_⟩
  simp only [q]
  exact h3
theorem SU.start {w w1 : World} {s : W.Sh} {t : TypeId} (hb : Below w.heap.size w w1) :
    SU w w1.heap.size s ((w1.alloc (.cells #[.int .u32 s.fixed, .bool s.rd, .bool s.rs1, .bool s.rs2, .bool s.csr, .bool s.ord, .int .u8 s.fmt, .int .i64 s.low, .int .i64 s.size] t)).drew) := by
  refine SU.below ⟨hb.alloc hb.size _, by simp, ?_⟩ (Below.refl _ _).drew
  simp [go_sem]

set_option maxRecDepth 100000 in
set_option maxHeartbeats 6400000 in
theorem uses_any (op : Int) (w : World) :
    Calls Tryz.prog 113 #[.int .i64 op] w fun e w' => e = .returned (.tuple #[.bool (W.shp op).rd, .bool (W.shp op).rs1, .bool (W.shp op).rs2, .bool (W.hasImm (W.shp op))]) ∧ Below w.heap.size w w' := by
  generalize hs : W.shp op = s
  have HS : Hid (W.shp op = s) := hs
  clear hs
  go_enter Tryz.func113, Tryz.ntmps113
  go_wp2_with (first
    | (go_at_call 47; refine (shapeOf_any _ _).mono ?_; rintro e w1 ⟨rfl, hb1⟩; rw [HS.out]; unfold shV))
  have hS0 := SU.start (s := s) (t := 86) hb1
  clear hb1
  go_region_held3 (fun w' => Below w.heap.size w w' ∧ w1.heap.size < w'.heap.size ∧ w'.cell? ⟨w1.heap.size, 0, none⟩ = some (.int .u32 s.fixed) ∧ w'.cell? ⟨w1.heap.size, 1, none⟩ = some (.bool s.rd) ∧ w'.cell? ⟨w1.heap.size, 2, none⟩ = some (.bool s.rs1) ∧ w'.cell? ⟨w1.heap.size, 3, none⟩ = some (.bool s.rs2) ∧ w'.cell? ⟨w1.heap.size, 4, none⟩ = some (.bool s.csr) ∧ w'.cell? ⟨w1.heap.size, 5, none⟩ = some (.bool s.ord) ∧ w'.cell? ⟨w1.heap.size, 6, none⟩ = some (.int .u8 s.fmt) ∧ w'.cell? ⟨w1.heap.size, 7, none⟩ = some (.int .i64 s.low) ∧ w'.cell? ⟨w1.heap.size, 8, none⟩ = some (.int .i64 s.size))
    (first
      | with_reducible assumption
      | (with_reducible refine SU.below (w := w) (n := w1.heap.size) (s := s) ?_ hm; with_reducible assumption)
      | (refine SU.below (w := w) (n := w1.heap.size) (s := s) ?_ hm; assumption))
    (first
      | (go_at_call 79; refine (hasImm_any s _).mono ?_; rintro e w' ⟨rfl, hm⟩))
  all_goals
    have hB : Below w.heap.size w w' := by (go_split_ands; assumption)
    go_wp2
    exact bodyPost_ret (v := .tuple #[.bool s.rd, .bool s.rs1, .bool s.rs2, .bool (W.hasImm s)]) (by simp [results, Tryz.results113, go_sem]) rfl ⟨rfl, hB⟩
end Go.Proofs.YtbndaiombnikfaaGreatDoor

/- The forms of package asm: how the parts of an op are written. -/
namespace Go.Proofs.YtbndaiombnikfaaGreatDoor
open Go.ChangeShapes Go.WideShapes Go.ChangeAt Go.RowKit
set_option linter.unusedVariables false
set_option linter.unusedSimpArgs false

namespace W
def fK (op : Int) : List UInt8 := bif kind op == 3 then [49, 44, 32, 50, 44, 32, 105] else bif kind op == 4 then [100, 44, 32, 105, 40, 49, 41] else bif kind op == 5 then [50, 44, 32, 105, 40, 49, 41] else bif kind op == 6 then [100, 44, 32, 50, 44, 32, 40, 49, 41] else bif hasImm (shp op) then [100, 44, 32, 49, 44, 32, 105] else bif (shp op).rs2 then [100, 44, 32, 49, 44, 32, 50] else []
/-- The form of an op. -/
def form (op : Int) : List UInt8 := bif op == 1 then [100, 44, 32, 117] else bif op == 2 then [100, 44, 32, 117] else bif op == 3 then [100, 44, 32, 105] else bif op == 4 then [100, 44, 32, 105, 40, 49, 41] else bif op == 38 then [112, 44, 32, 115] else bif op == 44 then [49, 44, 32, 50] else bif op == 45 then [100, 44, 32, 99, 44, 32, 49] else bif op == 46 then [100, 44, 32, 99, 44, 32, 49] else bif op == 47 then [100, 44, 32, 99, 44, 32, 49] else bif op == 48 then [100, 44, 32, 99, 44, 32, 105] else bif op == 49 then [100, 44, 32, 99, 44, 32, 105] else bif op == 50 then [100, 44, 32, 99, 44, 32, 105] else bif op == 59 then [100, 44, 32, 40, 49, 41] else fK op
end W

set_option maxRecDepth 100000 in
set_option maxHeartbeats 3200000 in
theorem formK_any (op : Int) (w : World) : Calls Tryz.prog 87 #[.int .i64 op] w fun e w' => e = .returned (.string ⟨(W.fK op).toArray⟩) ∧ Below w.heap.size w w' := by
  obtain ⟨k, hk⟩ : ∃ k, W.kind op = k := ⟨_, rfl⟩
  have HK : Hid (W.kind op = k) := hk
  have hb : Hid (Below w.heap.size w w) := Below.refl _ _
  clear hk
  cases h3 : (k == 3)
  case true =>
    have hv : Hid (W.fK op = [49, 44, 32, 50, 44, 32, 105]) := (by rw [W.fK, HK.out, h3]; rfl : W.fK op = _)
    go_enter Tryz.func87, Tryz.ntmps87
    go_wp2_with (go_at_call 112; refine (kind_any _ _).mono ?_; rintro e w' ⟨rfl, rfl⟩; rw [HK.out])
    go_ret
    exact ⟨by rw [hv.out]; rfl, hb.out⟩
  cases h4 : (k == 4)
  case true =>
    have hv : Hid (W.fK op = [100, 44, 32, 105, 40, 49, 41]) := (by rw [W.fK, HK.out, h3, h4]; rfl : W.fK op = _)
    go_enter Tryz.func87, Tryz.ntmps87
    go_wp2_with (go_at_call 112; refine (kind_any _ _).mono ?_; rintro e w' ⟨rfl, rfl⟩; rw [HK.out])
    go_ret
    exact ⟨by rw [hv.out]; rfl, hb.out⟩
  cases h5 : (k == 5)
  case true =>
    have hv : Hid (W.fK op = [50, 44, 32, 105, 40, 49, 41]) := (by rw [W.fK, HK.out, h3, h4, h5]; rfl : W.fK op = _)
    go_enter Tryz.func87, Tryz.ntmps87
    go_wp2_with (go_at_call 112; refine (kind_any _ _).mono ?_; rintro e w' ⟨rfl, rfl⟩; rw [HK.out])
    go_ret
    exact ⟨by rw [hv.out]; rfl, hb.out⟩
  cases h6 : (k == 6)
  case true =>
    have hv : Hid (W.fK op = [100, 44, 32, 50, 44, 32, 40, 49, 41]) := (by rw [W.fK, HK.out, h3, h4, h5, h6]; rfl : W.fK op = _)
    go_enter Tryz.func87, Tryz.ntmps87
    go_wp2_with (go_at_call 112; refine (kind_any _ _).mono ?_; rintro e w' ⟨rfl, rfl⟩; rw [HK.out])
    go_ret
    exact ⟨by rw [hv.out]; rfl, hb.out⟩
  cases h7 : W.hasImm (W.shp op)
  case true =>
    have hv : Hid (W.fK op = [100, 44, 32, 49, 44, 32, 105]) := (by rw [W.fK, HK.out, h3, h4, h5, h6, h7]; rfl : W.fK op = _)
    go_enter Tryz.func87, Tryz.ntmps87
    go_wp2_with (first
      | (go_at_call 112; refine (kind_any _ _).mono ?_; rintro e w' ⟨rfl, rfl⟩; rw [HK.out])
      | (go_at_call 113; refine (uses_any _ _).mono ?_; rintro e w1 ⟨rfl, hm⟩; have HM : Hid (Below w.heap.size w w1) := hm; clear hm))
    go_ret
    exact ⟨by rw [hv.out]; rfl, HM.out⟩
  cases h8 : (W.shp op).rs2
  case true =>
    have hv : Hid (W.fK op = [100, 44, 32, 49, 44, 32, 50]) := (by rw [W.fK, HK.out, h3, h4, h5, h6, h7, h8]; rfl : W.fK op = _)
    go_enter Tryz.func87, Tryz.ntmps87
    go_wp2_with (first
      | (go_at_call 112; refine (kind_any _ _).mono ?_; rintro e w' ⟨rfl, rfl⟩; rw [HK.out])
      | (go_at_call 113; refine (uses_any _ _).mono ?_; rintro e w1 ⟨rfl, hm⟩; have HM : Hid (Below w.heap.size w w1) := hm; clear hm))
    go_ret
    exact ⟨by rw [hv.out]; rfl, HM.out⟩
  case false =>
    have hv : Hid (W.fK op = []) := (by rw [W.fK, HK.out, h3, h4, h5, h6, h7, h8]; rfl : W.fK op = _)
    go_enter Tryz.func87, Tryz.ntmps87
    go_wp2_with (first
      | (go_at_call 112; refine (kind_any _ _).mono ?_; rintro e w' ⟨rfl, rfl⟩; rw [HK.out])
      | (go_at_call 113; refine (uses_any _ _).mono ?_; rintro e w1 ⟨rfl, hm⟩; have HM : Hid (Below w.heap.size w w1) := hm; clear hm))
    go_ret
    exact ⟨by rw [hv.out]; rfl, HM.out⟩

set_option maxRecDepth 100000 in
set_option maxHeartbeats 6400000 in
theorem form_any (op : Int) (w : World) : Calls Tryz.prog 55 #[.int .i64 op] w fun e w' => e = .returned (.string ⟨(W.form op).toArray⟩) ∧ Below w.heap.size w w' := by
  have hb : Hid (Below w.heap.size w w) := Below.refl _ _
  cases h1 : (op == 1)
  case true =>
    obtain rfl := beq_iff_eq.1 h1
    go_enter Tryz.func55, Tryz.ntmps55
    go_wp2
    go_ret
    exact ⟨rfl, hb.out⟩
  cases h2 : (op == 2)
  case true =>
    obtain rfl := beq_iff_eq.1 h2
    go_enter Tryz.func55, Tryz.ntmps55
    go_wp2
    go_ret
    exact ⟨rfl, hb.out⟩
  cases h3 : (op == 3)
  case true =>
    obtain rfl := beq_iff_eq.1 h3
    go_enter Tryz.func55, Tryz.ntmps55
    go_wp2
    go_ret
    exact ⟨rfl, hb.out⟩
  cases h4 : (op == 4)
  case true =>
    obtain rfl := beq_iff_eq.1 h4
    go_enter Tryz.func55, Tryz.ntmps55
    go_wp2
    go_ret
    exact ⟨rfl, hb.out⟩
  cases h38 : (op == 38)
  case true =>
    obtain rfl := beq_iff_eq.1 h38
    go_enter Tryz.func55, Tryz.ntmps55
    go_wp2
    go_ret
    exact ⟨rfl, hb.out⟩
  cases h44 : (op == 44)
  case true =>
    obtain rfl := beq_iff_eq.1 h44
    go_enter Tryz.func55, Tryz.ntmps55
    go_wp2
    go_ret
    exact ⟨rfl, hb.out⟩
  cases h45 : (op == 45)
  case true =>
    obtain rfl := beq_iff_eq.1 h45
    go_enter Tryz.func55, Tryz.ntmps55
    go_wp2
    go_ret
    exact ⟨rfl, hb.out⟩
  cases h46 : (op == 46)
  case true =>
    obtain rfl := beq_iff_eq.1 h46
    go_enter Tryz.func55, Tryz.ntmps55
    go_wp2
    go_ret
    exact ⟨rfl, hb.out⟩
  cases h47 : (op == 47)
  case true =>
    obtain rfl := beq_iff_eq.1 h47
    go_enter Tryz.func55, Tryz.ntmps55
    go_wp2
    go_ret
    exact ⟨rfl, hb.out⟩
  cases h48 : (op == 48)
  case true =>
    obtain rfl := beq_iff_eq.1 h48
    go_enter Tryz.func55, Tryz.ntmps55
    go_wp2
    go_ret
    exact ⟨rfl, hb.out⟩
  cases h49 : (op == 49)
  case true =>
    obtain rfl := beq_iff_eq.1 h49
    go_enter Tryz.func55, Tryz.ntmps55
    go_wp2
    go_ret
    exact ⟨rfl, hb.out⟩
  cases h50 : (op == 50)
  case true =>
    obtain rfl := beq_iff_eq.1 h50
    go_enter Tryz.func55, Tryz.ntmps55
    go_wp2
    go_ret
    exact ⟨rfl, hb.out⟩
  cases h59 : (op == 59)
  case true =>
    obtain rfl := beq_iff_eq.1 h59
    go_enter Tryz.func55, Tryz.ntmps55
    go_wp2
    go_ret
    exact ⟨rfl, hb.out⟩
  have hv : Hid (W.form op = W.fK op) := (by rw [W.form, h1, h2, h3, h4, h38, h44, h45, h46, h47, h48, h49, h50, h59]; rfl : W.form op = W.fK op)
  go_enter Tryz.func55, Tryz.ntmps55
  go_wp2_with (go_at_call 87; refine (formK_any _ _).mono ?_; rintro e w1 ⟨rfl, hm⟩)
  go_ret
  exact ⟨by rw [hv.out]; rfl, hm⟩
end Go.Proofs.YtbndaiombnikfaaGreatDoor

/- What layFields returns: the word of all fields but the immediate. -/
namespace Go.Proofs.YtbndaiombnikfaaGreatDoor
open Go.ChangeShapes Go.WideShapes Go.ChangeAt Go.RowKit
set_option linter.unusedVariables false
set_option linter.unusedSimpArgs false
attribute [local go_sem ↓] Go.wp_at_zero Go.wp_at_succ

abbrev SF (w : World) (i : W.I) (w' : World) : Prop :=
  Below w.heap.size w w' ∧ w.heap.size < w'.heap.size ∧ w'.cell? ⟨w.heap.size, 4, none⟩ = some (.int .i64 i.csr) ∧ w'.cell? ⟨w.heap.size, 6, none⟩ = some (.bool i.aq) ∧ w'.cell? ⟨w.heap.size, 7, none⟩ = some (.bool i.rl)
theorem SF.below {w a b : World} {i : W.I} (h : SF w i a) (hm : Below a.heap.size a b) : SF w i b := by
  obtain ⟨h1, h2, h3, h4, h5⟩ := h
  have q : ∀ j, b.cell? ⟨w.heap.size, j, none⟩ = a.cell? ⟨w.heap.size, j, none⟩ := fun j => hm.cell h2
  refine ⟨h1.trans (hm.mono h1.size), by have := hm.size; omega, ?_⟩
  simp only [q]
  exact ⟨h3, h4, h5⟩
theorem SF.alloc {w a : World} {i : W.I} (h : SF w i a) (o : Obj) : SF w i (a.alloc o) := h.below ((Below.refl _ _).alloc (Nat.le_refl _) _)
theorem SF.start {w w1 : World} {i : W.I} {t : TypeId}
    (hb1 : Below (w.alloc (.cells #[.int .i64 i.op, .int .i64 i.rd, .int .i64 i.rs1, .int .i64 i.rs2, .int .i64 i.csr, .int .u32 i.imm, .bool i.aq, .bool i.rl] t)).heap.size
      (w.alloc (.cells #[.int .i64 i.op, .int .i64 i.rd, .int .i64 i.rs1, .int .i64 i.rs2, .int .i64 i.csr, .int .u32 i.imm, .bool i.aq, .bool i.rl] t)) w1) : SF w i w1.drew := by
  have hs := hb1.size
  simp at hs
  have q : ∀ j, w1.drew.cell? ⟨w.heap.size, j, none⟩ = (w.alloc (.cells #[.int .i64 i.op, .int .i64 i.rd, .int .i64 i.rs1, .int .i64 i.rs2, .int .i64 i.csr, .int .u32 i.imm, .bool i.aq, .bool i.rl] t)).cell? ⟨w.heap.size, j, none⟩ := fun j => hb1.drew.cell (p := ⟨w.heap.size, j, none⟩) (by simp)
  refine ⟨(((Below.refl _ _).alloc (Nat.le_refl _) _).trans (hb1.mono (by simp))).drew, by show w.heap.size < w1.heap.size; omega, ?_⟩
  simp only [q]
  simp [go_sem]

theorem three_cells (w : World) (t : TypeId) (a b c : Int) :
    (∀ j, j < 3 → (w.alloc (.cells #[.int .i64 20, .int .i64 12, .int .u32 a, .int .i64 26, .int .i64 1, .int .u32 b, .int .i64 25, .int .i64 1, .int .u32 c] t)).cell? ⟨w.heap.size, 0 + j * 3, none⟩ = some (.int .i64 (W.gL j)))
    ∧ (∀ j, j < 3 → (w.alloc (.cells #[.int .i64 20, .int .i64 12, .int .u32 a, .int .i64 26, .int .i64 1, .int .u32 b, .int .i64 25, .int .i64 1, .int .u32 c] t)).cell? ⟨w.heap.size, 0 + j * 3 + 1, none⟩ = some (.int .i64 (W.gN j)))
    ∧ (∀ j, j < 3 → (w.alloc (.cells #[.int .i64 20, .int .i64 12, .int .u32 a, .int .i64 26, .int .i64 1, .int .u32 b, .int .i64 25, .int .i64 1, .int .u32 c] t)).cell? ⟨w.heap.size, 0 + j * 3 + 2, none⟩ = some (.int .u32 (W.three a b c j))) := by
  refine ⟨?_, ?_, ?_⟩
  all_goals
    intro j hj
    match j, hj with
    | 0, _ | 1, _ | 2, _ => simp [go_sem, W.gL, W.gN, W.three]

theorem bit_bel (b : Bool) (w : World) : Calls Tryz.prog 84 #[.bool b] w fun e w' => e = .returned (.int .u32 (W.one b)) ∧ Below w.heap.size w w' :=
  (bit_any b w).mono fun e w' ⟨h, hk⟩ => ⟨h, by rw [← hk]; exact Below.refl _ _⟩

set_option maxRecDepth 100000 in
set_option maxHeartbeats 12800000 in
theorem layF_any (i : W.I) (w : World) :
    Calls Tryz.prog 52 #[inV i] w fun e w' => e = .returned (.int .u32 (W.layF i)) ∧ Below w.heap.size w w' := by
  unfold inV
  have eF : Hid (W.layF i = bits .or .u32 (W.pack W.hL W.hN (six 0 (i.rd % 4294967296) 0 (i.rs1 % 4294967296) (i.rs2 % 4294967296) 0) 6) (W.pack W.gL W.gN (W.three (i.csr % 4294967296) (W.one i.aq) (W.one i.rl)) 3)) := rfl
  go_enter Tryz.func52, Tryz.ntmps52
  go_wp2_with (go_at_call 83; refine (join_any _ _ _ _ _ _ _).mono ?_; rintro e w1 ⟨rfl, hb1⟩)
  have hS0 := SF.start hb1
  clear hb1
  go_region_held3 (fun w' => Below w.heap.size w w' ∧ w.heap.size < w'.heap.size ∧ w'.cell? ⟨w.heap.size, 4, none⟩ = some (.int .i64 i.csr) ∧ w'.cell? ⟨w.heap.size, 6, none⟩ = some (.bool i.aq) ∧ w'.cell? ⟨w.heap.size, 7, none⟩ = some (.bool i.rl))
    (first
      | with_reducible assumption
      | (with_reducible refine SF.alloc (w := w) (i := i) ?_ _; with_reducible assumption)
      | (with_reducible refine SF.below (w := w) (i := i) ?_ hm; with_reducible assumption)
      | (refine SF.below (w := w) (i := i) ?_ hm; assumption))
    (first
      | (go_at_call 84; refine (bit_bel _ _).mono ?_; rintro e w' ⟨rfl, hm⟩)
      | (go_at_call 80; refine (pack_any _ 0 3 3 W.gL W.gN (W.three (i.csr % 4294967296) (W.one i.aq) (W.one i.rl)) _ (by decide) (by simp) (three_cells _ _ _ _ _).1 (three_cells _ _ _ _ _).2.1 (three_cells _ _ _ _ _).2.2).mono ?_; rintro e w' ⟨rfl, hm⟩))
  go_wp2
  go_ret
  exact ⟨ret_int eF.out.symm, by (go_split_ands; assumption)⟩

end Go.Proofs.YtbndaiombnikfaaGreatDoor

/- What layImm returns: the word of an immediate alone. -/
namespace Go.Proofs.YtbndaiombnikfaaGreatDoor
open Go.ChangeShapes Go.WideShapes Go.ChangeAt Go.RowKit
set_option linter.unusedVariables false
set_option linter.unusedSimpArgs false

set_option maxHeartbeats 3200000 in
theorem layImm_any (s : W.Sh) (v : Int) (w : World) :
    Calls Tryz.prog 48 #[shV s, .int .u32 v] w fun e w' => e = .returned (.tuple #[.int .u32 (W.layIV s v), .bool (W.layIB s v)]) ∧ Below w.heap.size w w' := by
  have hb : Below w.heap.size w w := Below.refl _ _
  obtain ⟨fixed, rd, rs1, rs2, csr, ord, fmt, low, size⟩ := s
  unfold shV
  cases h5 : W.hasI fmt size
  · have hr : Hid (W.layIV ⟨fixed, rd, rs1, rs2, csr, ord, fmt, low, size⟩ v = 0 ∧ W.layIB ⟨fixed, rd, rs1, rs2, csr, ord, fmt, low, size⟩ v = true) := by
      have : W.layIV ⟨fixed, rd, rs1, rs2, csr, ord, fmt, low, size⟩ v = 0 ∧ W.layIB ⟨fixed, rd, rs1, rs2, csr, ord, fmt, low, size⟩ v = true := by simp [W.layIV, W.layIB, W.hasImm, h5]
      exact this
    go_enter Tryz.func48, Tryz.ntmps48
    go_wp2_with (go_at_call 79; refine (hasImm_ex _ _ _ _ _ _ _ _ _ _).mono ?_; rintro e w' ⟨rfl, rfl⟩)
    exact bodyPost_ret (v := .tuple #[.int .u32 0, .bool true]) (by simp [results, Tryz.results48, go_sem]) rfl ⟨by rw [hr.out.1, hr.out.2], (hb.alloc hb.size _).alloc (by simp) _⟩
  · cases h6 : decide (0 < size)
    · have hr : Hid (W.layIV ⟨fixed, rd, rs1, rs2, csr, ord, fmt, low, size⟩ v = W.layV fmt v ∧ W.layIB ⟨fixed, rd, rs1, rs2, csr, ord, fmt, low, size⟩ v = W.layB fmt v) := by
        have : W.layIV ⟨fixed, rd, rs1, rs2, csr, ord, fmt, low, size⟩ v = W.layV fmt v ∧ W.layIB ⟨fixed, rd, rs1, rs2, csr, ord, fmt, low, size⟩ v = W.layB fmt v := by simp [W.layIV, W.layIB, W.hasImm, h5, h6]
        exact this
      go_enter Tryz.func48, Tryz.ntmps48
      go_wp2_with (first
        | (go_at_call 79; refine (hasImm_ex _ _ _ _ _ _ _ _ _ _).mono ?_; rintro e w' ⟨rfl, rfl⟩)
        | (go_at_call 82; refine (from_ (lay_any _ _ _) ((hb.alloc hb.size _).alloc (by simp) _)).mono ?_; clear hb; rintro e w' ⟨rfl, hb⟩))
      exact bodyPost_ret (v := .tuple #[.int .u32 (W.layV fmt v), .bool (W.layB fmt v)]) (by simp [results, Tryz.results48, go_sem]) rfl ⟨by rw [hr.out.1, hr.out.2], hb⟩
    · have hr : Hid (W.layIV ⟨fixed, rd, rs1, rs2, csr, ord, fmt, low, size⟩ v = W.lone v low size ∧ W.layIB ⟨fixed, rd, rs1, rs2, csr, ord, fmt, low, size⟩ v = (W.immS ⟨fixed, rd, rs1, rs2, csr, ord, fmt, low, size⟩ (W.lone v low size) == v)) := by
        have : W.layIV ⟨fixed, rd, rs1, rs2, csr, ord, fmt, low, size⟩ v = W.lone v low size ∧ W.layIB ⟨fixed, rd, rs1, rs2, csr, ord, fmt, low, size⟩ v = (W.immS ⟨fixed, rd, rs1, rs2, csr, ord, fmt, low, size⟩ (W.lone v low size) == v) := by simp [W.layIV, W.layIB, W.hasImm, h5, h6]
        exact this
      go_enter Tryz.func48, Tryz.ntmps48
      go_wp2_with (first
        | (go_at_call 79; refine (hasImm_ex _ _ _ _ _ _ _ _ _ _).mono ?_; rintro e w' ⟨rfl, rfl⟩))
      refine (pack_any (w.heap.size + 2) 0 1 1 (fun _ => low) (fun _ => size) (fun _ => v) _ (by decide) (by simp) ?_ ?_ ?_).mono ?_
      · intro j hj; obtain rfl : j = 0 := by omega
        simp [go_sem]
      · intro j hj; obtain rfl : j = 0 := by omega
        simp [go_sem]
      · intro j hj; obtain rfl : j = 0 := by omega
        simp [go_sem]
      rintro e w2 ⟨rfl, hb2⟩
      have c0 := hb2.cell (p := ⟨w.heap.size, 0, none⟩) (by simp; omega)
      simp [go_sem] at c0
      have c1 := hb2.cell (p := ⟨w.heap.size, 1, none⟩) (by simp; omega)
      simp [go_sem] at c1
      have c2 := hb2.cell (p := ⟨w.heap.size, 2, none⟩) (by simp; omega)
      simp [go_sem] at c2
      have c3 := hb2.cell (p := ⟨w.heap.size, 3, none⟩) (by simp; omega)
      simp [go_sem] at c3
      have c4 := hb2.cell (p := ⟨w.heap.size, 4, none⟩) (by simp; omega)
      simp [go_sem] at c4
      have c5 := hb2.cell (p := ⟨w.heap.size, 5, none⟩) (by simp; omega)
      simp [go_sem] at c5
      have c6 := hb2.cell (p := ⟨w.heap.size, 6, none⟩) (by simp; omega)
      simp [go_sem] at c6
      have c7 := hb2.cell (p := ⟨w.heap.size, 7, none⟩) (by simp; omega)
      simp [go_sem] at c7
      have c8 := hb2.cell (p := ⟨w.heap.size, 8, none⟩) (by simp; omega)
      simp [go_sem] at c8
      have hb3 : Below w.heap.size w w2 := (((hb.alloc hb.size _).alloc (by simp) _).alloc (by simp; omega) _).trans (hb2.mono (by simp; omega))
      clear hb2 hb
      have eL : Hid (W.lone v low size = W.pack (fun _ => low) (fun _ => size) (fun _ => v) 1) := rfl
      go_wp2_with (go_at_call 81; refine (from_ (immS_any ⟨fixed, rd, rs1, rs2, csr, ord, fmt, low, size⟩ _ _) hb3).mono ?_; clear hb3; rintro e w3 ⟨rfl, hb3⟩)
      exact bodyPost_ret (v := .tuple #[.int .u32 (W.lone v low size), .bool (W.immS ⟨fixed, rd, rs1, rs2, csr, ord, fmt, low, size⟩ (W.lone v low size) == v)]) (by simp [results, Tryz.results48, go_sem, eL.out]) rfl ⟨by rw [hr.out.1, hr.out.2], hb3⟩

end Go.Proofs.YtbndaiombnikfaaGreatDoor

/- What Encode returns. -/
namespace Go.Proofs.YtbndaiombnikfaaGreatDoor
open Go.ChangeShapes Go.WideShapes Go.ChangeAt Go.RowKit
set_option linter.unusedVariables false
set_option linter.unusedSimpArgs false
attribute [local go_sem ↓] Go.wp_at_zero Go.wp_at_succ

/-- The block of an error's variable. -/
def gl (j : Nat) : Nat := [1, 2, 3, 6, 7, 0, 8, 9, 10, 11, 12].getD j 0
/-- The document's errors lie where the program laid them: each a pointer of its own. -/
structure Sent (A : Nat → Addr) (w : World) : Prop where
  cell : ∀ j, j < 11 → w.cell? ⟨gl j, 0, none⟩ = some (.iface 194 (.pointer (some (A j))))
  apart : ∀ i j, i < 11 → j < 11 → A i = A j → i = j
  held : ∀ j, j < 11 → ∃ c t, w.heap[(A j).block]? = some (.cells c t (0, 0))
theorem Sent.below {A : Nat → Addr} {a b : World} (h : Sent A a) (hm : Below a.heap.size a b) : Sent A b where
  cell := fun j hj => (hm.cell (p := ⟨gl j, 0, none⟩) (World.block_lt_of_cell? _ _ (h.cell j hj))).trans (h.cell j hj)
  apart := h.apart
  held := fun j hj => by
    obtain ⟨c, t, hc⟩ := h.held j hj
    exact ⟨c, t, (hm.block _ (Array.getElem?_eq_some_iff.1 hc).1).trans hc⟩
def errV (A : Nat → Addr) : Nat → Value
  | 0 => .nilIface
  | k + 1 => .iface 194 (.pointer (some (A k)))

theorem idx_at (k : Nat) (hk : k < 70) (w : World) : (Instr.index 91 (.agg codesA) (.int .i64 k)).run Tryz.prog w = .ok (.int .u32 (W.code k)) w := by
  unfold Instr.index
  simp [go_sem]
  rw [if_pos hk, codesA_at k hk]
  rfl

/-- The instruction lies in block g. -/
def InAt (g : Nat) (i : W.I) (w' : World) : Prop :=
  w'.cell? ⟨g, 0, none⟩ = some (.int .i64 i.op) ∧ w'.cell? ⟨g, 1, none⟩ = some (.int .i64 i.rd) ∧ w'.cell? ⟨g, 2, none⟩ = some (.int .i64 i.rs1) ∧ w'.cell? ⟨g, 3, none⟩ = some (.int .i64 i.rs2) ∧ w'.cell? ⟨g, 4, none⟩ = some (.int .i64 i.csr) ∧ w'.cell? ⟨g, 5, none⟩ = some (.int .u32 i.imm) ∧ w'.cell? ⟨g, 6, none⟩ = some (.bool i.aq) ∧ w'.cell? ⟨g, 7, none⟩ = some (.bool i.rl)
def ShAt (g : Nat) (s : W.Sh) (w' : World) : Prop :=
  w'.cell? ⟨g, 0, none⟩ = some (.int .u32 s.fixed) ∧ w'.cell? ⟨g, 1, none⟩ = some (.bool s.rd) ∧ w'.cell? ⟨g, 2, none⟩ = some (.bool s.rs1) ∧ w'.cell? ⟨g, 3, none⟩ = some (.bool s.rs2) ∧ w'.cell? ⟨g, 4, none⟩ = some (.bool s.csr) ∧ w'.cell? ⟨g, 5, none⟩ = some (.bool s.ord) ∧ w'.cell? ⟨g, 6, none⟩ = some (.int .u8 s.fmt) ∧ w'.cell? ⟨g, 7, none⟩ = some (.int .i64 s.low) ∧ w'.cell? ⟨g, 8, none⟩ = some (.int .i64 s.size)
theorem InAt.below {g : Nat} {i : W.I} {a b : World} (h : InAt g i a) (hm : Below a.heap.size a b) : InAt g i b := by
  have hg := World.block_lt_of_cell? _ _ h.1
  have q : ∀ j, b.cell? ⟨g, j, none⟩ = a.cell? ⟨g, j, none⟩ := fun j => hm.cell hg
  unfold InAt
  simp only [q]
  exact h
theorem ShAt.below {g : Nat} {s : W.Sh} {a b : World} (h : ShAt g s a) (hm : Below a.heap.size a b) : ShAt g s b := by
  have hg := World.block_lt_of_cell? _ _ h.1
  have q : ∀ j, b.cell? ⟨g, j, none⟩ = a.cell? ⟨g, j, none⟩ := fun j => hm.cell hg
  unfold ShAt
  simp only [q]
  exact h
theorem InAt.start (w : World) (i : W.I) (t : TypeId) : InAt w.heap.size i (w.alloc (.cells #[.int .i64 i.op, .int .i64 i.rd, .int .i64 i.rs1, .int .i64 i.rs2, .int .i64 i.csr, .int .u32 i.imm, .bool i.aq, .bool i.rl] t)) := by
  unfold InAt; simp [go_sem]
theorem ShAt.start (w : World) (s : W.Sh) (t : TypeId) : ShAt w.heap.size s (w.alloc (.cells #[.int .u32 s.fixed, .bool s.rd, .bool s.rs1, .bool s.rs2, .bool s.csr, .bool s.ord, .int .u8 s.fmt, .int .i64 s.low, .int .i64 s.size] t)) := by
  unfold ShAt; simp [go_sem]

/-- Encode where the op is none. -/
theorem encode_kind (A : Nat → Addr) (i : W.I) (w : World) (hS : Sent A w) (h1 : W.known i.op = false) :
    Calls Tryz.prog 25 #[inV i] w fun e w' => e = .returned (.tuple #[.int .u32 0, errV A 1]) ∧ Below w.heap.size w w' := by
  unfold inV
  have c0 : w.cell? ⟨1, 0, none⟩ = some _ := hS.cell 0 (by omega)
  have hw : 1 < w.heap.size := World.block_lt_of_cell? _ _ c0
  have HS : Hid (Sent A w) := hS
  clear hS
  go_enter Tryz.func25, Tryz.ntmps25
  go_wp2_with (go_at_call 46; refine (known_any _ _).mono ?_; rintro e w' ⟨rfl, rfl⟩)
  go_quiet (fail)
  go_wp2
  exact bodyPost_ret (v := .tuple #[.int .u32 0, errV A 1]) (by simp [results, Tryz.results25, go_sem, errV]) rfl ⟨rfl, below_drewN ((Below.refl _ _).alloc (Nat.le_refl _) _) _⟩

theorem enc1 {w w1 : World} {i : W.I} {t : TypeId} (hb1 : Below (w.alloc (.cells #[.int .i64 i.op, .int .i64 i.rd, .int .i64 i.rs1, .int .i64 i.rs2, .int .i64 i.csr, .int .u32 i.imm, .bool i.aq, .bool i.rl] t)).heap.size (w.alloc (.cells #[.int .i64 i.op, .int .i64 i.rd, .int .i64 i.rs1, .int .i64 i.rs2, .int .i64 i.csr, .int .u32 i.imm, .bool i.aq, .bool i.rl] t)) w1) :
    Below w.heap.size w w1 ∧ w.heap.size < w1.heap.size ∧ InAt w.heap.size i w1 := by
  have hz := hb1.size
  simp at hz
  exact ⟨((Below.refl _ _).alloc (Nat.le_refl _) _).trans (hb1.mono (by simp)), by omega, (InAt.start w i t).below hb1⟩
/-- What holds while Encode goes on: the instruction lies in a block of its own, its shape in another. -/
structure St (A : Nat → Addr) (i : W.I) (s : W.Sh) (N : Nat) (w wc : World) : Prop where
  bel : Below w.heap.size w wc
  lt : w.heap.size < N
  lt2 : N < wc.heap.size
  inst : InAt w.heap.size i wc
  shape : ShAt N s wc
  sent : Sent A wc
theorem St.below {A : Nat → Addr} {i : W.I} {s : W.Sh} {N : Nat} {w a b : World} (h : St A i s N w a) (hm : Below a.heap.size a b) : St A i s N w b :=
  ⟨h.bel.trans (hm.mono h.bel.size), h.lt, Nat.lt_of_lt_of_le h.lt2 hm.size, h.inst.below hm, h.shape.below hm, h.sent.below hm⟩
theorem St.start {A : Nat → Addr} {i : W.I} {w w1 : World} {t : TypeId} (s : W.Sh) (hS : Sent A w) (h : Below w.heap.size w w1 ∧ w.heap.size < w1.heap.size ∧ InAt w.heap.size i w1) :
    St A i s w1.heap.size w (w1.alloc (.cells #[.int .u32 s.fixed, .bool s.rd, .bool s.rs1, .bool s.rs2, .bool s.csr, .bool s.ord, .int .u8 s.fmt, .int .i64 s.low, .int .i64 s.size] t)) :=
  ⟨h.1.alloc (by omega) _, h.2.1, by simp, h.2.2.below ((Below.refl _ _).alloc (Nat.le_refl _) _), ShAt.start _ _ _, (hS.below h.1).below ((Below.refl _ _).alloc (Nat.le_refl _) _)⟩

set_option maxHeartbeats 3200000 in
/-- Encode where the immediate has no room. -/
theorem encode_imm (A : Nat → Addr) (i : W.I) (w : World) (hS : Sent A w) (h1 : W.known i.op = true) (h2 : W.layIB (W.shp i.op) i.imm = false) :
    Calls Tryz.prog 25 #[inV i] w fun e w' => e = .returned (.tuple #[.int .u32 0, errV A 2]) ∧ Below w.heap.size w w' := by
  unfold inV
  have HS : Hid (Sent A w) := hS
  clear hS
  go_enter Tryz.func25, Tryz.ntmps25
  go_wp2_with (first
    | (go_at_call 46; refine (known_any _ _).mono ?_; rintro e w' ⟨rfl, rfl⟩)
    | (go_at_call 47; refine (shapeOf_any _ _).mono ?_; rintro e w1 ⟨rfl, hb1⟩; have hE := enc1 hb1; clear hb1; have hT : Hid (∀ t, St A i (W.shp i.op) w1.heap.size w (w1.alloc (.cells _ t))) := fun t => St.start (t := t) (W.shp i.op) HS.out hE; obtain ⟨hq1, hq2, x0, x1, x2, x3, x4, x5, x6, x7⟩ := hE; unfold shV)
    | (go_at_call 48; refine (layImm_any (W.shp i.op) _ _).mono ?_; rintro e w2 ⟨rfl, hb2⟩; have hU := (hT.out _).below hb2; clear hb2; have c1 : w2.cell? ⟨2, 0, none⟩ = some _ := hU.sent.cell 1 (by omega); have hB := hU.bel; clear hU))
  go_quiet (fail)
  go_wp2
  exact bodyPost_ret (v := .tuple #[.int .u32 0, errV A 2]) (by simp [results, Tryz.results25, go_sem, errV]) rfl ⟨rfl, below_drewN hB _⟩

set_option maxHeartbeats 3200000 in
/-- Encode where a field has no room. -/
theorem encode_range (A : Nat → Addr) (i : W.I) (w : World) (hS : Sent A w) (h1 : W.known i.op = true) (h2 : W.layIB (W.shp i.op) i.imm = true) (h3 : W.inRange i = false) :
    Calls Tryz.prog 25 #[inV i] w fun e w' => e = .returned (.tuple #[.int .u32 0, errV A 2]) ∧ Below w.heap.size w w' := by
  unfold inV
  have HS : Hid (Sent A w) := hS
  clear hS
  go_enter Tryz.func25, Tryz.ntmps25
  go_wp2_with (first
    | (go_at_call 46; refine (known_any _ _).mono ?_; rintro e w' ⟨rfl, rfl⟩)
    | (go_at_call 47; refine (shapeOf_any _ _).mono ?_; rintro e w1 ⟨rfl, hb1⟩; have hE := enc1 hb1; clear hb1; have hT : Hid (∀ t, St A i (W.shp i.op) w1.heap.size w (w1.alloc (.cells _ t))) := fun t => St.start (t := t) (W.shp i.op) HS.out hE; obtain ⟨hq1, hq2, x0, x1, x2, x3, x4, x5, x6, x7⟩ := hE; unfold shV)
    | (go_at_call 48; refine (layImm_any (W.shp i.op) _ _).mono ?_; rintro e w2 ⟨rfl, hb2⟩; have hU : Hid (St A i (W.shp i.op) w1.heap.size w w2) := (hT.out _).below hb2; clear hb2; obtain ⟨y0, y1, y2, y3, y4, y5, y6, y7⟩ := hU.out.inst)
    | (go_at_call 49; refine (inRange_any i _).mono ?_; rintro e w3 ⟨rfl, hb3⟩; have hV := hU.out.below hb3; clear hb3; have c1 : w3.cell? ⟨2, 0, none⟩ = some _ := hV.sent.cell 1 (by omega); have hB := hV.bel; clear hV))
  go_quiet (fail)
  go_wp2
  exact bodyPost_ret (v := .tuple #[.int .u32 0, errV A 2]) (by simp [results, Tryz.results25, go_sem, errV]) rfl ⟨rfl, below_drewN hB _⟩

end Go.Proofs.YtbndaiombnikfaaGreatDoor

/- What Encode returns where all fields have room. -/
namespace Go.Proofs.YtbndaiombnikfaaGreatDoor
open Go.ChangeShapes Go.WideShapes Go.ChangeAt Go.RowKit
set_option linter.unusedVariables false
set_option linter.unusedSimpArgs false
attribute [local go_sem ↓] Go.wp_at_zero Go.wp_at_succ

abbrev SE (A : Nat → Addr) (i : W.I) (s : W.Sh) (N : Nat) (w w' : World) : Prop := St A i s N w w' ∧ (w'.cell? ⟨w.heap.size, 0, none⟩ = some (.int .i64 i.op) ∧ w'.cell? ⟨w.heap.size, 1, none⟩ = some (.int .i64 i.rd) ∧ w'.cell? ⟨w.heap.size, 2, none⟩ = some (.int .i64 i.rs1) ∧ w'.cell? ⟨w.heap.size, 3, none⟩ = some (.int .i64 i.rs2) ∧ w'.cell? ⟨w.heap.size, 4, none⟩ = some (.int .i64 i.csr) ∧ w'.cell? ⟨w.heap.size, 5, none⟩ = some (.int .u32 i.imm) ∧ w'.cell? ⟨w.heap.size, 6, none⟩ = some (.bool i.aq) ∧ w'.cell? ⟨w.heap.size, 7, none⟩ = some (.bool i.rl)) ∧ (w'.cell? ⟨N, 0, none⟩ = some (.int .u32 s.fixed) ∧ w'.cell? ⟨N, 1, none⟩ = some (.bool s.rd) ∧ w'.cell? ⟨N, 2, none⟩ = some (.bool s.rs1) ∧ w'.cell? ⟨N, 3, none⟩ = some (.bool s.rs2) ∧ w'.cell? ⟨N, 4, none⟩ = some (.bool s.csr) ∧ w'.cell? ⟨N, 5, none⟩ = some (.bool s.ord) ∧ w'.cell? ⟨N, 6, none⟩ = some (.int .u8 s.fmt) ∧ w'.cell? ⟨N, 7, none⟩ = some (.int .i64 s.low) ∧ w'.cell? ⟨N, 8, none⟩ = some (.int .i64 s.size))
theorem SE.of {A : Nat → Addr} {i : W.I} {s : W.Sh} {N : Nat} {w w' : World} (h : St A i s N w w') : SE A i s N w w' := ⟨h, h.inst, h.shape⟩
theorem SE.below {A : Nat → Addr} {i : W.I} {s : W.Sh} {N : Nat} {w a b : World} (h : SE A i s N w a) (hm : Below a.heap.size a b) : SE A i s N w b := SE.of (h.1.below hm)

theorem neq_inst (a b : W.I) (w : World) : (binOp .neq 24 (inV a) (inV b)).run Tryz.prog w = .ok (.bool (!W.same a b)) w := by
  unfold inV W.same
  by_cases h0 : a.op = b.op
  · by_cases h1 : a.rd = b.rd
    · by_cases h2 : a.rs1 = b.rs1
      · by_cases h3 : a.rs2 = b.rs2
        · by_cases h4 : a.csr = b.csr
          · by_cases h5 : a.imm = b.imm
            · by_cases h6 : a.aq = b.aq
              · by_cases h7 : a.rl = b.rl
                · simp [go_sem, h0, h1, h2, h3, h4, h5, h6, h7]
                · simp [go_sem, h0, h1, h2, h3, h4, h5, h6, h7]
              · simp [go_sem, h0, h1, h2, h3, h4, h5, h6]
            · simp [go_sem, h0, h1, h2, h3, h4, h5]
          · simp [go_sem, h0, h1, h2, h3, h4]
        · simp [go_sem, h0, h1, h2, h3]
      · simp [go_sem, h0, h1, h2]
    · simp [go_sem, h0, h1]
  · simp [go_sem, h0]

set_option maxRecDepth 100000 in
set_option maxHeartbeats 6400000 in
/-- Encode where a field is told that the op has no use for. -/
theorem encode_shape (A : Nat → Addr) (i : W.I) (w : World) (hS : Sent A w) (h1 : W.known i.op = true) (h2 : W.layIB (W.shp i.op) i.imm = true) (h3 : W.inRange i = true) (h4 : W.same (W.only (W.shp i.op) i) i = false) :
    Calls Tryz.prog 25 #[inV i] w fun e w' => e = .returned (.tuple #[.int .u32 0, errV A 3]) ∧ Below w.heap.size w w' := by
  have hcmp : ∀ w, (binOp .neq 24 (.agg #[.int .i64 (W.only (W.shp i.op) i).op, .int .i64 (W.only (W.shp i.op) i).rd, .int .i64 (W.only (W.shp i.op) i).rs1, .int .i64 (W.only (W.shp i.op) i).rs2, .int .i64 (W.only (W.shp i.op) i).csr, .int .u32 (W.only (W.shp i.op) i).imm, .bool (W.only (W.shp i.op) i).aq, .bool (W.only (W.shp i.op) i).rl]) (.agg #[.int .i64 i.op, .int .i64 i.rd, .int .i64 i.rs1, .int .i64 i.rs2, .int .i64 i.csr, .int .u32 i.imm, .bool i.aq, .bool i.rl])).run Tryz.prog w = .ok (.bool true) w := fun w => by
    have := neq_inst (W.only (W.shp i.op) i) i w
    rw [h4] at this
    exact this
  clear h4
  unfold inV
  have HS : Hid (Sent A w) := hS
  clear hS
  go_enter Tryz.func25, Tryz.ntmps25
  go_wp2_with (first
    | (go_at_call 46; refine (known_any _ _).mono ?_; rintro e w' ⟨rfl, rfl⟩)
    | (go_at_call 47; refine (shapeOf_any _ _).mono ?_; rintro e w1 ⟨rfl, hb1⟩; have hE := enc1 hb1; clear hb1; have hT : Hid (∀ t, St A i (W.shp i.op) w1.heap.size w (w1.alloc (.cells _ t))) := fun t => St.start (t := t) (W.shp i.op) HS.out hE; obtain ⟨hq1, hq2, x0, x1, x2, x3, x4, x5, x6, x7⟩ := hE; unfold shV)
    | (go_at_call 48; refine (layImm_any (W.shp i.op) _ _).mono ?_; rintro e w2 ⟨rfl, hb2⟩; have hU : Hid (St A i (W.shp i.op) w1.heap.size w w2) := (hT.out _).below hb2; clear hb2; obtain ⟨y0, y1, y2, y3, y4, y5, y6, y7⟩ := hU.out.inst)
    | (go_at_call 49; refine (inRange_any i _).mono ?_; rintro e w3 ⟨rfl, hb3⟩; have hV : Hid (St A i (W.shp i.op) w1.heap.size w w3) := hU.out.below hb3; clear hb3))
  have hS0 := SE.of (hV.out.below (Below.refl _ _).drew)
  clear x0 x1 x2 x3 x4 x5 x6 x7 y0 y1 y2 y3 y4 y5 y6 y7 hq1 hq2
  go_region_held3 (fun w' => St A i (W.shp i.op) w1.heap.size w w' ∧ (w'.cell? ⟨w.heap.size, 0, none⟩ = some (.int .i64 i.op) ∧ w'.cell? ⟨w.heap.size, 1, none⟩ = some (.int .i64 i.rd) ∧ w'.cell? ⟨w.heap.size, 2, none⟩ = some (.int .i64 i.rs1) ∧ w'.cell? ⟨w.heap.size, 3, none⟩ = some (.int .i64 i.rs2) ∧ w'.cell? ⟨w.heap.size, 4, none⟩ = some (.int .i64 i.csr) ∧ w'.cell? ⟨w.heap.size, 5, none⟩ = some (.int .u32 i.imm) ∧ w'.cell? ⟨w.heap.size, 6, none⟩ = some (.bool i.aq) ∧ w'.cell? ⟨w.heap.size, 7, none⟩ = some (.bool i.rl)) ∧ (w'.cell? ⟨w1.heap.size, 0, none⟩ = some (.int .u32 (W.shp i.op).fixed) ∧ w'.cell? ⟨w1.heap.size, 1, none⟩ = some (.bool (W.shp i.op).rd) ∧ w'.cell? ⟨w1.heap.size, 2, none⟩ = some (.bool (W.shp i.op).rs1) ∧ w'.cell? ⟨w1.heap.size, 3, none⟩ = some (.bool (W.shp i.op).rs2) ∧ w'.cell? ⟨w1.heap.size, 4, none⟩ = some (.bool (W.shp i.op).csr) ∧ w'.cell? ⟨w1.heap.size, 5, none⟩ = some (.bool (W.shp i.op).ord) ∧ w'.cell? ⟨w1.heap.size, 6, none⟩ = some (.int .u8 (W.shp i.op).fmt) ∧ w'.cell? ⟨w1.heap.size, 7, none⟩ = some (.int .i64 (W.shp i.op).low) ∧ w'.cell? ⟨w1.heap.size, 8, none⟩ = some (.int .i64 (W.shp i.op).size)))
    (first
      | with_reducible assumption
      | (with_reducible refine SE.below (A := A) (i := i) (s := W.shp i.op) (N := w1.heap.size) (w := w) ?_ hm; with_reducible assumption)
      | (refine SE.below (A := A) (i := i) (s := W.shp i.op) (N := w1.heap.size) (w := w) ?_ hm; assumption))
    (first
      | (go_at_call 50; refine (only_any (W.shp i.op) (W.okSh_shp i.op) i _).mono ?_; rintro e w' ⟨rfl, hm⟩; unfold inV))
  have hB : Below w.heap.size w w' := (by (go_split_ands; assumption) : St A i (W.shp i.op) w1.heap.size w w').bel
  have c2 : w'.cell? ⟨3, 0, none⟩ = some _ := (by (go_split_ands; assumption) : St A i (W.shp i.op) w1.heap.size w w').sent.cell 2 (by omega)
  clear hcmp
  go_wp2
  go_quiet (fail)
  go_wp2
  exact bodyPost_ret (v := .tuple #[.int .u32 0, errV A 3]) (by simp [results, Tryz.results25, go_sem, errV]) rfl ⟨rfl, below_drewN hB _⟩

set_option maxRecDepth 100000 in
set_option maxHeartbeats 6400000 in
/-- Encode of what has a word. -/
theorem encode_ok (A : Nat → Addr) (i : W.I) (w : World) (hS : Sent A w) (h1 : W.known i.op = true) (h2 : W.layIB (W.shp i.op) i.imm = true) (h3 : W.inRange i = true) (h4 : W.same (W.only (W.shp i.op) i) i = true) :
    Calls Tryz.prog 25 #[inV i] w fun e w' => e = .returned (.tuple #[.int .u32 (bits .or .u32 (bits .or .u32 (W.code i.op.toNat) (W.layIV (W.shp i.op) i.imm)) (W.layF i)), errV A 0]) ∧ Below w.heap.size w w' := by
  have hcmp : ∀ w, (binOp .neq 24 (.agg #[.int .i64 (W.only (W.shp i.op) i).op, .int .i64 (W.only (W.shp i.op) i).rd, .int .i64 (W.only (W.shp i.op) i).rs1, .int .i64 (W.only (W.shp i.op) i).rs2, .int .i64 (W.only (W.shp i.op) i).csr, .int .u32 (W.only (W.shp i.op) i).imm, .bool (W.only (W.shp i.op) i).aq, .bool (W.only (W.shp i.op) i).rl]) (.agg #[.int .i64 i.op, .int .i64 i.rd, .int .i64 i.rs1, .int .i64 i.rs2, .int .i64 i.csr, .int .u32 i.imm, .bool i.aq, .bool i.rl])).run Tryz.prog w = .ok (.bool false) w := fun w => by
    have := neq_inst (W.only (W.shp i.op) i) i w
    rw [h4] at this
    exact this
  clear h4
  have hix : ∀ w, (Instr.index 91 (.agg codesA) (.int .i64 i.op)).run Tryz.prog w = .ok (.int .u32 (W.code i.op.toNat)) w := fun w => by
    have hk : 1 ≤ i.op ∧ i.op ≤ 69 := by simpa [W.known, W.fr] using h1
    have := idx_at i.op.toNat (by omega) w
    rwa [Int.toNat_of_nonneg (by omega)] at this
  unfold inV
  have HS : Hid (Sent A w) := hS
  clear hS
  go_enter Tryz.func25, Tryz.ntmps25
  go_wp2_with (first
    | (go_at_call 46; refine (known_any _ _).mono ?_; rintro e w' ⟨rfl, rfl⟩)
    | (go_at_call 47; refine (shapeOf_any _ _).mono ?_; rintro e w1 ⟨rfl, hb1⟩; have hE := enc1 hb1; clear hb1; have hT : Hid (∀ t, St A i (W.shp i.op) w1.heap.size w (w1.alloc (.cells _ t))) := fun t => St.start (t := t) (W.shp i.op) HS.out hE; obtain ⟨hq1, hq2, x0, x1, x2, x3, x4, x5, x6, x7⟩ := hE; unfold shV)
    | (go_at_call 48; refine (layImm_any (W.shp i.op) _ _).mono ?_; rintro e w2 ⟨rfl, hb2⟩; have hU : Hid (St A i (W.shp i.op) w1.heap.size w w2) := (hT.out _).below hb2; clear hb2; obtain ⟨y0, y1, y2, y3, y4, y5, y6, y7⟩ := hU.out.inst)
    | (go_at_call 49; refine (inRange_any i _).mono ?_; rintro e w3 ⟨rfl, hb3⟩; have hV : Hid (St A i (W.shp i.op) w1.heap.size w w3) := hU.out.below hb3; clear hb3))
  have hS0 := SE.of (hV.out.below (Below.refl _ _).drew)
  clear x0 x1 x2 x3 x4 x5 x6 x7 y0 y1 y2 y3 y4 y5 y6 y7 hq1 hq2
  go_region_held3 (fun w' => St A i (W.shp i.op) w1.heap.size w w' ∧ (w'.cell? ⟨w.heap.size, 0, none⟩ = some (.int .i64 i.op) ∧ w'.cell? ⟨w.heap.size, 1, none⟩ = some (.int .i64 i.rd) ∧ w'.cell? ⟨w.heap.size, 2, none⟩ = some (.int .i64 i.rs1) ∧ w'.cell? ⟨w.heap.size, 3, none⟩ = some (.int .i64 i.rs2) ∧ w'.cell? ⟨w.heap.size, 4, none⟩ = some (.int .i64 i.csr) ∧ w'.cell? ⟨w.heap.size, 5, none⟩ = some (.int .u32 i.imm) ∧ w'.cell? ⟨w.heap.size, 6, none⟩ = some (.bool i.aq) ∧ w'.cell? ⟨w.heap.size, 7, none⟩ = some (.bool i.rl)) ∧ (w'.cell? ⟨w1.heap.size, 0, none⟩ = some (.int .u32 (W.shp i.op).fixed) ∧ w'.cell? ⟨w1.heap.size, 1, none⟩ = some (.bool (W.shp i.op).rd) ∧ w'.cell? ⟨w1.heap.size, 2, none⟩ = some (.bool (W.shp i.op).rs1) ∧ w'.cell? ⟨w1.heap.size, 3, none⟩ = some (.bool (W.shp i.op).rs2) ∧ w'.cell? ⟨w1.heap.size, 4, none⟩ = some (.bool (W.shp i.op).csr) ∧ w'.cell? ⟨w1.heap.size, 5, none⟩ = some (.bool (W.shp i.op).ord) ∧ w'.cell? ⟨w1.heap.size, 6, none⟩ = some (.int .u8 (W.shp i.op).fmt) ∧ w'.cell? ⟨w1.heap.size, 7, none⟩ = some (.int .i64 (W.shp i.op).low) ∧ w'.cell? ⟨w1.heap.size, 8, none⟩ = some (.int .i64 (W.shp i.op).size)))
    (first
      | with_reducible assumption
      | (with_reducible refine SE.below (A := A) (i := i) (s := W.shp i.op) (N := w1.heap.size) (w := w) ?_ hm; with_reducible assumption)
      | (refine SE.below (A := A) (i := i) (s := W.shp i.op) (N := w1.heap.size) (w := w) ?_ hm; assumption))
    (first
      | (go_at_call 50; refine (only_any (W.shp i.op) (W.okSh_shp i.op) i _).mono ?_; rintro e w' ⟨rfl, hm⟩; unfold inV))
  clear hcmp
  have hS1 : SE A i (W.shp i.op) w1.heap.size w w'.drew := SE.of ((by (go_split_ands; assumption) : St A i (W.shp i.op) w1.heap.size w w').below (Below.refl _ _).drew)
  go_wp2
  go_region_held3 (fun w' => St A i (W.shp i.op) w1.heap.size w w' ∧ (w'.cell? ⟨w.heap.size, 0, none⟩ = some (.int .i64 i.op) ∧ w'.cell? ⟨w.heap.size, 1, none⟩ = some (.int .i64 i.rd) ∧ w'.cell? ⟨w.heap.size, 2, none⟩ = some (.int .i64 i.rs1) ∧ w'.cell? ⟨w.heap.size, 3, none⟩ = some (.int .i64 i.rs2) ∧ w'.cell? ⟨w.heap.size, 4, none⟩ = some (.int .i64 i.csr) ∧ w'.cell? ⟨w.heap.size, 5, none⟩ = some (.int .u32 i.imm) ∧ w'.cell? ⟨w.heap.size, 6, none⟩ = some (.bool i.aq) ∧ w'.cell? ⟨w.heap.size, 7, none⟩ = some (.bool i.rl)) ∧ (w'.cell? ⟨w1.heap.size, 0, none⟩ = some (.int .u32 (W.shp i.op).fixed) ∧ w'.cell? ⟨w1.heap.size, 1, none⟩ = some (.bool (W.shp i.op).rd) ∧ w'.cell? ⟨w1.heap.size, 2, none⟩ = some (.bool (W.shp i.op).rs1) ∧ w'.cell? ⟨w1.heap.size, 3, none⟩ = some (.bool (W.shp i.op).rs2) ∧ w'.cell? ⟨w1.heap.size, 4, none⟩ = some (.bool (W.shp i.op).csr) ∧ w'.cell? ⟨w1.heap.size, 5, none⟩ = some (.bool (W.shp i.op).ord) ∧ w'.cell? ⟨w1.heap.size, 6, none⟩ = some (.int .u8 (W.shp i.op).fmt) ∧ w'.cell? ⟨w1.heap.size, 7, none⟩ = some (.int .i64 (W.shp i.op).low) ∧ w'.cell? ⟨w1.heap.size, 8, none⟩ = some (.int .i64 (W.shp i.op).size)))
    (first
      | with_reducible assumption
      | (with_reducible refine SE.below (A := A) (i := i) (s := W.shp i.op) (N := w1.heap.size) (w := w) ?_ hm; with_reducible assumption)
      | (refine SE.below (A := A) (i := i) (s := W.shp i.op) (N := w1.heap.size) (w := w) ?_ hm; assumption))
    (first
      | (go_at_call 51; refine (codes_any _).mono ?_; rintro e w' ⟨rfl, hm⟩)
      | (go_at_call 52; refine (layF_any i _).mono ?_; rintro e w' ⟨rfl, hm⟩))
  all_goals
    have hB : Below w.heap.size w w' := (by (go_split_ands; assumption) : St A i (W.shp i.op) w1.heap.size w w').bel
    go_wp2
    exact bodyPost_ret (v := .tuple #[.int .u32 (bits .or .u32 (bits .or .u32 (W.code i.op.toNat) (W.layIV (W.shp i.op) i.imm)) (W.layF i)), errV A 0]) (by simp [results, Tryz.results25, go_sem, errV]) rfl ⟨rfl, hB⟩

/-- Encode of whatever instruction. -/
theorem encode_any (A : Nat → Addr) (i : W.I) (w : World) (hS : Sent A w) :
    Calls Tryz.prog 25 #[inV i] w fun e w' => e = .returned (.tuple #[.int .u32 (W.encV i), errV A (W.encE i)]) ∧ Below w.heap.size w w' := by
  cases h1 : W.known i.op
  · have e : W.encE i = 1 := by simp [W.encE, h1]
    have := encode_kind A i w hS h1
    rw [W.encV, e]; exact this
  cases h2 : W.layIB (W.shp i.op) i.imm
  · have e : W.encE i = 2 := by simp [W.encE, h1, h2]
    have := encode_imm A i w hS h1 h2
    rw [W.encV, e]; exact this
  cases h3 : W.inRange i
  · have e : W.encE i = 2 := by simp [W.encE, h1, h2, h3]
    have := encode_range A i w hS h1 h2 h3
    rw [W.encV, e]; exact this
  cases h4 : W.same (W.only (W.shp i.op) i) i
  · have e : W.encE i = 3 := by simp [W.encE, h1, h2, h3, h4]
    have := encode_shape A i w hS h1 h2 h3 h4
    rw [W.encV, e]; exact this
  · have e : W.encE i = 0 := by simp [W.encE, h1, h2, h3, h4]
    have := encode_ok A i w hS h1 h2 h3 h4
    rw [W.encV, e]; exact this

end Go.Proofs.YtbndaiombnikfaaGreatDoor
