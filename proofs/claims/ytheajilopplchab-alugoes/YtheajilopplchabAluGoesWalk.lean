/- AluGoes, walked: it returns true, whatever the words. -/
import Derived.Test.YtheajilopplchabFirst4
import Derived.Test.YtheajilopplchabAluG
import Derived.Test.YtheajilopplchabIsaH
import Derived.Deep.RegionHeld3
import Derived.Deep.DrawnRows
namespace Go.Proofs.Ytheajilopplchab
open Go.ChangeShapes Go.WideShapes Go.ChangeAt Go.RowKit
set_option linter.unusedVariables false
set_option linter.unusedSimpArgs false
attribute [local go_sem ↓] Go.wp_at_zero Go.wp_at_succ

namespace W
theorem decI_imm (x : Int) : 0 ≤ (decI x).imm ∧ (decI x).imm < 4294967296 := by
  show 0 ≤ (bif hasImm (shp (dec x)) then immS (shp (dec x)) x else 0) ∧ (bif hasImm (shp (dec x)) then immS (shp (dec x)) x else 0) < 4294967296
  cases hasImm (shp (dec x))
  · simp
  · show 0 ≤ immS (shp (dec x)) x ∧ immS (shp (dec x)) x < 4294967296
    unfold immS
    cases decide (0 < (shp (dec x)).size)
    · exact imm_lt _ _
    · exact bitsOf_lt _ _ _
end W

/-- The instruction lies in its block, all else is as it was. -/
structure Gy (n : Nat) (op rd rs1 rs2 csr imm : Int) (aq rl : Bool) (w wc : World) : Prop where
  bel : Below w.heap.size w wc
  lt : n < wc.heap.size
  at0 : wc.cell? ⟨n, 0, none⟩ = some (.int .i64 op)
  at1 : wc.cell? ⟨n, 1, none⟩ = some (.int .i64 rd)
  at2 : wc.cell? ⟨n, 2, none⟩ = some (.int .i64 rs1)
  at3 : wc.cell? ⟨n, 3, none⟩ = some (.int .i64 rs2)
  at4 : wc.cell? ⟨n, 4, none⟩ = some (.int .i64 csr)
  at5 : wc.cell? ⟨n, 5, none⟩ = some (.int .u32 imm)
  at6 : wc.cell? ⟨n, 6, none⟩ = some (.bool aq)
  at7 : wc.cell? ⟨n, 7, none⟩ = some (.bool rl)
theorem Gy.below {n : Nat} {op rd rs1 rs2 csr imm : Int} {aq rl : Bool} {w a b : World} (h : Gy n op rd rs1 rs2 csr imm aq rl w a) (hm : Below a.heap.size a b) : Gy n op rd rs1 rs2 csr imm aq rl w b := by
  have q : ∀ j, b.cell? ⟨n, j, none⟩ = a.cell? ⟨n, j, none⟩ := fun j => hm.cell h.lt
  exact ⟨h.bel.trans (hm.mono h.bel.size), Nat.lt_of_lt_of_le h.lt hm.size, (q 0).trans h.at0, (q 1).trans h.at1, (q 2).trans h.at2, (q 3).trans h.at3, (q 4).trans h.at4, (q 5).trans h.at5, (q 6).trans h.at6, (q 7).trans h.at7⟩
theorem Gy.start {op rd rs1 rs2 csr imm : Int} {aq rl : Bool} {w w1 : World} {t : TypeId} (hb : Below w.heap.size w w1) :
    Gy w1.heap.size op rd rs1 rs2 csr imm aq rl w (w1.alloc (.cells #[.int .i64 op, .int .i64 rd, .int .i64 rs1, .int .i64 rs2, .int .i64 csr, .int .u32 imm, .bool aq, .bool rl] t)) := by
  refine ⟨hb.alloc hb.size _, by simp, ?_, ?_, ?_, ?_, ?_, ?_, ?_, ?_⟩ <;> simp [go_sem]

abbrev SG (n : Nat) (op rd rs1 rs2 csr imm : Int) (aq rl : Bool) (w w' : World) : Prop :=
  Below w.heap.size w w' ∧ n < w'.heap.size ∧ w'.cell? ⟨n, 0, none⟩ = some (.int .i64 op) ∧ w'.cell? ⟨n, 1, none⟩ = some (.int .i64 rd) ∧ w'.cell? ⟨n, 2, none⟩ = some (.int .i64 rs1) ∧ w'.cell? ⟨n, 3, none⟩ = some (.int .i64 rs2) ∧ w'.cell? ⟨n, 4, none⟩ = some (.int .i64 csr) ∧ w'.cell? ⟨n, 5, none⟩ = some (.int .u32 imm) ∧ w'.cell? ⟨n, 6, none⟩ = some (.bool aq) ∧ w'.cell? ⟨n, 7, none⟩ = some (.bool rl)
theorem SG.of {n : Nat} {op rd rs1 rs2 csr imm : Int} {aq rl : Bool} {w a : World} (h : Gy n op rd rs1 rs2 csr imm aq rl w a) : SG n op rd rs1 rs2 csr imm aq rl w a := ⟨h.bel, h.lt, h.at0, h.at1, h.at2, h.at3, h.at4, h.at5, h.at6, h.at7⟩
theorem SG.below {n : Nat} {op rd rs1 rs2 csr imm : Int} {aq rl : Bool} {w a b : World} (h : SG n op rd rs1 rs2 csr imm aq rl w a) (hm : Below a.heap.size a b) : SG n op rd rs1 rs2 csr imm aq rl w b :=
  SG.of (Gy.below ⟨h.1, h.2.1, h.2.2.1, h.2.2.2.1, h.2.2.2.2.1, h.2.2.2.2.2.1, h.2.2.2.2.2.2.1, h.2.2.2.2.2.2.2.1, h.2.2.2.2.2.2.2.2.1, h.2.2.2.2.2.2.2.2.2⟩ hm)

set_option maxRecDepth 100000 in
set_option maxHeartbeats 6400000 in
theorem alugoes_t (x pc a b op rd rs1 rs2 csr imm : Int) (aq rl : Bool) (a0 : 0 ≤ a) (a1 : a < 4294967296) (b0 : 0 ≤ b) (b1 : b < 4294967296) (m0 : 0 ≤ imm) (m1 : imm < 4294967296) (hd : W.decB x = true) (dI : Hid (W.decI x = ⟨op, rd, rs1, rs2, csr, imm, aq, rl⟩)) (w : World) :
    Calls Try.prog 4 #[.int .u32 x, .int .u32 pc, .int .u32 a, .int .u32 b] w fun e w' => e = .returned (.bool true) ∧ Below w.heap.size w w' := by
  have hb : Below w.heap.size w w := Below.refl _ _
  generalize h1 : W.resV op imm pc a b = y1
  generalize h2 : W.resB op = y2
  generalize h3 : W.nextV op imm pc a b = y3
  go_enter Try.func4, Try.ntmps4
  go_wp2_with (first
    | (go_at_call 9; refine (from_ (first4_any _) hb).mono ?_; clear hb; rintro e w1 ⟨rfl, hb⟩)
    | (go_at_call 22; refine (from_ (decode_any _ _) hb).mono ?_; clear hb; rintro e w2 ⟨rfl, hb⟩; have g2 : Hid (∀ t, Gy w2.heap.size op rd rs1 rs2 csr imm aq rl w (w2.alloc (.cells _ t))) := fun t => Gy.start hb; rw [dI.out]; unfold inV)
    | (go_at_call 23; refine (res_any op rd rs1 rs2 csr imm aq rl pc a b a0 a1 b0 b1 m0 m1 _).mono ?_; rintro e w3 ⟨rfl, hm⟩; have g3 : Hid (Gy w2.heap.size op rd rs1 rs2 csr imm aq rl w w3) := (g2.out _).below hm; clear hm; obtain ⟨_, _, x0, x1, x2, x3, x4, x5, x6, x7⟩ := g3.out; rw [h1, h2])
    | (go_at_call 24; refine (rres_any op rd rs1 rs2 csr imm aq rl pc a b a0 a1 b0 b1 m0 m1 _).mono ?_; rintro e w4 ⟨rfl, hm⟩; have g4 : Hid (Gy w2.heap.size op rd rs1 rs2 csr imm aq rl w w4) := g3.out.below hm; clear hm; rw [h1, h2]))
  have hS0 := SG.of (g4.out.below (Below.refl _ _).drew)
  clear x0 x1 x2 x3 x4 x5 x6 x7
  go_region_held3 (fun w' => Below w.heap.size w w' ∧ w2.heap.size < w'.heap.size ∧ w'.cell? ⟨w2.heap.size, 0, none⟩ = some (.int .i64 op) ∧ w'.cell? ⟨w2.heap.size, 1, none⟩ = some (.int .i64 rd) ∧ w'.cell? ⟨w2.heap.size, 2, none⟩ = some (.int .i64 rs1) ∧ w'.cell? ⟨w2.heap.size, 3, none⟩ = some (.int .i64 rs2) ∧ w'.cell? ⟨w2.heap.size, 4, none⟩ = some (.int .i64 csr) ∧ w'.cell? ⟨w2.heap.size, 5, none⟩ = some (.int .u32 imm) ∧ w'.cell? ⟨w2.heap.size, 6, none⟩ = some (.bool aq) ∧ w'.cell? ⟨w2.heap.size, 7, none⟩ = some (.bool rl))
    (first
      | with_reducible assumption
      | (with_reducible refine SG.below (n := w2.heap.size) (op := op) (rd := rd) (rs1 := rs1) (rs2 := rs2) (csr := csr) (imm := imm) (aq := aq) (rl := rl) (w := w) ?_ hm; with_reducible assumption)
      | (refine SG.below (n := w2.heap.size) (op := op) (rd := rd) (rs1 := rs1) (rs2 := rs2) (csr := csr) (imm := imm) (aq := aq) (rl := rl) (w := w) ?_ hm; assumption))
    (first
      | (go_at_call 25; refine (next_any op rd rs1 rs2 csr imm aq rl pc a b a0 a1 b0 b1 m0 m1 _).mono ?_; rintro e w' ⟨rfl, hm⟩; rw [h3])
      | (go_at_call 26; refine (rnext_any op rd rs1 rs2 csr imm aq rl pc a b a0 a1 b0 b1 m0 m1 _).mono ?_; rintro e w' ⟨rfl, hm⟩; rw [h3]))
  all_goals
    have hB : Below w.heap.size w w' := by (go_split_ands; assumption)
    go_wp2
    go_ret
    exact ⟨rfl, hB⟩

set_option maxRecDepth 100000 in
set_option maxHeartbeats 3200000 in
theorem alugoes_f (x pc a b : Int) (hd : W.decB x = false) (w : World) :
    Calls Try.prog 4 #[.int .u32 x, .int .u32 pc, .int .u32 a, .int .u32 b] w fun e w' => e = .returned (.bool true) ∧ Below w.heap.size w w' := by
  have hb : Below w.heap.size w w := Below.refl _ _
  generalize hdI : W.decI x = d
  have dI : Hid (W.decI x = d) := hdI
  clear hdI
  go_enter Try.func4, Try.ntmps4
  go_wp2_with (first
    | (go_at_call 9; refine (from_ (first4_any _) hb).mono ?_; clear hb; rintro e w1 ⟨rfl, hb⟩)
    | (go_at_call 22; refine (from_ (decode_any _ _) hb).mono ?_; clear hb; rintro e w2 ⟨rfl, hb⟩; rw [dI.out]; unfold inV))
  go_ret
  exact ⟨rfl, hb.alloc hb.size _⟩

theorem alugoes_walk (x pc a b : Int) (x0 : 0 ≤ x) (x1 : x < 4294967296) (p0 : 0 ≤ pc) (p1 : pc < 4294967296) (a0 : 0 ≤ a) (a1 : a < 4294967296) (b0 : 0 ≤ b) (b1 : b < 4294967296) (w : World) :
    Calls Try.prog 4 #[.int .u32 x, .int .u32 pc, .int .u32 a, .int .u32 b] w fun e w' => e = .returned (.bool true) ∧ Below w.heap.size w w' := by
  cases hd : W.decB x
  · exact alugoes_f x pc a b hd w
  · have := W.decI_imm x
    exact alugoes_t x pc a b _ _ _ _ _ _ _ _ a0 a1 b0 b1 this.1 this.2 hd rfl w
end Go.Proofs.Ytheajilopplchab
