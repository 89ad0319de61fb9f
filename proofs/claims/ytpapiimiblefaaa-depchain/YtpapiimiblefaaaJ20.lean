/- Texts in one: DepO, IsaF, IsaG, IsaI. -/
import Derived.Deep.RegionHeld3
import Derived.Deep.DrawnRows
import Derived.Test.YtpapiimiblefaaaJ05
import Derived.Test.YtpapiimiblefaaaJ07
import Derived.Test.YtpapiimiblefaaaJ19
/- What Ops answers, read. -/
namespace Go.Proofs.Ytpapiimiblefaaa
open Go.ChangeShapes Go.WideShapes Go.ChangeAt Go.RowKit
set_option linter.unusedVariables false
set_option linter.unusedSimpArgs false

theorem cells_len (q : Oq) : q.cells.length = 13 := rfl
theorem opsX_get : ∀ (L : List Oq) (j k : Nat) (q : Oq), L[j]? = some q → k < 13 → (opsX L)[j * 13 + k]? = q.cells[k]?
  | [], j, k, q, h, _ => by simp at h
  | z :: L, 0, k, q, h, hk => by
    have e : z = q := by simpa using h
    subst e
    show (z.cells ++ opsX L)[0 * 13 + k]? = _
    rw [Nat.zero_mul, Nat.zero_add, List.getElem?_append_left (by rw [cells_len]; exact hk)]
  | z :: L, j + 1, k, q, h, hk => by
    show (z.cells ++ opsX L)[(j + 1) * 13 + k]? = _
    rw [List.getElem?_append_right (by rw [cells_len]; omega), cells_len, show (j + 1) * 13 + k - 13 = j * 13 + k by omega]
    exact opsX_get L j k q (by simpa using h) hk
/-- The operations lie in memory, with what they hang on. -/
structure Oi (v : W.Sl) (P : List (W.Opr × List Int × List Int × List Int)) (w : World) : Prop where
  n : v.n = P.length
  at_ : ∀ j q, P[j]? = some q → ∃ g a d c, v.a = some ⟨g, 0, none⟩ ∧ g < w.heap.size ∧ (∀ k u, (opC q.1 a d c)[k]? = some u → w.cell? ⟨g, j * 13 + k, none⟩ = some u) ∧ Li a q.2.1 w ∧ Li d q.2.2.1 w ∧ Li c q.2.2.2 w
theorem Oi.below {v : W.Sl} {P : List (W.Opr × List Int × List Int × List Int)} {w w' : World} (h : Oi v P w) (hb : Below w.heap.size w w') : Oi v P w' :=
  ⟨h.n, fun j q hq => by
    obtain ⟨g, a, d, c, h1, h2, h3, h4, h5, h6⟩ := h.at_ j q hq
    exact ⟨g, a, d, c, h1, Nat.lt_of_lt_of_le h2 hb.size, fun k u hu => (hb.cell (p := ⟨g, j * 13 + k, none⟩) h2).trans (h3 k u hu), h4.below hb, h5.below hb, h6.below hb⟩⟩
theorem fs_oi {n0 : Nat} {w0 : World} {fb : Nat} {G : Nat → Prop} {r : Nat → List Int} {c : List Int} {L : List Oq} {R : Nat → W.Sl} {C O : W.Sl} {w : World} {P : List (W.Opr × List Int × List Int × List Int)} (h : Fs n0 w0 fb G r c L R C O w) (hp : L.map Oq.pure = P) : Oi O P w := by
  subst hp
  refine ⟨by rw [own_n h.ow]; simp, fun j q hq => ?_⟩
  rw [List.getElem?_map] at hq
  cases hz : L[j]? with
  | none => rw [hz] at hq; cases hq
  | some z =>
    rw [hz] at hq
    have e : z.pure = q := by simpa using hq
    subst e
    obtain ⟨hj, hz'⟩ := List.getElem?_eq_some_iff.1 hz
    obtain ⟨g, cap, hv, hb, hl⟩ := h.ow.form (by omega)
    have hm := h.ll z (by rw [← hz']; exact List.getElem_mem hj)
    have ha : O.a = some ⟨g, 0, none⟩ := by
      unfold slV at hv
      simp at hv
      exact hv.1
    refine ⟨g, z.a, z.d, z.c, ha, hl, fun k u hu => ?_, hm.a.li, hm.d.li, hm.c.li⟩
    have hk : k < 13 := (Array.getElem?_eq_some_iff.1 hu).1
    have hc := h.ow.cells (g := g) (by rw [hv]; rfl) (j * 13 + k) u (by
      rw [opsX_get L j k z hz hk]
      have hu2 : (opC z.o z.a z.d z.c)[k]? = some u := hu
      simpa [Oq.cells] using hu2)
    rw [Addr.add_lit] at hc
    simpa using hc
theorem ops_oi (a : Option Addr) (n cap : Nat) (x : Nat → W.It) (w : World) (hI : Its a n x w) (hn : n ≤ 150) (P : List (W.Opr × List Int × List Int × List Int)) (hP : (W.runN x n).p = P) : Calls Try.prog 9 #[.slice a n cap] w fun e w' => (∃ O, e = .returned (slV O) ∧ Oi O P w') ∧ Below w.heap.size w w' :=
  (ops_any a n cap x w hI hn).mono fun e w' ⟨O, h1, L, R, C, h2, h3⟩ => ⟨⟨O, h1, fs_oi h2 (h3.trans hP)⟩, h2.b⟩
end Go.Proofs.Ytpapiimiblefaaa

/- What layFields returns: the word of all fields but the immediate. -/
namespace Go.Proofs.Ytpapiimiblefaaa
open Go.ChangeShapes Go.WideShapes Go.ChangeAt Go.RowKit
set_option linter.unusedVariables false
set_option linter.unusedSimpArgs false
attribute [local go_sem ↓] Go.wp_at_zero Go.wp_at_succ

abbrev SF (w : World) (i : W.I) (w' : World) : Prop :=
  Below w.heap.size w w' ∧ w.heap.size < w'.heap.size ∧ w'.cell? ⟨w.heap.size, 4, none⟩ = some (.int .i64 i.csr) ∧ w'.cell? ⟨w.heap.size, 6, none⟩ = some (.bool i.aq) ∧ w'.cell? ⟨w.heap.size, 7, none⟩ = some (.bool i.rl)
theorem SF.below {w a b : World} {i : W.I} (h : SF w i a) (hm : Below a.heap.size a b) : SF w i b := by
  obtain ⟨h1, h2, h3, h4, h5⟩ := h
  have q : ∀ j, b.cell? ⟨w.heap.size, j, none⟩ = a.cell? ⟨w.heap.size, j, none⟩ := fun j => hm.cell h2
  refine ⟨h1.trans (hm.mono h1.size), by have := hm.size; omega, ?_⟩
  simp only [q]
  exact ⟨h3, h4, h5⟩
theorem SF.alloc {w a : World} {i : W.I} (h : SF w i a) (o : Obj) : SF w i (a.alloc o) := h.below ((Below.refl _ _).alloc (Nat.le_refl _) _)
theorem SF.start {w w1 : World} {i : W.I} {t : TypeId}
    (hb1 : Below (w.alloc (.cells #[.int .i64 i.op, .int .i64 i.rd, .int .i64 i.rs1, .int .i64 i.rs2, .int .i64 i.csr, .int .u32 i.imm, .bool i.aq, .bool i.rl] t)).heap.size
      (w.alloc (.cells #[.int .i64 i.op, .int .i64 i.rd, .int .i64 i.rs1, .int .i64 i.rs2, .int .i64 i.csr, .int .u32 i.imm, .bool i.aq, .bool i.rl] t)) w1) : SF w i w1.drew := by
  have hs := hb1.size
  simp at hs
  have q : ∀ j, w1.drew.cell? ⟨w.heap.size, j, none⟩ = (w.alloc (.cells #[.int .i64 i.op, .int .i64 i.rd, .int .i64 i.rs1, .int .i64 i.rs2, .int .i64 i.csr, .int .u32 i.imm, .bool i.aq, .bool i.rl] t)).cell? ⟨w.heap.size, j, none⟩ := fun j => hb1.drew.cell (p := ⟨w.heap.size, j, none⟩) (by simp)
  refine ⟨(((Below.refl _ _).alloc (Nat.le_refl _) _).trans (hb1.mono (by simp))).drew, by show w.heap.size < w1.heap.size; omega, ?_⟩
  simp only [q]
  simp [go_sem]

theorem three_cells (w : World) (t : TypeId) (a b c : Int) :
    (∀ j, j < 3 → (w.alloc (.cells #[.int .i64 20, .int .i64 12, .int .u32 a, .int .i64 26, .int .i64 1, .int .u32 b, .int .i64 25, .int .i64 1, .int .u32 c] t)).cell? ⟨w.heap.size, 0 + j * 3, none⟩ = some (.int .i64 (W.gL j)))
    ∧ (∀ j, j < 3 → (w.alloc (.cells #[.int .i64 20, .int .i64 12, .int .u32 a, .int .i64 26, .int .i64 1, .int .u32 b, .int .i64 25, .int .i64 1, .int .u32 c] t)).cell? ⟨w.heap.size, 0 + j * 3 + 1, none⟩ = some (.int .i64 (W.gN j)))
    ∧ (∀ j, j < 3 → (w.alloc (.cells #[.int .i64 20, .int .i64 12, .int .u32 a, .int .i64 26, .int .i64 1, .int .u32 b, .int .i64 25, .int .i64 1, .int .u32 c] t)).cell? ⟨w.heap.size, 0 + j * 3 + 2, none⟩ = some (.int .u32 (W.three a b c j))) := by
  refine ⟨?_, ?_, ?_⟩
  all_goals
    intro j hj
    match j, hj with
    | 0, _ | 1, _ | 2, _ => simp [go_sem, W.gL, W.gN, W.three]

end Go.Proofs.Ytpapiimiblefaaa

/- What layImm returns: the word of an immediate alone. -/
namespace Go.Proofs.Ytpapiimiblefaaa
open Go.ChangeShapes Go.WideShapes Go.ChangeAt Go.RowKit
set_option linter.unusedVariables false
set_option linter.unusedSimpArgs false

end Go.Proofs.Ytpapiimiblefaaa

/- What Encode returns. -/
namespace Go.Proofs.Ytpapiimiblefaaa
open Go.ChangeShapes Go.WideShapes Go.ChangeAt Go.RowKit
set_option linter.unusedVariables false
set_option linter.unusedSimpArgs false
attribute [local go_sem ↓] Go.wp_at_zero Go.wp_at_succ

theorem idx_at (k : Nat) (hk : k < 70) (w : World) : (Instr.index 72 (.agg codesA) (.int .i64 k)).run Try.prog w = .ok (.int .u32 (W.code k)) w := by
  unfold Instr.index
  simp [go_sem]
  rw [if_pos hk, codesA_at k hk]
  rfl

/-- The instruction lies in block g. -/
def InAt (g : Nat) (i : W.I) (w' : World) : Prop :=
  w'.cell? ⟨g, 0, none⟩ = some (.int .i64 i.op) ∧ w'.cell? ⟨g, 1, none⟩ = some (.int .i64 i.rd) ∧ w'.cell? ⟨g, 2, none⟩ = some (.int .i64 i.rs1) ∧ w'.cell? ⟨g, 3, none⟩ = some (.int .i64 i.rs2) ∧ w'.cell? ⟨g, 4, none⟩ = some (.int .i64 i.csr) ∧ w'.cell? ⟨g, 5, none⟩ = some (.int .u32 i.imm) ∧ w'.cell? ⟨g, 6, none⟩ = some (.bool i.aq) ∧ w'.cell? ⟨g, 7, none⟩ = some (.bool i.rl)
def ShAt (g : Nat) (s : W.Sh) (w' : World) : Prop :=
  w'.cell? ⟨g, 0, none⟩ = some (.int .u32 s.fixed) ∧ w'.cell? ⟨g, 1, none⟩ = some (.bool s.rd) ∧ w'.cell? ⟨g, 2, none⟩ = some (.bool s.rs1) ∧ w'.cell? ⟨g, 3, none⟩ = some (.bool s.rs2) ∧ w'.cell? ⟨g, 4, none⟩ = some (.bool s.csr) ∧ w'.cell? ⟨g, 5, none⟩ = some (.bool s.ord) ∧ w'.cell? ⟨g, 6, none⟩ = some (.int .u8 s.fmt) ∧ w'.cell? ⟨g, 7, none⟩ = some (.int .i64 s.low) ∧ w'.cell? ⟨g, 8, none⟩ = some (.int .i64 s.size)
theorem InAt.below {g : Nat} {i : W.I} {a b : World} (h : InAt g i a) (hm : Below a.heap.size a b) : InAt g i b := by
  have hg := World.block_lt_of_cell? _ _ h.1
  have q : ∀ j, b.cell? ⟨g, j, none⟩ = a.cell? ⟨g, j, none⟩ := fun j => hm.cell hg
  unfold InAt
  simp only [q]
  exact h
theorem ShAt.below {g : Nat} {s : W.Sh} {a b : World} (h : ShAt g s a) (hm : Below a.heap.size a b) : ShAt g s b := by
  have hg := World.block_lt_of_cell? _ _ h.1
  have q : ∀ j, b.cell? ⟨g, j, none⟩ = a.cell? ⟨g, j, none⟩ := fun j => hm.cell hg
  unfold ShAt
  simp only [q]
  exact h
theorem InAt.start (w : World) (i : W.I) (t : TypeId) : InAt w.heap.size i (w.alloc (.cells #[.int .i64 i.op, .int .i64 i.rd, .int .i64 i.rs1, .int .i64 i.rs2, .int .i64 i.csr, .int .u32 i.imm, .bool i.aq, .bool i.rl] t)) := by
  unfold InAt; simp [go_sem]
theorem ShAt.start (w : World) (s : W.Sh) (t : TypeId) : ShAt w.heap.size s (w.alloc (.cells #[.int .u32 s.fixed, .bool s.rd, .bool s.rs1, .bool s.rs2, .bool s.csr, .bool s.ord, .int .u8 s.fmt, .int .i64 s.low, .int .i64 s.size] t)) := by
  unfold ShAt; simp [go_sem]

end Go.Proofs.Ytpapiimiblefaaa
