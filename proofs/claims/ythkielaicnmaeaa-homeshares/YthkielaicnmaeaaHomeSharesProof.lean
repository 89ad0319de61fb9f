/- Of so many that only read all are sharers, in the end, or the one alone that came first; one that writes is told to, when all others have dropped it: for every mask, every writer and every line the law answers true, and nothing that was there is changed. -/
import Derived.Test.YthkielaicnmaeaaRows
import Derived.Test.YthkielaicnmaeaaHomSharesWalk
import Derived.WalkKit
import Derived.ProofKit
import Derived.OpenShut
namespace Go.Proofs.Ythkielaicnmaeaa.homeShares
open Go.ChangeShapes Go.WideShapes Go.ChangeAt Go.RowKit
set_option linter.unusedVariables false

theorem own : ownKnob Try.prog.godebug = none := by kernel_rfl
theorem laidOut : laidOutB Try.prog = true := by kernel_rfl
def lineV (L : Nat → Int) : Value := .agg #[.int .u32 (L 0), .int .u32 (L 1), .int .u32 (L 2), .int .u32 (L 3)]
theorem cellsU : Try.prog.cellsOf 22 = 1 := by kernel_rfl

theorem okWide_line {w : World} {r : Reach} {base : Nat} {v : Value} (h : Value.okWide Try.prog w r base 24 v) : ∃ cs, v = .agg cs := by
  simp only [Value.okWide, Try.underlying24] at h
  obtain ⟨cs, h1, _⟩ := h
  exact ⟨cs, h1⟩
set_option maxRecDepth 100000 in
/-- A line that can be read is four words. -/
theorem line_val {H : Type} {enc : TypeId × Value → H} {w : World} {base fuel : Nat} {v : Value} {x : DataW H × List MemPlace} (hok : Value.okWide Try.prog w .any base 24 v)
    (h : DataW.trod enc Try.prog w 0 (fun _ => true) true fuel 24 v.cells.toList = some x) : ∃ L : Nat → Int, v = lineV L ∧ ∀ k, 0 ≤ L k ∧ L k < 4294967296 := by
  obtain ⟨cs, rfl⟩ := okWide_line hok
  obtain ⟨xs, k, hk, hxy, hcl, hxl, hf⟩ := DataW.trod_array Try.underlying24 h
  rw [show Try.prog.cellsOf 24 = 4 by kernel_rfl] at hcl
  simp only [Value.cells] at hcl hf
  obtain ⟨l⟩ := cs
  simp only at hcl hf
  match xs, hxl, l, hcl with
  | [y0, y1, y2, y3], _, [v0, v1, v2, v3], _ =>
    have g0 := hf 0 (by decide)
    have g1 := hf 1 (by decide)
    have g2 := hf 2 (by decide)
    have g3 := hf 3 (by decide)
    simp [cellsU] at g0 g1 g2 g3
    obtain ⟨n0, e0, _, w0⟩ := DataW.trod_int Try.underlying22 g0
    obtain ⟨n1, e1, _, w1⟩ := DataW.trod_int Try.underlying22 g1
    obtain ⟨n2, e2, _, w2⟩ := DataW.trod_int Try.underlying22 g2
    obtain ⟨n3, e3, _, w3⟩ := DataW.trod_int Try.underlying22 g3
    simp only [List.cons.injEq, and_true] at e0 e1 e2 e3
    subst e0 e1 e2 e3
    have b0 := bounds_u32 w0
    have b1 := bounds_u32 w1
    have b2 := bounds_u32 w2
    have b3 := bounds_u32 w3
    refine ⟨fun j => if j = 0 then n0 else if j = 1 then n1 else if j = 2 then n2 else n3, rfl, fun j => ?_⟩
    dsimp only
    split
    · omega
    · split
      · omega
      · split <;> omega

theorem walk (a0 : Int) (a1 : Int) (a2 : (Nat → Int)) (w0 : (Lit.int .i64 a0).wf = true) (w1 : (Lit.int .i64 a1).wf = true) (w2 : ∀ k, 0 ≤ a2 k ∧ a2 k < 4294967296) (w : World) :
    Calls Try.prog 6 #[.int .i64 a0, .int .i64 a1, .agg #[.int .u32 (a2 0), .int .u32 (a2 1), .int .u32 (a2 2), .int .u32 (a2 3)]] w fun e w' => e = .returned (.bool true) ∧ Below w.heap.size w w' := by
  have b0 := bounds_i64 w0
  have b1 := bounds_i64 w1
  exact shares_any a0 a1 (a2 0) (a2 1) (a2 2) (a2 3) b0.1 b0.2 b1.1 b1.2 w

set_option maxRecDepth 100000 in
theorem lifted (os : Go.Os) (started : os.Started) (H : Type) (enc : TypeId × Value → H) :
    ReturnsInHanded {} Try.checked os 6 .any (Rows.homeSharesSpec.pre6 enc Try.prog Try.f6 Rows.homeSharesRow.domain false) (Rows.homeSharesSpec.post enc Try.prog Try.f6 false true false false) := by
  refine returnsInHanded_of_change (C := Try.checked) own started (by kernel_rfl) Try.func6
    (ChangeSpec.witness6 (enc := enc) (C := Try.checked) false ⟨#[], #[.int .i64 0, .int .i64 0, .agg #[.int .u32 0, .int .u32 0, .int .u32 0, .int .u32 0]], []⟩ 8 (by kernel_rfl) (by kernel_rfl) (by kernel_rfl) (by kernel_rfl)) ?_
  intro W base args ds gs before hval0 hW hcnd _
  have hval : ∀ (j : Nat) t v, Try.f6.params[j]? = some t → args[j]? = some v → Value.okWide Try.prog W .any base t v := hval0
  have hW' := hW
  obtain ⟨p, q, hA0, hV, rfl, hfz, hnd⟩ := hW
  have hA : DataW.TrodAll enc Try.prog W 0 (fun _ => true) true Try.f6.params.toList args.toList ds p := hA0
  rw [Try.params6] at hA hval
  obtain ⟨v0, vs0, d0, ds0, p0, q0, hargs, rfl, rfl, h0, r0⟩ := trodAll_cons hA
  obtain ⟨v1, vs1, d1, ds1, p1, q1, rfl, rfl, rfl, h1, r1⟩ := trodAll_cons r0
  obtain ⟨v2, vs2, d2, ds2, p2, q2, rfl, rfl, rfl, h2, r2⟩ := trodAll_cons r1
  obtain ⟨rfl, rfl, rfl⟩ := trodAll_nil r2
  obtain rfl : args = #[v0, v1, v2] := by cases args; simp_all
  obtain ⟨rfl, rfl⟩ := trodVars_none hV
  obtain ⟨a0, rfl, rfl, rfl, w0⟩ := open_int Try.underlying3 (hval 0 3 v0 rfl rfl) h0
  obtain ⟨a1, rfl, rfl, rfl, w1⟩ := open_int Try.underlying3 (hval 1 3 v1 rfl rfl) h1
  have k2 := h2
  have lt2 : ∀ x ∈ p2, x.block < W.heap.size := by obtain ⟨m, hm⟩ := k2; exact DataW.trod_lt m _ _ _ hm
  obtain ⟨m2, hm2⟩ := h2
  obtain ⟨a2, rfl, w2⟩ := line_val (hval 2 24 v2 rfl rfl) hm2
  clear hA0 hval0
  refine (walk a0 a1 a2 w0 w1 w2 W).mono fun e W' ⟨he, bel⟩ => ?_
  subst he
  exact ⟨_, rfl, _, _, _, [], _, [], hW', trodAll_mk1 (shut_bool Try.underlying4 _), (trodAll_cons_mk (shut_int Try.underlying3 w0) (trodAll_cons_mk (shut_int Try.underlying3 w1) (trodAll_cons_mk (Below.trod laidOut (by kernel_rfl) (of_decide_eq_true (by kernel_rfl)) k2 bel lt2) trodAll_mk0))), rfl, bel.frame _, fun h => by cases h⟩

theorem over : Rows.homeSharesRow.holds Try.pinned (OpenSpec.ofChange Rows.homeSharesSpec) :=
  OpenClaim.holds_of_wide 6 Try.f6 rfl rfl rfl rfl rfl rfl rfl ⟨rfl, rfl, rfl, rfl, rfl⟩ rfl rfl rfl rfl rfl (by kernel_rfl) Try.func6 (by kernel_rfl)
    (of_decide_eq_true (by kernel_rfl)) (by unfold Func.isWrapper; first | (rw [if_pos (by decide +kernel)]; kernel_rfl) | (rw [if_neg (by decide +kernel)]; exact ⟨rfl, rfl⟩))
    (fun os started H enc _ => lifted os started H enc)

theorem proved : Rows.HomeSharesSaid := over
#print axioms proved
end Go.Proofs.Ythkielaicnmaeaa.homeShares
