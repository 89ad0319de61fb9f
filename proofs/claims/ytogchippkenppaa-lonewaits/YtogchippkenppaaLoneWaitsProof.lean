/- A line that waits asks for nothing else, is not evicted, can be neither read nor written, and what it asked for, when it has come, it can: for every three bools and every line the law answers true, and nothing that was there is changed. -/
import Derived.Test.YtogchippkenppaaRows
import Derived.Test.YtogchippkenppaaLonWaitsWalk
import Derived.WalkKit
import Derived.ProofKit
import Derived.OpenShut
namespace Go.Proofs.Ytogchippkenppaa.loneWaits
open Go.ChangeShapes Go.WideShapes Go.ChangeAt Go.RowKit
set_option linter.unusedVariables false

theorem own : ownKnob Try.prog.godebug = none := by kernel_rfl
theorem laidOut : laidOutB Try.prog = true := by kernel_rfl
def lineV (L : Nat → Int) : Value := .agg #[.int .u32 (L 0), .int .u32 (L 1), .int .u32 (L 2), .int .u32 (L 3)]
theorem cellsU : Try.prog.cellsOf 27 = 1 := by kernel_rfl

theorem okWide_line {w : World} {r : Reach} {base : Nat} {v : Value} (h : Value.okWide Try.prog w r base 29 v) : ∃ cs, v = .agg cs := by
  simp only [Value.okWide, Try.underlying29] at h
  obtain ⟨cs, h1, _⟩ := h
  exact ⟨cs, h1⟩
set_option maxRecDepth 100000 in
/-- A line that can be read is four words. -/
theorem line_val {H : Type} {enc : TypeId × Value → H} {w : World} {base fuel : Nat} {v : Value} {x : DataW H × List MemPlace} (hok : Value.okWide Try.prog w .any base 29 v)
    (h : DataW.trod enc Try.prog w 0 (fun _ => true) true fuel 29 v.cells.toList = some x) : ∃ L : Nat → Int, v = lineV L ∧ ∀ k, 0 ≤ L k ∧ L k < 4294967296 := by
  obtain ⟨cs, rfl⟩ := okWide_line hok
  obtain ⟨xs, k, hk, hxy, hcl, hxl, hf⟩ := DataW.trod_array Try.underlying29 h
  rw [show Try.prog.cellsOf 29 = 4 by kernel_rfl] at hcl
  simp only [Value.cells] at hcl hf
  obtain ⟨l⟩ := cs
  simp only at hcl hf
  match xs, hxl, l, hcl with
  | [y0, y1, y2, y3], _, [v0, v1, v2, v3], _ =>
    have g0 := hf 0 (by decide)
    have g1 := hf 1 (by decide)
    have g2 := hf 2 (by decide)
    have g3 := hf 3 (by decide)
    simp [cellsU] at g0 g1 g2 g3
    obtain ⟨n0, e0, _, w0⟩ := DataW.trod_int Try.underlying27 g0
    obtain ⟨n1, e1, _, w1⟩ := DataW.trod_int Try.underlying27 g1
    obtain ⟨n2, e2, _, w2⟩ := DataW.trod_int Try.underlying27 g2
    obtain ⟨n3, e3, _, w3⟩ := DataW.trod_int Try.underlying27 g3
    simp only [List.cons.injEq, and_true] at e0 e1 e2 e3
    subst e0 e1 e2 e3
    have b0 := bounds_u32 w0
    have b1 := bounds_u32 w1
    have b2 := bounds_u32 w2
    have b3 := bounds_u32 w3
    refine ⟨fun j => if j = 0 then n0 else if j = 1 then n1 else if j = 2 then n2 else n3, rfl, fun j => ?_⟩
    dsimp only
    split
    · omega
    · split
      · omega
      · split <;> omega

theorem walk (a0 : Bool) (a1 : Bool) (a2 : Bool) (a3 : (Nat → Int)) (w3 : ∀ k, 0 ≤ a3 k ∧ a3 k < 4294967296) (w : World) :
    Calls Try.prog 5 #[.bool a0, .bool a1, .bool a2, .agg #[.int .u32 (a3 0), .int .u32 (a3 1), .int .u32 (a3 2), .int .u32 (a3 3)]] w fun e w' => e = .returned (.bool true) ∧ Below w.heap.size w w' := by
  exact loneWaits_any a0 a1 a2 (a3 0) (a3 1) (a3 2) (a3 3)  w

set_option maxRecDepth 100000 in
theorem lifted (os : Os) (started : os.Started) (H : Type) (enc : TypeId × Value → H) :
    ReturnsInHanded {} Try.checked os 5 .any (Rows.loneWaitsSpec.pre6 enc Try.prog Try.f5 Rows.loneWaitsRow.domain false) (Rows.loneWaitsSpec.post enc Try.prog Try.f5 false true false false) := by
  refine returnsInHanded_of_change (C := Try.checked) own started (by kernel_rfl) Try.func5
    (ChangeSpec.witness6 (enc := enc) (C := Try.checked) false ⟨#[], #[.bool false, .bool false, .bool false, .agg #[.int .u32 0, .int .u32 0, .int .u32 0, .int .u32 0]], []⟩ 8 (by kernel_rfl) (by kernel_rfl) (by kernel_rfl) (by kernel_rfl)) ?_
  intro W base args ds gs before hval0 hW hcnd _
  have hval : ∀ (j : Nat) t v, Try.f5.params[j]? = some t → args[j]? = some v → Value.okWide Try.prog W .any base t v := hval0
  have hW' := hW
  obtain ⟨p, q, hA0, hV, rfl, hfz, hnd⟩ := hW
  have hA : DataW.TrodAll enc Try.prog W 0 (fun _ => true) true Try.f5.params.toList args.toList ds p := hA0
  rw [Try.params5] at hA hval
  obtain ⟨v0, vs0, d0, ds0, p0, q0, hargs, rfl, rfl, h0, r0⟩ := trodAll_cons hA
  obtain ⟨v1, vs1, d1, ds1, p1, q1, rfl, rfl, rfl, h1, r1⟩ := trodAll_cons r0
  obtain ⟨v2, vs2, d2, ds2, p2, q2, rfl, rfl, rfl, h2, r2⟩ := trodAll_cons r1
  obtain ⟨v3, vs3, d3, ds3, p3, q3, rfl, rfl, rfl, h3, r3⟩ := trodAll_cons r2
  obtain ⟨rfl, rfl, rfl⟩ := trodAll_nil r3
  obtain rfl : args = #[v0, v1, v2, v3] := by cases args; simp_all
  obtain ⟨rfl, rfl⟩ := trodVars_none hV
  obtain ⟨a0, rfl, rfl, rfl⟩ := open_bool Try.underlying4 (hval 0 4 v0 rfl rfl) h0
  obtain ⟨a1, rfl, rfl, rfl⟩ := open_bool Try.underlying4 (hval 1 4 v1 rfl rfl) h1
  obtain ⟨a2, rfl, rfl, rfl⟩ := open_bool Try.underlying4 (hval 2 4 v2 rfl rfl) h2
  have k3 := h3
  have lt3 : ∀ x ∈ p3, x.block < W.heap.size := by obtain ⟨m, hm⟩ := k3; exact DataW.trod_lt m _ _ _ hm
  obtain ⟨m3, hm3⟩ := h3
  obtain ⟨a3, rfl, w3⟩ := line_val (hval 3 29 v3 rfl rfl) hm3
  clear hA0 hval0
  refine (walk a0 a1 a2 a3 w3 W).mono fun e W' ⟨he, bel⟩ => ?_
  subst he
  exact ⟨_, rfl, _, _, _, [], _, [], hW', trodAll_mk1 (shut_bool Try.underlying4 _), (trodAll_cons_mk (shut_bool Try.underlying4 _) (trodAll_cons_mk (shut_bool Try.underlying4 _) (trodAll_cons_mk (shut_bool Try.underlying4 _) (trodAll_cons_mk (Below.trod laidOut (by kernel_rfl) (of_decide_eq_true (by kernel_rfl)) k3 bel lt3) trodAll_mk0)))), rfl, bel.frame _, fun h => by cases h⟩

theorem over : Rows.loneWaitsRow.holds Try.pinned (OpenSpec.ofChange Rows.loneWaitsSpec) :=
  OpenClaim.holds_of_wide 5 Try.f5 rfl rfl rfl rfl rfl rfl rfl ⟨rfl, rfl, rfl, rfl, rfl⟩ rfl rfl rfl rfl rfl (by kernel_rfl) Try.func5 (by kernel_rfl)
    (of_decide_eq_true (by kernel_rfl)) (by unfold Func.isWrapper; first | (rw [if_pos (by decide +kernel)]; kernel_rfl) | (rw [if_neg (by decide +kernel)]; exact ⟨rfl, rfl⟩))
    (fun os started H enc _ => lifted os started H enc)

theorem proved : Rows.LoneWaitsSaid := over
#print axioms proved
end Go.Proofs.Ytogchippkenppaa.loneWaits
