/- Whoever asks, in turn, and answers as told, ends up with what was asked for: alone, if it wants to write, or if nobody else has it; what was written last is what comes: for every list of up to sixty wishes (a longer one is passed by) and every line the law answers true, and nothing that was there is changed. -/
import Derived.Test.YtadkpelcbnljbaaRows
import Derived.Test.YtadkpelcbnljbaaHomAloneWalk
import Derived.WalkKit
import Derived.ProofKit
import Derived.OpenShut
import Derived.Test.YtadkpelcbnljbaaHomOf
import Derived.ShutString
import Derived.ChangeOld
import Derived.Below
import Derived.Deep.Slices
namespace Go.Proofs.Ytadkpelcbnljbaa.homeAlone
open Go.ChangeShapes Go.WideShapes Go.ChangeAt Go.RowKit Go.Deep
set_option linter.unusedVariables false

theorem own : ownKnob Try.prog.godebug = none := by kernel_rfl
theorem laidOut : laidOutB Try.prog = true := by kernel_rfl
def lineV (L : Nat → Int) : Value := .agg #[.int .u32 (L 0), .int .u32 (L 1), .int .u32 (L 2), .int .u32 (L 3)]
theorem cellsU : Try.prog.cellsOf 22 = 1 := by kernel_rfl

theorem okWide_line {w : World} {r : Reach} {base : Nat} {v : Value} (h : Value.okWide Try.prog w r base 24 v) : ∃ cs, v = .agg cs := by
  simp only [Value.okWide, Try.underlying24] at h
  obtain ⟨cs, h1, _⟩ := h
  exact ⟨cs, h1⟩
set_option maxRecDepth 100000 in
/-- A line that can be read is four words. -/
theorem line_val {H : Type} {enc : TypeId × Value → H} {w : World} {base fuel : Nat} {v : Value} {x : DataW H × List MemPlace} (hok : Value.okWide Try.prog w .any base 24 v)
    (h : DataW.trod enc Try.prog w 0 (fun _ => true) true fuel 24 v.cells.toList = some x) : ∃ L : Nat → Int, v = lineV L ∧ ∀ k, 0 ≤ L k ∧ L k < 4294967296 := by
  obtain ⟨cs, rfl⟩ := okWide_line hok
  obtain ⟨xs, k, hk, hxy, hcl, hxl, hf⟩ := DataW.trod_array Try.underlying24 h
  rw [show Try.prog.cellsOf 24 = 4 by kernel_rfl] at hcl
  simp only [Value.cells] at hcl hf
  obtain ⟨l⟩ := cs
  simp only at hcl hf
  match xs, hxl, l, hcl with
  | [y0, y1, y2, y3], _, [v0, v1, v2, v3], _ =>
    have g0 := hf 0 (by decide)
    have g1 := hf 1 (by decide)
    have g2 := hf 2 (by decide)
    have g3 := hf 3 (by decide)
    simp [cellsU] at g0 g1 g2 g3
    obtain ⟨n0, e0, _, w0⟩ := DataW.trod_int Try.underlying22 g0
    obtain ⟨n1, e1, _, w1⟩ := DataW.trod_int Try.underlying22 g1
    obtain ⟨n2, e2, _, w2⟩ := DataW.trod_int Try.underlying22 g2
    obtain ⟨n3, e3, _, w3⟩ := DataW.trod_int Try.underlying22 g3
    simp only [List.cons.injEq, and_true] at e0 e1 e2 e3
    subst e0 e1 e2 e3
    have b0 := bounds_u32 w0
    have b1 := bounds_u32 w1
    have b2 := bounds_u32 w2
    have b3 := bounds_u32 w3
    refine ⟨fun j => if j = 0 then n0 else if j = 1 then n1 else if j = 2 then n2 else n3, rfl, fun j => ?_⟩
    dsimp only
    split
    · omega
    · split
      · omega
      · split <;> omega

theorem walk (s0 : W.Sl) (a0 : Nat → Int) (a1 : (Nat → Int))  (w1 : ∀ k, 0 ≤ a1 k ∧ a1 k < 4294967296) (w : World) (w0 : IsIs s0 a0 w) :
    Calls Try.prog 4 #[slV s0, .agg #[.int .u32 (a1 0), .int .u32 (a1 1), .int .u32 (a1 2), .int .u32 (a1 3)]] w fun e w' => e = .returned (.bool true) ∧ Below w.heap.size w w' := by
  by_cases hk : 60 < s0.n
  · exact alone_long s0.a s0.n s0.c (a1 0) (a1 1) (a1 2) (a1 3) hk w0.2.1 w
  · exact alone_small s0.a s0.n s0.c a0 (a1 0) (a1 1) (a1 2) (a1 3) (by omega) w (fun h => by
      obtain ⟨b, o, e, hl, hc⟩ := w0.2.2 h
      exact ⟨b, o, e, hl, fun j hj => (hc j hj).1⟩)

set_option maxRecDepth 100000 in
theorem lifted (os : Go.Os) (started : os.Started) (H : Type) (enc : TypeId × Value → H) :
    ReturnsInHanded {} Try.checked os 4 .any (Rows.homeAloneSpec.pre6 enc Try.prog Try.f4 Rows.homeAloneRow.domain false) (Rows.homeAloneSpec.post enc Try.prog Try.f4 false true false false) := by
  refine returnsInHanded_of_change (C := Try.checked) own started (by kernel_rfl) Try.func4
    (ChangeSpec.witness6 (enc := enc) (C := Try.checked) false ⟨#[], #[.slice none 0 0, .agg #[.int .u32 0, .int .u32 0, .int .u32 0, .int .u32 0]], []⟩ 8 (by kernel_rfl) (by kernel_rfl) (by kernel_rfl) (by kernel_rfl)) ?_
  intro W base args ds gs before hval0 hW hcnd _
  have hval : ∀ (j : Nat) t v, Try.f4.params[j]? = some t → args[j]? = some v → Value.okWide Try.prog W .any base t v := hval0
  have hW' := hW
  obtain ⟨p, q, hA0, hV, rfl, hfz, hnd⟩ := hW
  have hA : DataW.TrodAll enc Try.prog W 0 (fun _ => true) true Try.f4.params.toList args.toList ds p := hA0
  rw [Try.params4] at hA hval
  obtain ⟨v0, vs0, d0, ds0, p0, q0, hargs, rfl, rfl, h0, r0⟩ := trodAll_cons hA
  obtain ⟨v1, vs1, d1, ds1, p1, q1, rfl, rfl, rfl, h1, r1⟩ := trodAll_cons r0
  obtain ⟨rfl, rfl, rfl⟩ := trodAll_nil r1
  obtain rfl : args = #[v0, v1] := by cases args; simp_all
  obtain ⟨rfl, rfl⟩ := trodVars_none hV
  obtain ⟨c0, len0, cap0, rfl⟩ := okWide_slice Try.underlying39 (hval 0 39 v0 rfl rfl)
  have k0 := h0
  have lt0 : ∀ x ∈ p0, x.block < W.heap.size := by obtain ⟨m, hm⟩ := k0; exact DataW.trod_lt m _ _ _ hm
  obtain ⟨s0, a0, es0, w0⟩ : ∃ s sq, Value.slice c0 len0 cap0 = slV s ∧ IsIs s sq W := by
    obtain ⟨fuel, hf⟩ := h0
    exact Of.ints hf
  have k1 := h1
  have lt1 : ∀ x ∈ p1, x.block < W.heap.size := by obtain ⟨m, hm⟩ := k1; exact DataW.trod_lt m _ _ _ hm
  obtain ⟨m1, hm1⟩ := h1
  obtain ⟨a1, rfl, w1⟩ := line_val (hval 1 24 v1 rfl rfl) hm1
  clear hA0 hval0
  have hw := walk s0 a0 a1 w1 W w0
  rw [← es0] at hw
  refine hw.mono fun e W' ⟨he, bel⟩ => ?_
  subst he
  exact ⟨_, rfl, _, _, _, [], _, [], hW', trodAll_mk1 (shut_bool Try.underlying4 _), (trodAll_cons_mk (Below.trod laidOut (by kernel_rfl) (of_decide_eq_true (by kernel_rfl)) k0 bel lt0) (trodAll_cons_mk (Below.trod laidOut (by kernel_rfl) (of_decide_eq_true (by kernel_rfl)) k1 bel lt1) trodAll_mk0)), rfl, bel.frame _, fun h => by cases h⟩

theorem over : Rows.homeAloneRow.holds Try.pinned (OpenSpec.ofChange Rows.homeAloneSpec) :=
  OpenClaim.holds_of_wide 4 Try.f4 rfl rfl rfl rfl rfl rfl rfl ⟨rfl, rfl, rfl, rfl, rfl⟩ rfl rfl rfl rfl rfl (by kernel_rfl) Try.func4 (by kernel_rfl)
    (of_decide_eq_true (by kernel_rfl)) (by unfold Func.isWrapper; first | (rw [if_pos (by decide +kernel)]; kernel_rfl) | (rw [if_neg (by decide +kernel)]; exact ⟨rfl, rfl⟩))
    (fun os started H enc _ => lifted os started H enc)

theorem proved : Rows.HomeAloneSaid := over
#print axioms proved
end Go.Proofs.Ytadkpelcbnljbaa.homeAlone
