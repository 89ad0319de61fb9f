/- CacheSets of package corrallaw17 returns true for every list of numbers, nil too, and every line, and leaves them as they were; the errors are as the text lays them. -/
import Derived.Test.YtlindkhmjkionaaDoorRows
import Derived.Test.YtlindkhmjkionaaDoorCards
import Derived.Test.YtlindkhmjkionaaDoorTie
import Derived.Test.YtlindkhmjkionaaDoorLaid17
import Derived.Test.YtlindkhmjkionaaDoorCacSetsWalk
import Derived.Test.YtlindkhmjkionaaDoorCacOf
import Derived.WalkKit
import Derived.ProofKit
import Derived.OpenShut
import Derived.ShutString
import Derived.ChangeMaps5
import Derived.Below
import Derived.ChangeOld
import Derived.Deep.Slices
import Derived.SevenTiedAt
namespace Go.Proofs.YtlindkhmjkionaaDoor.cacheSets
open Go.ChangeShapes Go.WideShapes Go.ChangeAt Go.RowKit Go.ChangeMaps Go.Deep
set_option linter.unusedVariables false

theorem own : ownKnob Tryd.prog.godebug = none := by kernel_rfl
theorem laidOut : laidOutB Tryd.prog = true := by kernel_rfl

set_option maxRecDepth 100000 in
theorem okWide_line {w : World} {r : Reach} {base : Nat} {v : Value} (h : Value.okWide Tryd.prog w r base 35 v) : ∃ cs, v = .agg cs := by
  simp only [Value.okWide, Tryd.underlying35] at h
  obtain ⟨cs, h1, _⟩ := h
  exact ⟨cs, h1⟩
set_option maxRecDepth 100000 in
theorem line_val {H : Type} {enc : TypeId × Value → H} {w : World} {base fuel : Nat} {v : Value} {x : DataW H × List MemPlace} (hok : Value.okWide Tryd.prog w .any base 35 v)
    (h : DataW.trod enc Tryd.prog w 0 (fun _ => true) true fuel 35 v.cells.toList = some x) : ∃ n0 n1 n2 n3 : Int, v = .agg #[.int .u32 n0, .int .u32 n1, .int .u32 n2, .int .u32 n3] ∧ (0 ≤ n0 ∧ n0 < 4294967296) ∧ (0 ≤ n1 ∧ n1 < 4294967296) ∧ (0 ≤ n2 ∧ n2 < 4294967296) ∧ 0 ≤ n3 ∧ n3 < 4294967296 := by
  obtain ⟨cs, rfl⟩ := okWide_line hok
  have hlen : cs.toList.length = 4 := by
    obtain ⟨xs, k, hk, hxy, hcl, hxl, hff⟩ := DataW.trod_array Tryd.underlying35 h
    rw [show Tryd.prog.cellsOf 35 = 4 by kernel_rfl] at hcl
    simpa [Value.cells] using hcl
  obtain ⟨n0, n1, n2, n3, e, b⟩ := Of.line hlen h
  exact ⟨n0, n1, n2, n3, by congr 1; exact Array.toList_inj.1 e, b⟩

theorem walk (A : Nat → Addr) (s0 : W.Sl) (q0 : Nat → Int) (l1_0 l1_1 l1_2 l1_3 : Int) (w : World) (h0 : IsIs s0 q0 w) (m1 : (0 ≤ l1_0 ∧ l1_0 < 4294967296) ∧ (0 ≤ l1_1 ∧ l1_1 < 4294967296) ∧ (0 ≤ l1_2 ∧ l1_2 < 4294967296) ∧ 0 ≤ l1_3 ∧ l1_3 < 4294967296) (hS : Sent A w) :
    Calls Tryd.prog 5 #[slV s0, .agg #[.int .u32 l1_0, .int .u32 l1_1, .int .u32 l1_2, .int .u32 l1_3]] w fun e w' => e = .returned (.bool true) ∧ Below w.heap.size w w' := by
  by_cases hk : 30 < s0.n
  · exact sets_long A s0.a s0.n s0.c l1_0 l1_1 l1_2 l1_3 hk h0.2.1 w hS
  · exact sets_some A s0 q0 l1_0 l1_1 l1_2 l1_3 (by omega) w h0.2.2 hS

set_option maxRecDepth 100000 in
theorem lifted (os : Go.Os) (started : os.Started) (H : Type) (enc : TypeId × Value → H) :
    ReturnsInHanded {} Tryd.checked os 5 .any (fun w args => (Rows.cacheSetsSpec.pre enc Tryd.prog Tryd.f5 [] false w args ∧ laidMetH Tryd.prog theLaid w) ∧ sizedMet enc Tryd.prog Tryd.f5 (OpenSpec.ofChange Rows.cacheSetsSpec) false w args) (Rows.cacheSetsSpec.post enc Tryd.prog Tryd.f5 false true false false) := by
  refine returnsInHanded_of_change_and (C := Tryd.checked) (X := fun w _ => laidMetH Tryd.prog theLaid w) (fun _ _ _ hh h => h.of_heap hh) own started (by kernel_rfl) Tryd.func5
    (ChangeSpec.witness_shaped (enc := enc) (C := Tryd.checked) (os := os) (X := fun w _ => laidMetH Tryd.prog theLaid w) false (World.doorLaid Tryd.prog 218 os) #[.slice none 0 0, .agg #[.int .u32 0, .int .u32 0, .int .u32 0, .int .u32 0]] 8 rfl (World.shaped_of_RefB (by kernel_rfl) (by kernel_rfl)) (by kernel_rfl) (by kernel_rfl) (by kernel_rfl) (door_met os _)) ?_
  intro W base args ds gs before hval0 hW _ _ hL _
  have hval : ∀ (j : Nat) t v, Tryd.f5.params[j]? = some t → args[j]? = some v → Value.okWide Tryd.prog W .any base t v := hval0
  have hW' := hW
  obtain ⟨p, q, hA0, hV, rfl, hfz, hnd⟩ := hW
  have hA : DataW.TrodAll enc Tryd.prog W 0 (fun _ => true) true Tryd.f5.params.toList args.toList ds p := hA0
  rw [Tryd.params5] at hA hval
  obtain ⟨v0, vs0, d0, ds0, p0, r0_, hargs, rfl, rfl, h0, r0⟩ := trodAll_cons hA
  obtain ⟨v1, vs1, d1, ds1, p1, r1_, rfl, rfl, rfl, h1, r1⟩ := trodAll_cons r0
  obtain ⟨rfl, rfl, rfl⟩ := trodAll_nil r1
  obtain rfl : args = #[v0, v1] := by cases args; simp_all
  obtain ⟨rfl, rfl⟩ := trodVars_none hV
  obtain ⟨b0, len0, cap0, eb0⟩ := okWide_slice Tryd.underlying23 (hval 0 23 v0 rfl rfl)
  subst eb0
  have k0 := h0
  have lt0 : ∀ x ∈ p0, x.block < W.heap.size := by obtain ⟨m, hm⟩ := k0; exact DataW.trod_lt m _ _ _ hm
  obtain ⟨s0, q0, es0, ws0⟩ : ∃ s q, Value.slice b0 len0 cap0 = slV s ∧ IsIs s q W := by
    obtain ⟨fuel, hf⟩ := h0
    exact Of.ints hf
  have k1 := h1
  have lt1 : ∀ x ∈ p1, x.block < W.heap.size := by obtain ⟨m, hm⟩ := k1; exact DataW.trod_lt m _ _ _ hm
  obtain ⟨l1_0, l1_1, l1_2, l1_3, el1, m1⟩ : ∃ n0 n1 n2 n3 : Int, v1 = .agg #[.int .u32 n0, .int .u32 n1, .int .u32 n2, .int .u32 n3] ∧ (0 ≤ n0 ∧ n0 < 4294967296) ∧ (0 ≤ n1 ∧ n1 < 4294967296) ∧ (0 ≤ n2 ∧ n2 < 4294967296) ∧ 0 ≤ n3 ∧ n3 < 4294967296 := by
    obtain ⟨fuel, hf⟩ := h1
    exact line_val (hval 1 35 v1 rfl rfl) hf
  obtain ⟨A, hS⟩ := sent_of_laid hL
  clear hA0 hval0
  have hw := walk A s0 q0 l1_0 l1_1 l1_2 l1_3 W ws0 m1 hS
  rw [← es0, ← el1] at hw
  refine hw.mono fun e W' ⟨he, bel⟩ => ?_
  subst he
  simp only [List.append_nil] at hW'
  exact ⟨_, rfl, _, _, _, [], _, [], hW', trodAll_mk1 (shut_bool Tryd.underlying4 _), (trodAll_cons_mk (Below.trod laidOut (by kernel_rfl) (of_decide_eq_true (by kernel_rfl)) k0 bel lt0) (trodAll_cons_mk (Below.trod laidOut (by kernel_rfl) (of_decide_eq_true (by kernel_rfl)) k1 bel lt1) trodAll_mk0)), rfl, bel.frame _, fun h => by cases h⟩

theorem over : Rows.cacheSetsRow.holds Tryd.pinned (OpenSpec.ofChange Rows.cacheSetsSpec) :=
  OpenClaim.holds_of_wide 5 Tryd.f5 rfl rfl rfl rfl rfl rfl rfl ⟨rfl, rfl, rfl, rfl, rfl⟩ rfl rfl rfl rfl rfl (by kernel_rfl) Tryd.func5 (by kernel_rfl)
    (of_decide_eq_true (by kernel_rfl)) (by unfold Func.isWrapper; first | (rw [if_pos (by decide +kernel)]; kernel_rfl) | (rw [if_neg (by decide +kernel)]; exact ⟨rfl, rfl⟩))
    (fun os started H enc _ => lifted os started H enc)

set_option maxRecDepth 100000 in
theorem proved : Rows.CacheSetsCardSaid :=
  Claim7.holds_tied_plain_at .later [] [.sentinel, .sentinel, .sentinel, .sentinel, .sentinel, .sentinel, .sentinel, .sentinel, .sentinel, .sentinel, .sentinel] true (true, "05c624d8b12147201c6854d77489c34458e4fe2dac7b13417178e4dcf798c484") true
    over (fun _ h => by cases h) (by kernel_rfl) (fun _ h => by cases h) cacheSets_row_tie rfl ⟨rfl, rfl⟩ (by kernel_rfl) rfl
    (fun f fn hf hfn => by
      obtain rfl : f = 5 := Option.some.inj ((show Tryd.prog.funcNamed "corral/corrallaw17.CacheSets" = some 5 by kernel_rfl).symm.trans hf) |>.symm
      obtain rfl : fn = Tryd.f5 := (Option.some.inj (Tryd.func5.symm.trans hfn)).symm
      exact ⟨by kernel_rfl, fun j t ht => by
        rw [Tryd.params5] at ht
        have hm : t ∈ [23, 35] := by simpa using Array.mem_of_getElem? ht
        have hall : ([23, 35].all fun u => !Tryd.prog.wantsStandIn u) = true := by kernel_rfl
        exact (show Tryd.prog.wantsStandIn t = false by simpa using List.all_eq_true.1 hall t hm)⟩)
    (by kernel_rfl)
#print axioms proved
end Go.Proofs.YtlindkhmjkionaaDoor.cacheSets
