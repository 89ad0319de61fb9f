/- WmoMixed of package corrallaw14 returns true for every list of words, nil too, and every number, and leaves the list as it was; the errors are as the text lays them. -/
import Derived.Test.YtahdclmgolpjfaaDoorRows
import Derived.Test.YtahdclmgolpjfaaDoorCards
import Derived.Test.YtahdclmgolpjfaaDoorTie
import Derived.Test.YtahdclmgolpjfaaDoorLaid14
import Derived.Test.YtahdclmgolpjfaaDoorWmoMixedWalk
import Derived.WalkKit
import Derived.ProofKit
import Derived.OpenShut
import Derived.ShutString
import Derived.ChangeMaps5
import Derived.Below
import Derived.ChangeOld
import Derived.Deep.Slices
import Derived.SevenTiedAt
namespace Go.Proofs.YtahdclmgolpjfaaDoor.wmoMixed
open Go.ChangeShapes Go.WideShapes Go.ChangeAt Go.RowKit Go.ChangeMaps Go.Deep
set_option linter.unusedVariables false

theorem own : ownKnob Tryd.prog.godebug = none := by kernel_rfl
theorem laidOut : laidOutB Tryd.prog = true := by kernel_rfl

def IsWords (w : World) (a : Option Addr) (k : Nat) : Prop :=
  k ≤ maxLen ∧ ∃ (b off : Nat) (u : Nat → Int), (0 < k → a = some ⟨b, off, none⟩ ∧ b < w.heap.size) ∧ (∀ j, j < k → w.cell? ⟨b, off + j, none⟩ = some (.int .u32 (u j))) ∧ ∀ j, 0 ≤ u j ∧ u j < 4294967296
theorem cellsU : Tryd.prog.cellsOf 36 = 1 := by kernel_rfl

theorem zI : (0 : Int) ≤ 0 ∧ (0 : Int) < 4294967296 := by decide

theorem lt_of_cell {w : World} {b o : Nat} {v : Value} (h : w.cell? ⟨b, o, none⟩ = some v) : b < w.heap.size := by
  by_cases hb : b < w.heap.size
  · exact hb
  · have e : w.heap[b]? = none := by simp; omega
    simp [World.cell?, e] at h

theorem words_of {H : Type} {enc : TypeId × Value → H} {w : World} {fuel : Nat} {a : Option Addr} {len cap : Nat} {x : DataW H × List MemPlace}
    (h : DataW.trod enc Tryd.prog w 0 (fun _ => true) true fuel 53 [.slice a len cap] = some x) : IsWords w a len := by
  rcases open_slice Tryd.underlying53 h with ⟨hcs, _⟩ | ⟨a', len', cap', m, n, D, Pl, hcs, _, hl, hm, hmm, _, hx⟩
  · simp only [List.cons.injEq, Value.slice.injEq, and_true] at hcs
    obtain ⟨rfl, rfl, rfl⟩ := hcs
    exact ⟨Nat.zero_le _, 0, 0, fun _ => 0, fun h => absurd h (by omega), fun j hj => absurd hj (by omega), fun _ => zI⟩
  · simp only [List.cons.injEq, Value.slice.injEq, and_true] at hcs
    obtain ⟨rfl, rfl, rfl⟩ := hcs
    simp only [if_true] at hmm
    subst hmm
    refine ⟨Nat.le_trans hl hm, ?_⟩
    by_cases hz : len = 0
    · subst hz
      exact ⟨0, 0, fun _ => 0, fun h => absurd h (by omega), fun j hj => absurd hj (by omega), fun _ => zI⟩
    · have each : ∀ i, i < len → ∃ q : Int, w.cell? (a'.add i) = some (.int .u32 q) ∧ (Lit.int .u32 q).wf = true := by
        intro i hi
        obtain ⟨cs', h1, h2⟩ := hx i (by omega)
        rw [cellsU] at h1
        obtain ⟨_, hlen, hcell⟩ := World.cells?_some h1
        match cs', hlen with
        | [v0], _ =>
          obtain ⟨n0, e0, _, w0⟩ := DataW.trod_int Tryd.underlying36 h2
          simp only [List.cons.injEq, and_true] at e0
          subst e0
          have c0 := hcell 0 (by omega)
          rw [add_add] at c0
          exact ⟨n0, by simpa using c0, w0⟩
      obtain ⟨q, hq⟩ := choose_lt each
      have s0 := World.cell?_spot (hq 0 (by omega)).1
      obtain ⟨b, off, spot⟩ := a'
      have hspot : spot = none := by simpa [Addr.add] using s0
      subst hspot
      simp only [add_plain] at hq
      refine ⟨b, off, fun j => if j < len then q j else 0, fun _ => ⟨rfl, lt_of_cell (hq 0 (by omega)).1⟩, fun j hj => ?_, fun j => ?_⟩
      · dsimp only
        rw [if_pos hj]
        exact (hq j hj).1
      · dsimp only
        split
        · rename_i hj
          have := bounds_u32 (hq j hj).2
          omega
        · decide

theorem walk (A : Nat → Addr) (a0 : Option Addr) (len0 cap0 : Nat) (a1 : Int) (w1 : (Lit.int .i64 a1).wf = true) (w : World) (hw : IsWords w a0 len0) (hS : Sent A w) :
    Calls Tryd.prog 7 #[.slice a0 len0 cap0, .int .i64 a1] w fun e w' => e = .returned (.bool true) ∧ Below w.heap.size w w' := by
  have b1 := bounds_i64 w1
  obtain ⟨hm, b, off, u, hb, hc, hu⟩ := hw
  by_cases hk : 12 < len0
  · exact mixed_long A a0 len0 cap0 a1 hk hm w hS
  · exact mixed_some A a0 len0 cap0 a1 b1.1 b1.2 (by omega) u hu b off w hb hc hS

set_option maxRecDepth 100000 in
theorem lifted (os : Go.Os) (started : os.Started) (H : Type) (enc : TypeId × Value → H) :
    ReturnsInHanded {} Tryd.checked os 7 .any (fun w args => (Rows.wmoMixedSpec.pre enc Tryd.prog Tryd.f7 [] false w args ∧ laidMetH Tryd.prog theLaid w) ∧ sizedMet enc Tryd.prog Tryd.f7 (OpenSpec.ofChange Rows.wmoMixedSpec) false w args) (Rows.wmoMixedSpec.post enc Tryd.prog Tryd.f7 false true false false) := by
  refine returnsInHanded_of_change_and (C := Tryd.checked) (X := fun w _ => laidMetH Tryd.prog theLaid w) (fun _ _ _ hh h => h.of_heap hh) own started (by kernel_rfl) Tryd.func7
    (ChangeSpec.witness_shaped (enc := enc) (C := Tryd.checked) (os := os) (X := fun w _ => laidMetH Tryd.prog theLaid w) false (World.doorLaid Tryd.prog 218 os) #[.slice none 0 0, .int .i64 0] 8 rfl (World.shaped_of_RefB (by kernel_rfl) (by kernel_rfl)) (by kernel_rfl) (by kernel_rfl) (by kernel_rfl) (door_met os _)) ?_
  intro W base args ds gs before hval0 hW _ _ hL _
  have hval : ∀ (j : Nat) t v, Tryd.f7.params[j]? = some t → args[j]? = some v → Value.okWide Tryd.prog W .any base t v := hval0
  have hW' := hW
  obtain ⟨p, q, hA0, hV, rfl, hfz, hnd⟩ := hW
  have hA : DataW.TrodAll enc Tryd.prog W 0 (fun _ => true) true Tryd.f7.params.toList args.toList ds p := hA0
  rw [Tryd.params7] at hA hval
  obtain ⟨v0, vs0, d0, ds0, p0, q0, hargs, rfl, rfl, h0, r0⟩ := trodAll_cons hA
  obtain ⟨v1, vs1, d1, ds1, p1, q1, rfl, rfl, rfl, h1, r1⟩ := trodAll_cons r0
  obtain ⟨rfl, rfl, rfl⟩ := trodAll_nil r1
  obtain rfl : args = #[v0, v1] := by cases args; simp_all
  obtain ⟨rfl, rfl⟩ := trodVars_none hV
  obtain ⟨a0, len0, cap0, rfl⟩ := okWide_slice Tryd.underlying53 (hval 0 53 v0 rfl rfl)
  obtain ⟨a1, rfl, rfl, rfl, w1⟩ := open_int Tryd.underlying3 (hval 1 3 v1 rfl rfl) h1
  have k0 := h0
  have lt0 : ∀ x ∈ p0, x.block < W.heap.size := by obtain ⟨m, hm⟩ := k0; exact DataW.trod_lt m _ _ _ hm
  have ww : IsWords W a0 len0 := by
    obtain ⟨fuel, hf⟩ := h0
    exact words_of hf
  obtain ⟨A, hS⟩ := sent_of_laid hL
  clear hA0 hval0
  refine (walk A a0 len0 cap0 a1 w1 W ww hS).mono fun e W' ⟨he, bel⟩ => ?_
  subst he
  simp only [List.append_nil] at hW'
  exact ⟨_, rfl, _, _, _, [], _, [], hW', trodAll_mk1 (shut_bool Tryd.underlying4 _), (trodAll_cons_mk (Below.trod laidOut (by kernel_rfl) (of_decide_eq_true (by kernel_rfl)) k0 bel lt0) (trodAll_cons_mk (shut_int Tryd.underlying3 w1) trodAll_mk0)), rfl, bel.frame _, fun h => by cases h⟩

theorem over : Rows.wmoMixedRow.holds Tryd.pinned (OpenSpec.ofChange Rows.wmoMixedSpec) :=
  OpenClaim.holds_of_wide 7 Tryd.f7 rfl rfl rfl rfl rfl rfl rfl ⟨rfl, rfl, rfl, rfl, rfl⟩ rfl rfl rfl rfl rfl (by kernel_rfl) Tryd.func7 (by kernel_rfl)
    (of_decide_eq_true (by kernel_rfl)) (by unfold Func.isWrapper; first | (rw [if_pos (by decide +kernel)]; kernel_rfl) | (rw [if_neg (by decide +kernel)]; exact ⟨rfl, rfl⟩))
    (fun os started H enc _ => lifted os started H enc)

set_option maxRecDepth 100000 in
theorem proved : Rows.WmoMixedCardSaid :=
  Claim7.holds_tied_plain_at .later [] [.sentinel, .sentinel, .sentinel, .sentinel, .sentinel, .sentinel, .sentinel, .sentinel, .sentinel, .sentinel, .sentinel] true (true, "35a17184053b819e58a25825ee67d72290aa7f3167fd46aa5dc68b826b5d9c3b") true
    over (fun _ h => by cases h) (by kernel_rfl) (fun _ h => by cases h) wmoMixed_row_tie rfl ⟨rfl, rfl⟩ (by kernel_rfl) rfl
    (fun f fn hf hfn => by
      obtain rfl : f = 7 := Option.some.inj ((show Tryd.prog.funcNamed "corral/corrallaw14.WmoMixed" = some 7 by kernel_rfl).symm.trans hf) |>.symm
      obtain rfl : fn = Tryd.f7 := (Option.some.inj (Tryd.func7.symm.trans hfn)).symm
      exact ⟨by kernel_rfl, fun j t ht => by
        rw [Tryd.params7] at ht
        have hm : t ∈ [53, 3] := by simpa using Array.mem_of_getElem? ht
        have hall : ([53, 3].all fun u => !Tryd.prog.wantsStandIn u) = true := by kernel_rfl
        exact (show Tryd.prog.wantsStandIn t = false by simpa using List.all_eq_true.1 hall t hm)⟩)
    (by kernel_rfl)
#print axioms proved
end Go.Proofs.YtahdclmgolpjfaaDoor.wmoMixed
