/- DepPlaces of package corrallaw12 returns true for every slice of numbers, nil too, and leaves the slice as it was; no condition. -/
import Derived.Test.YtopehmpjfndgjaaRows
import Derived.WalkKit
import Derived.ProofKit
import Derived.OpenShut
import Derived.ShutString
import Derived.ChangeOld
import Derived.Below
import Derived.Deep.Slices
import Derived.Test.YtopehmpjfndgjaaP01
namespace Go.Proofs.Ytopehmpjfndgjaa.depPlaces
open Go.ChangeShapes Go.WideShapes Go.ChangeAt Go.RowKit Go.Deep
set_option linter.unusedVariables false

theorem own : ownKnob Try.prog.godebug = none := by kernel_rfl
theorem laidOut : laidOutB Try.prog = true := by kernel_rfl
theorem cellsU : Try.prog.cellsOf 3 = 1 := by kernel_rfl

def IsInts (w : World) (a : Option Addr) (k : Nat) : Prop :=
  k ≤ maxLen ∧ ∃ (b off : Nat) (u : Nat → Int), (0 < k → a = some ⟨b, off, none⟩ ∧ b < w.heap.size) ∧ (∀ j, j < k → w.cell? ⟨b, off + j, none⟩ = some (.int .i64 (u j))) ∧ ∀ j, -9223372036854775808 ≤ u j ∧ u j ≤ 9223372036854775807

theorem depPlaces_walk (a : Option Addr) (k cap : Nat) (w : World) (h : IsInts w a k) :
    Calls Try.prog 6 #[.slice a k cap] w fun x w' => x = .returned (.bool true) ∧ Below w.heap.size w w' := by
  obtain ⟨hm, b, off, u, hb, hc, hu⟩ := h
  by_cases hk : 40 < k
  · exact places_long a k cap hk hm w
  · exact places_some a k cap (by omega) u hu b off w hb hc

theorem zI : (-9223372036854775808 : Int) ≤ 0 ∧ (0 : Int) ≤ 9223372036854775807 := by decide

theorem lt_of_cell {w : World} {b o : Nat} {v : Value} (h : w.cell? ⟨b, o, none⟩ = some v) : b < w.heap.size := by
  by_cases hb : b < w.heap.size
  · exact hb
  · have e : w.heap[b]? = none := by simp; omega
    simp [World.cell?, e] at h

theorem ints_of {H : Type} {enc : TypeId × Value → H} {w : World} {fuel : Nat} {a : Option Addr} {len cap : Nat} {x : DataW H × List MemPlace}
    (h : DataW.trod enc Try.prog w 0 (fun _ => true) true fuel 30 [.slice a len cap] = some x) : IsInts w a len := by
  rcases open_slice Try.underlying30 h with ⟨hcs, _⟩ | ⟨a', len', cap', m, n, D, Pl, hcs, _, hl, hm, hmm, _, hx⟩
  · simp only [List.cons.injEq, Value.slice.injEq, and_true] at hcs
    obtain ⟨rfl, rfl, rfl⟩ := hcs
    exact ⟨Nat.zero_le _, 0, 0, fun _ => 0, fun h => absurd h (by omega), fun j hj => absurd hj (by omega), fun _ => zI⟩
  · simp only [List.cons.injEq, Value.slice.injEq, and_true] at hcs
    obtain ⟨rfl, rfl, rfl⟩ := hcs
    simp only [if_true] at hmm
    subst hmm
    refine ⟨Nat.le_trans hl hm, ?_⟩
    by_cases hz : len = 0
    · subst hz
      exact ⟨0, 0, fun _ => 0, fun h => absurd h (by omega), fun j hj => absurd hj (by omega), fun _ => zI⟩
    · have each : ∀ i, i < len → ∃ q : Int, w.cell? (a'.add i) = some (.int .i64 q) ∧ (Lit.int .i64 q).wf = true := by
        intro i hi
        obtain ⟨cs', h1, h2⟩ := hx i (by omega)
        rw [cellsU] at h1
        obtain ⟨_, hlen, hcell⟩ := World.cells?_some h1
        match cs', hlen with
        | [v0], _ =>
          obtain ⟨n0, e0, _, w0⟩ := DataW.trod_int Try.underlying3 h2
          simp only [List.cons.injEq, and_true] at e0
          subst e0
          have c0 := hcell 0 (by omega)
          rw [add_add] at c0
          exact ⟨n0, by simpa using c0, w0⟩
      obtain ⟨q, hq⟩ := choose_lt each
      have s0 := World.cell?_spot (hq 0 (by omega)).1
      obtain ⟨b, off, spot⟩ := a'
      have hspot : spot = none := by simpa [Addr.add] using s0
      subst hspot
      simp only [add_plain] at hq
      refine ⟨b, off, fun j => if j < len then q j else 0, fun _ => ⟨rfl, lt_of_cell (hq 0 (by omega)).1⟩, fun j hj => ?_, fun j => ?_⟩
      · dsimp only
        rw [if_pos hj]
        exact (hq j hj).1
      · dsimp only
        split
        · rename_i hj
          have := bounds_i64 (hq j hj).2
          omega
        · decide

set_option maxRecDepth 100000 in
theorem lifted (os : Os) (started : os.Started) (H : Type) (enc : TypeId × Value → H) :
    ReturnsInHanded {} Try.checked os 6 .any (Rows.depPlacesSpec.pre6 enc Try.prog Try.f6 Rows.depPlacesRow.domain false) (Rows.depPlacesSpec.post enc Try.prog Try.f6 false true false false) := by
  refine returnsInHanded_of_change (C := Try.checked) own started (by kernel_rfl) Try.func6
    (ChangeSpec.witness6 (enc := enc) (C := Try.checked) false ⟨#[], #[.slice none 0 0], []⟩ 8 (by kernel_rfl) (by kernel_rfl) (by kernel_rfl) (by kernel_rfl)) ?_
  intro W base args ds gs before hval0 hW hcnd _
  have hval : ∀ (j : Nat) t v, Try.f6.params[j]? = some t → args[j]? = some v → Value.okWide Try.prog W .any base t v := hval0
  have hW' := hW
  obtain ⟨p, q, hA0, hV, rfl, hfz, hnd⟩ := hW
  have hA : DataW.TrodAll enc Try.prog W 0 (fun _ => true) true Try.f6.params.toList args.toList ds p := hA0
  rw [Try.params6] at hA hval
  obtain ⟨v1, vs1, d1, ds1, p1, q1, hargs, rfl, rfl, h1, r1⟩ := trodAll_cons hA
  obtain ⟨rfl, rfl, rfl⟩ := trodAll_nil r1
  obtain rfl : args = #[v1] := by cases args; simp_all
  obtain ⟨rfl, rfl⟩ := trodVars_none hV
  obtain ⟨a1, len1, cap1, rfl⟩ := okWide_slice Try.underlying30 (hval 0 30 v1 rfl rfl)
  have k1 := h1
  have lt1 : ∀ x ∈ p1, x.block < W.heap.size := by obtain ⟨m, hm⟩ := k1; exact DataW.trod_lt m _ _ _ hm
  have ww : IsInts W a1 len1 := by
    obtain ⟨fuel, hf⟩ := h1
    exact ints_of hf
  clear hA0 hval0
  refine (depPlaces_walk a1 len1 cap1 W ww).mono fun e W' ⟨he, bel⟩ => ?_
  subst he
  simp only [List.append_nil] at hW'
  exact ⟨_, rfl, _, _, _, [], _, [], hW', trodAll_mk1 (shut_bool Try.underlying4 _), (trodAll_cons_mk (Below.trod laidOut (by kernel_rfl) (of_decide_eq_true (by kernel_rfl)) k1 bel lt1) trodAll_mk0), rfl, bel.frame _, fun h => by cases h⟩

theorem over : Rows.depPlacesRow.holds Try.pinned (OpenSpec.ofChange Rows.depPlacesSpec) :=
  OpenClaim.holds_of_wide 6 Try.f6 rfl rfl rfl rfl rfl rfl rfl ⟨rfl, rfl, rfl, rfl, rfl⟩ rfl rfl rfl rfl rfl (by kernel_rfl) Try.func6 (by kernel_rfl)
    (of_decide_eq_true (by kernel_rfl)) (by unfold Func.isWrapper; first | (rw [if_pos (by decide +kernel)]; kernel_rfl) | (rw [if_neg (by decide +kernel)]; exact ⟨rfl, rfl⟩))
    (fun os started H enc _ => lifted os started H enc)

theorem proved : Rows.DepPlacesSaid := over
#print axioms proved
end Go.Proofs.Ytopehmpjfndgjaa.depPlaces
