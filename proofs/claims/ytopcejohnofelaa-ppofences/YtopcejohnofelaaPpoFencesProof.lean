/- PpoFences of package corrallaw13 returns true for every slice of bools, nil too, and all numbers, and leaves the slice as it was; no condition. -/
import Derived.Test.YtopcejohnofelaaRows
import Derived.Test.YtopcejohnofelaaPpoFencesWalk
import Derived.WalkKit
import Derived.ProofKit
import Derived.OpenShut
import Derived.ShutString
import Derived.ChangeOld
import Derived.Below
import Derived.Deep.Slices
namespace Go.Proofs.Ytopcejohnofelaa.ppoFences
open Go.ChangeShapes Go.WideShapes Go.ChangeAt Go.RowKit Go.Deep
set_option linter.unusedVariables false

theorem own : ownKnob Try.prog.godebug = none := by kernel_rfl
theorem laidOut : laidOutB Try.prog = true := by kernel_rfl
theorem cellsU : Try.prog.cellsOf 4 = 1 := by kernel_rfl

theorem and3 (n : Int) : bits .and .i64 n 3 = n % 4 := by
  have h : ((BitVec.ofInt 64 n &&& BitVec.ofInt 64 3 : BitVec 64).toNat : Int) = n % 4 := by
    rw [BitVec.toNat_and]
    have h3 : (BitVec.ofInt 64 3).toNat = 2 ^ 2 - 1 := by decide
    rw [h3, Nat.and_two_pow_sub_one_eq_mod, BitVec.toNat_ofInt]
    simp
    omega
  show IntKind.i64.wrap ((BitVec.ofInt 64 n &&& BitVec.ofInt 64 3 : BitVec 64).toNat : Int) = n % 4
  rw [h]
  exact IntWalk.i64_in _ (by omega)
theorem ppoFences_walk (a : Option Addr) (k cap : Nat) (p s : Int) (w : World) (h : IsBools w a k) :
    Calls Try.prog 4 #[.slice a k cap, .int .i64 p, .int .i64 s] w fun x w' => x = .returned (.bool true) ∧ Below w.heap.size w w' := by
  obtain ⟨hm, b, off, u, hb, hc⟩ := h
  by_cases hk : 12 < k
  · exact fences_long a k cap p s hk hm w
  · obtain ⟨P, hP⟩ := Int.eq_ofNat_of_zero_le (show 0 ≤ p % 4 by omega)
    obtain ⟨S, hS⟩ := Int.eq_ofNat_of_zero_le (show 0 ≤ s % 4 by omega)
    exact fences_some a k cap (by omega) p s P S (by rw [and3, hP]) (by rw [and3, hS]) (by omega) (by omega) u b off w hb hc

theorem lt_of_cell {w : World} {b o : Nat} {v : Value} (h : w.cell? ⟨b, o, none⟩ = some v) : b < w.heap.size := by
  by_cases hb : b < w.heap.size
  · exact hb
  · have e : w.heap[b]? = none := by simp; omega
    simp [World.cell?, e] at h

theorem bools_of {H : Type} {enc : TypeId × Value → H} {w : World} {fuel : Nat} {a : Option Addr} {len cap : Nat} {x : DataW H × List MemPlace}
    (h : DataW.trod enc Try.prog w 0 (fun _ => true) true fuel 33 [.slice a len cap] = some x) : IsBools w a len := by
  rcases open_slice Try.underlying33 h with ⟨hcs, _⟩ | ⟨a', len', cap', m, n, D, Pl, hcs, _, hl, hm, hmm, _, hx⟩
  · simp only [List.cons.injEq, Value.slice.injEq, and_true] at hcs
    obtain ⟨rfl, rfl, rfl⟩ := hcs
    exact ⟨Nat.zero_le _, 0, 0, fun _ => false, fun h => absurd h (by omega), fun j hj => absurd hj (by omega)⟩
  · simp only [List.cons.injEq, Value.slice.injEq, and_true] at hcs
    obtain ⟨rfl, rfl, rfl⟩ := hcs
    simp only [if_true] at hmm
    subst hmm
    refine ⟨Nat.le_trans hl hm, ?_⟩
    by_cases hz : len = 0
    · subst hz
      exact ⟨0, 0, fun _ => false, fun h => absurd h (by omega), fun j hj => absurd hj (by omega)⟩
    · have each : ∀ i, i < len → ∃ q : Bool, w.cell? (a'.add i) = some (.bool q) := by
        intro i hi
        obtain ⟨cs', h1, h2⟩ := hx i (by omega)
        rw [cellsU] at h1
        obtain ⟨_, hlen, hcell⟩ := World.cells?_some h1
        match cs', hlen with
        | [v0], _ =>
          obtain ⟨n0, e0, _⟩ := DataW.trod_bool Try.underlying4 h2
          simp only [List.cons.injEq, and_true] at e0
          subst e0
          have c0 := hcell 0 (by omega)
          rw [add_add] at c0
          exact ⟨n0, by simpa using c0⟩
      obtain ⟨q, hq⟩ := choose_lt each
      have s0 := World.cell?_spot (hq 0 (by omega))
      obtain ⟨b, off, spot⟩ := a'
      have hspot : spot = none := by simpa [Addr.add] using s0
      subst hspot
      simp only [add_plain] at hq
      exact ⟨b, off, q, fun _ => ⟨rfl, lt_of_cell (hq 0 (by omega))⟩, fun j hj => hq j hj⟩

set_option maxRecDepth 100000 in
theorem lifted (os : Go.Os) (started : os.Started) (H : Type) (enc : TypeId × Value → H) :
    ReturnsInHanded {} Try.checked os 4 .any (Rows.ppoFencesSpec.pre6 enc Try.prog Try.f4 Rows.ppoFencesRow.domain false) (Rows.ppoFencesSpec.post enc Try.prog Try.f4 false true false false) := by
  refine returnsInHanded_of_change (C := Try.checked) own started (by kernel_rfl) Try.func4
    (ChangeSpec.witness6 (enc := enc) (C := Try.checked) false ⟨#[], #[.slice none 0 0, .int .i64 0, .int .i64 0], []⟩ 8 (by kernel_rfl) (by kernel_rfl) (by kernel_rfl) (by kernel_rfl)) ?_
  intro W base args ds gs before hval0 hW hcnd _
  have hval : ∀ (j : Nat) t v, Try.f4.params[j]? = some t → args[j]? = some v → Value.okWide Try.prog W .any base t v := hval0
  have hW' := hW
  obtain ⟨p, q, hA0, hV, rfl, hfz, hnd⟩ := hW
  have hA : DataW.TrodAll enc Try.prog W 0 (fun _ => true) true Try.f4.params.toList args.toList ds p := hA0
  rw [Try.params4] at hA hval
  obtain ⟨v1, vs1, d1, ds1, p1, q1, hargs, rfl, rfl, h1, r1⟩ := trodAll_cons hA
  obtain ⟨v2, vs2, d2, ds2, p2, q2, rfl, rfl, rfl, h2, r2⟩ := trodAll_cons r1
  obtain ⟨v3, vs3, d3, ds3, p3, q3, rfl, rfl, rfl, h3, r3⟩ := trodAll_cons r2
  obtain ⟨rfl, rfl, rfl⟩ := trodAll_nil r3
  obtain rfl : args = #[v1, v2, v3] := by cases args; simp_all
  obtain ⟨rfl, rfl⟩ := trodVars_none hV
  obtain ⟨a1, len1, cap1, rfl⟩ := okWide_slice Try.underlying33 (hval 0 33 v1 rfl rfl)
  obtain ⟨a2, rfl, rfl, rfl, w2⟩ := open_int Try.underlying3 (hval 1 3 v2 rfl rfl) h2
  obtain ⟨a3, rfl, rfl, rfl, w3⟩ := open_int Try.underlying3 (hval 2 3 v3 rfl rfl) h3
  have k1 := h1
  have lt1 : ∀ x ∈ p1, x.block < W.heap.size := by obtain ⟨m, hm⟩ := k1; exact DataW.trod_lt m _ _ _ hm
  have ww : IsBools W a1 len1 := by
    obtain ⟨fuel, hf⟩ := h1
    exact bools_of hf
  clear hA0 hval0
  refine (ppoFences_walk a1 len1 cap1 a2 a3 W ww).mono fun e W' ⟨he, bel⟩ => ?_
  subst he
  simp only [List.append_nil] at hW'
  exact ⟨_, rfl, _, _, _, [], _, [], hW', trodAll_mk1 (shut_bool Try.underlying4 _), (trodAll_cons_mk (Below.trod laidOut (by kernel_rfl) (of_decide_eq_true (by kernel_rfl)) k1 bel lt1) (trodAll_cons_mk (shut_int Try.underlying3 w2) (trodAll_cons_mk (shut_int Try.underlying3 w3) trodAll_mk0))), rfl, bel.frame _, fun h => by cases h⟩

theorem over : Rows.ppoFencesRow.holds Try.pinned (OpenSpec.ofChange Rows.ppoFencesSpec) :=
  OpenClaim.holds_of_wide 4 Try.f4 rfl rfl rfl rfl rfl rfl rfl ⟨rfl, rfl, rfl, rfl, rfl⟩ rfl rfl rfl rfl rfl (by kernel_rfl) Try.func4 (by kernel_rfl)
    (of_decide_eq_true (by kernel_rfl)) (by unfold Func.isWrapper; first | (rw [if_pos (by decide +kernel)]; kernel_rfl) | (rw [if_neg (by decide +kernel)]; exact ⟨rfl, rfl⟩))
    (fun os started H enc _ => lifted os started H enc)

theorem proved : Rows.PpoFencesSaid := over
#print axioms proved
end Go.Proofs.Ytopcejohnofelaa.ppoFences
