/- CsrPlays answers true for every hart and every list of things told, nil too, and leaves the list as it was; no condition. -/
import Derived.Test.YtbagmlcakmhhaaaRows
import Derived.Test.YtbagmlcakmhhaaaCsrPlaysWalk
import Derived.WalkKit
import Derived.ProofKit
import Derived.OpenShut
import Derived.ShutString
import Derived.ChangeOld
import Derived.Below
import Derived.Deep.Slices
namespace Go.Proofs.Ytbagmlcakmhhaaa.csrPlays
open Go.ChangeShapes Go.WideShapes Go.ChangeAt Go.RowKit Go.Deep
set_option linter.unusedVariables false

theorem own : ownKnob Try.prog.godebug = none := by kernel_rfl
theorem laidOut : laidOutB Try.prog = true := by kernel_rfl
theorem cellsF : Try.prog.cellsOf 33 = 5 := by kernel_rfl
theorem cellsI : Try.prog.cellsOf 3 = 1 := by kernel_rfl
theorem cellsU : Try.prog.cellsOf 24 = 1 := by kernel_rfl

/-- What a list of things told that can be read holds. -/
def IsFields (w : World) (a : Option Addr) (len cap : Nat) : Prop :=
  len ≤ maxLen ∧ (len = 0 ∨ ∃ (b off : Nat) (K N V U P : Nat → Int), a = some ⟨b, off, none⟩ ∧ b < w.heap.size ∧ (∀ j, j < len → 0 ≤ V j ∧ V j < 4294967296) ∧
    (∀ j, j < len → w.cell? ⟨b, off + j * 5, none⟩ = some (.int .i64 (K j))) ∧ (∀ j, j < len → w.cell? ⟨b, off + j * 5 + 1, none⟩ = some (.int .i64 (N j))) ∧
    (∀ j, j < len → w.cell? ⟨b, off + j * 5 + 2, none⟩ = some (.int .u32 (V j))) ∧ (∀ j, j < len → w.cell? ⟨b, off + j * 5 + 3, none⟩ = some (.int .u32 (U j))) ∧ (∀ j, j < len → w.cell? ⟨b, off + j * 5 + 4, none⟩ = some (.int .u32 (P j))))

theorem walk (hart : Int) (a : Option Addr) (len cap : Nat) (w : World) (h : IsFields w a len cap) :
    Calls Try.prog 3 #[.int .i64 hart, .slice a len cap] w fun e w' => e = .returned (.bool true) ∧ Below w.heap.size w w' := by
  obtain ⟨hm, h⟩ := h
  by_cases hl : 60 < len
  · exact plays_long hart a len cap hl hm w
  · rcases h with rfl | ⟨b, off, K, N, V, U, P, rfl, hb, hV, h0, h1, h2, h3, h4⟩
    · exact plays_empty hart a cap w
    · exact plays_some hart b off len cap K N V U P w (by omega) hb hV h0 h1 h2 h3 h4

theorem lt_of_cell {w : World} {b o : Nat} {v : Value} (h : w.cell? ⟨b, o, none⟩ = some v) : b < w.heap.size := by
  by_cases hb : b < w.heap.size
  · exact hb
  · have e : w.heap[b]? = none := by simp; omega
    simp [World.cell?, e] at h

theorem fields_of {H : Type} {enc : TypeId × Value → H} {w : World} {fuel : Nat} {a : Option Addr} {len cap : Nat} {x : DataW H × List MemPlace}
    (h : DataW.trod enc Try.prog w 0 (fun _ => true) true fuel 22 [.slice a len cap] = some x) : IsFields w a len cap := by
  rcases open_slice Try.underlying22 h with ⟨hcs, _⟩ | ⟨a', len', cap', m, n, D, Pl, hcs, _, hl, hm, hmm, _, hx⟩
  · simp only [List.cons.injEq, Value.slice.injEq, and_true] at hcs
    obtain ⟨rfl, rfl, rfl⟩ := hcs
    exact ⟨Nat.zero_le _, Or.inl rfl⟩
  · simp only [List.cons.injEq, Value.slice.injEq, and_true] at hcs
    obtain ⟨rfl, rfl, rfl⟩ := hcs
    simp only [if_true] at hmm
    subst hmm
    refine ⟨Nat.le_trans hl hm, ?_⟩
    by_cases hz : len = 0
    · exact Or.inl hz
    · right
      have each : ∀ i, i < len → ∃ q : Int × Int × Int × Int × Int, w.cell? (a'.add (i * 5)) = some (.int .i64 q.1) ∧ w.cell? (a'.add (i * 5 + 1)) = some (.int .i64 q.2.1) ∧ w.cell? (a'.add (i * 5 + 2)) = some (.int .u32 q.2.2.1) ∧ w.cell? (a'.add (i * 5 + 3)) = some (.int .u32 q.2.2.2.1) ∧ w.cell? (a'.add (i * 5 + 4)) = some (.int .u32 q.2.2.2.2) ∧ (Lit.int .u32 q.2.2.1).wf = true := by
        intro i hi
        obtain ⟨cs', h1, h2⟩ := hx i (by omega)
        rw [cellsF] at h1
        obtain ⟨_, hlen, hcell⟩ := World.cells?_some h1
        obtain ⟨xs, k, hk, hxy, _, hxl, hf⟩ := DataW.trod_struct Try.underlying33 h2
        match xs, hxl, cs', hlen with
        | [y0, y1, y2, y3, y4], _, [v0, v1, v2, v3, v4], _ =>
          have g0 := hf 0 _ rfl
          have g1 := hf 1 _ rfl
          have g2 := hf 2 _ rfl
          have g3 := hf 3 _ rfl
          have g4 := hf 4 _ rfl
          simp [cellsI, cellsU] at g0 g1 g2 g3 g4
          obtain ⟨n0, e0, _, _⟩ := DataW.trod_int Try.underlying3 g0
          obtain ⟨n1, e1, _, _⟩ := DataW.trod_int Try.underlying3 g1
          obtain ⟨n2, e2, _, w2⟩ := DataW.trod_int Try.underlying24 g2
          obtain ⟨n3, e3, _, _⟩ := DataW.trod_int Try.underlying24 g3
          obtain ⟨n4, e4, _, _⟩ := DataW.trod_int Try.underlying24 g4
          simp only [List.cons.injEq, and_true] at e0 e1 e2 e3 e4
          subst e0 e1 e2 e3 e4
          have c0 := hcell 0 (by omega)
          have c1 := hcell 1 (by omega)
          have c2 := hcell 2 (by omega)
          have c3 := hcell 3 (by omega)
          have c4 := hcell 4 (by omega)
          rw [add_add] at c0 c1 c2 c3 c4
          exact ⟨(n0, n1, n2, n3, n4), by simpa using c0, by simpa using c1, by simpa using c2, by simpa using c3, by simpa using c4, w2⟩
      obtain ⟨q, hq⟩ := choose_lt each
      have s0 := World.cell?_spot (hq 0 (by omega)).1
      obtain ⟨b, off, spot⟩ := a'
      have hspot : spot = none := by simpa [Addr.add] using s0
      subst hspot
      simp only [add_plain] at hq
      exact ⟨b, off, fun i => (q i).1, fun i => (q i).2.1, fun i => (q i).2.2.1, fun i => (q i).2.2.2.1, fun i => (q i).2.2.2.2, rfl, lt_of_cell (hq 0 (by omega)).1, fun j hj => by have := bounds_u32 (hq j hj).2.2.2.2.2; show 0 ≤ (q j).2.2.1 ∧ (q j).2.2.1 < 4294967296; omega,
        fun j hj => (hq j hj).1, fun j hj => (hq j hj).2.1, fun j hj => (hq j hj).2.2.1, fun j hj => (hq j hj).2.2.2.1, fun j hj => (hq j hj).2.2.2.2.1⟩

set_option maxRecDepth 100000 in
theorem lifted (os : Os) (started : os.Started) (H : Type) (enc : TypeId × Value → H) :
    ReturnsInHanded {} Try.checked os 3 .any (Rows.csrPlaysSpec.pre6 enc Try.prog Try.f3 Rows.csrPlaysRow.domain false) (Rows.csrPlaysSpec.post enc Try.prog Try.f3 false true false false) := by
  refine returnsInHanded_of_change (C := Try.checked) own started (by kernel_rfl) Try.func3
    (ChangeSpec.witness6 (enc := enc) (C := Try.checked) false ⟨#[], #[.int .i64 0, .slice none 0 0], []⟩ 8 (by kernel_rfl) (by kernel_rfl) (by kernel_rfl) (by kernel_rfl)) ?_
  intro W base args ds gs before hval0 hW hcnd _
  have hval : ∀ (j : Nat) t v, Try.f3.params[j]? = some t → args[j]? = some v → Value.okWide Try.prog W .any base t v := hval0
  have hW' := hW
  obtain ⟨p, q, hA0, hV, rfl, hfz, hnd⟩ := hW
  have hA : DataW.TrodAll enc Try.prog W 0 (fun _ => true) true Try.f3.params.toList args.toList ds p := hA0
  rw [Try.params3] at hA hval
  obtain ⟨v0, vs0, d0, ds0, p0, q0, hargs, rfl, rfl, h0, r0⟩ := trodAll_cons hA
  obtain ⟨v1, vs1, d1, ds1, p1, q1, rfl, rfl, rfl, h1, r1⟩ := trodAll_cons r0
  obtain ⟨rfl, rfl, rfl⟩ := trodAll_nil r1
  obtain rfl : args = #[v0, v1] := by cases args; simp_all
  obtain ⟨rfl, rfl⟩ := trodVars_none hV
  obtain ⟨n0, rfl, rfl, rfl, w0⟩ := open_int Try.underlying3 (hval 0 3 v0 rfl rfl) h0
  obtain ⟨a1, len1, cap1, rfl⟩ := okWide_slice Try.underlying22 (hval 1 22 v1 rfl rfl)
  have k1 := h1
  have lt1 : ∀ x ∈ p1, x.block < W.heap.size := by obtain ⟨m, hm⟩ := k1; exact DataW.trod_lt m _ _ _ hm
  have w1 : IsFields W a1 len1 cap1 := by
    obtain ⟨fuel, hf⟩ := h1
    exact fields_of hf
  clear hA0 hval0
  refine (walk n0 a1 len1 cap1 W w1).mono fun e W' ⟨he, bel⟩ => ?_
  subst he
  exact ⟨_, rfl, _, _, _, [], _, [], hW', trodAll_mk1 (shut_bool Try.underlying4 _), (trodAll_cons_mk (shut_int Try.underlying3 w0) (trodAll_cons_mk (Below.trod laidOut (by kernel_rfl) (of_decide_eq_true (by kernel_rfl)) k1 bel lt1) trodAll_mk0)), rfl, bel.frame _, fun h => by cases h⟩

theorem over : Rows.csrPlaysRow.holds Try.pinned (OpenSpec.ofChange Rows.csrPlaysSpec) :=
  OpenClaim.holds_of_wide 3 Try.f3 rfl rfl rfl rfl rfl rfl rfl ⟨rfl, rfl, rfl, rfl, rfl⟩ rfl rfl rfl rfl rfl (by kernel_rfl) Try.func3 (by kernel_rfl)
    (of_decide_eq_true (by kernel_rfl)) (by unfold Func.isWrapper; first | (rw [if_pos (by decide +kernel)]; kernel_rfl) | (rw [if_neg (by decide +kernel)]; exact ⟨rfl, rfl⟩))
    (fun os started H enc _ => lifted os started H enc)

theorem proved : Rows.CsrPlaysSaid := over
#print axioms proved
end Go.Proofs.Ytbagmlcakmhhaaa.csrPlays
