/- MemPlays of package corrallaw7 returns true for every number of bytes, every list of words, every list of things told, nil too, every address, size and line, and leaves its lists as they were; the errors are as the text lays them. -/
import Derived.Test.YtjdiepklgcdamaaDoorRows
import Derived.Test.YtjdiepklgcdamaaDoorCards
import Derived.Test.YtjdiepklgcdamaaDoorTie
import Derived.Test.YtjdiepklgcdamaaDoorLaid7
import Derived.Test.YtjdiepklgcdamaaDoorMemPlaysWalk
import Derived.WalkKit
import Derived.ProofKit
import Derived.OpenShut
import Derived.ShutString
import Derived.ChangeOld
import Derived.ChangeMaps5
import Derived.Below
import Derived.Deep.Slices
import Derived.SevenTiedAt
namespace Go.Proofs.YtjdiepklgcdamaaDoor.memPlays
open Go.ChangeShapes Go.WideShapes Go.ChangeAt Go.RowKit Go.ChangeMaps Go.Deep
set_option linter.unusedVariables false

theorem own : ownKnob Tryd.prog.godebug = none := by kernel_rfl
theorem laidOut : laidOutB Tryd.prog = true := by kernel_rfl
theorem cellsD : Tryd.prog.cellsOf 40 = 9 := by kernel_rfl
theorem cellsL : Tryd.prog.cellsOf 38 = 4 := by kernel_rfl
theorem cellsI : Tryd.prog.cellsOf 3 = 1 := by kernel_rfl
theorem cellsU : Tryd.prog.cellsOf 24 = 1 := by kernel_rfl

theorem zI : (0 : Int) ≤ 0 ∧ (0 : Int) < 4294967296 := by decide
theorem zN : (0 : Nat) < 4294967296 := by decide

theorem lt_of_cell {w : World} {b o : Nat} {v : Value} (h : w.cell? ⟨b, o, none⟩ = some v) : b < w.heap.size := by
  by_cases hb : b < w.heap.size
  · exact hb
  · have e : w.heap[b]? = none := by simp; omega
    simp [World.cell?, e] at h

theorem words_of {H : Type} {enc : TypeId × Value → H} {w : World} {fuel : Nat} {a : Option Addr} {len cap : Nat} {x : DataW H × List MemPlace}
    (h : DataW.trod enc Tryd.prog w 0 (fun _ => true) true fuel 22 [.slice a len cap] = some x) : IsWords w a len := by
  rcases open_slice Tryd.underlying22 h with ⟨hcs, _⟩ | ⟨a', len', cap', m, n, D, Pl, hcs, _, hl, hm, hmm, _, hx⟩
  · simp only [List.cons.injEq, Value.slice.injEq, and_true] at hcs
    obtain ⟨rfl, rfl, rfl⟩ := hcs
    exact ⟨Nat.zero_le _, 0, 0, fun _ => 0, fun h => absurd h (by omega), fun j hj => absurd hj (by omega), fun _ => zI⟩
  · simp only [List.cons.injEq, Value.slice.injEq, and_true] at hcs
    obtain ⟨rfl, rfl, rfl⟩ := hcs
    simp only [if_true] at hmm
    subst hmm
    refine ⟨Nat.le_trans hl hm, ?_⟩
    by_cases hz : len = 0
    · subst hz
      exact ⟨0, 0, fun _ => 0, fun h => absurd h (by omega), fun j hj => absurd hj (by omega), fun _ => zI⟩
    · have each : ∀ i, i < len → ∃ q : Int, w.cell? (a'.add i) = some (.int .u32 q) ∧ (Lit.int .u32 q).wf = true := by
        intro i hi
        obtain ⟨cs', h1, h2⟩ := hx i (by omega)
        rw [cellsU] at h1
        obtain ⟨_, hlen, hcell⟩ := World.cells?_some h1
        match cs', hlen with
        | [v0], _ =>
          obtain ⟨n0, e0, _, w0⟩ := DataW.trod_int Tryd.underlying24 h2
          simp only [List.cons.injEq, and_true] at e0
          subst e0
          have c0 := hcell 0 (by omega)
          rw [add_add] at c0
          exact ⟨n0, by simpa using c0, w0⟩
      obtain ⟨q, hq⟩ := choose_lt each
      have s0 := World.cell?_spot (hq 0 (by omega)).1
      obtain ⟨b, off, spot⟩ := a'
      have hspot : spot = none := by simpa [Addr.add] using s0
      subst hspot
      simp only [add_plain] at hq
      refine ⟨b, off, fun j => if j < len then q j else 0, fun _ => ⟨rfl, lt_of_cell (hq 0 (by omega)).1⟩, fun j hj => ?_, fun j => ?_⟩
      · dsimp only
        rw [if_pos hj]
        exact (hq j hj).1
      · dsimp only
        split
        · rename_i hj
          have := bounds_u32 (hq j hj).2
          omega
        · decide

theorem dos_of {H : Type} {enc : TypeId × Value → H} {w : World} {fuel : Nat} {a : Option Addr} {len cap : Nat} {x : DataW H × List MemPlace}
    (h : DataW.trod enc Tryd.prog w 0 (fun _ => true) true fuel 23 [.slice a len cap] = some x) : IsDos w a len := by
  rcases open_slice Tryd.underlying23 h with ⟨hcs, _⟩ | ⟨a', len', cap', m, n, D, Pl, hcs, _, hl, hm, hmm, _, hx⟩
  · simp only [List.cons.injEq, Value.slice.injEq, and_true] at hcs
    obtain ⟨rfl, rfl, rfl⟩ := hcs
    exact ⟨Nat.zero_le _, 0, 0, fun _ => 0, fun _ => 0, fun _ => 0, fun _ => 0, fun _ => 0, fun _ _ => 0, fun h => absurd h (by omega), fun j hj => absurd hj (by omega), fun _ => zN, fun _ => zI, fun _ _ => zI⟩
  · simp only [List.cons.injEq, Value.slice.injEq, and_true] at hcs
    obtain ⟨rfl, rfl, rfl⟩ := hcs
    simp only [if_true] at hmm
    subst hmm
    refine ⟨Nat.le_trans hl hm, ?_⟩
    by_cases hz : len = 0
    · subst hz
      exact ⟨0, 0, fun _ => 0, fun _ => 0, fun _ => 0, fun _ => 0, fun _ => 0, fun _ _ => 0, fun h => absurd h (by omega), fun j hj => absurd hj (by omega), fun _ => zN, fun _ => zI, fun _ _ => zI⟩
    · have each : ∀ i, i < len → ∃ q : Int × Int × Int × Int × Int × Int × Int × Int × Int, (w.cell? (a'.add (i * 9)) = some (.int .i64 q.1) ∧ w.cell? (a'.add (i * 9 + 1)) = some (.int .i64 q.2.1) ∧ w.cell? (a'.add (i * 9 + 2)) = some (.int .i64 q.2.2.1) ∧ w.cell? (a'.add (i * 9 + 3)) = some (.int .u32 q.2.2.2.1) ∧ w.cell? (a'.add (i * 9 + 4)) = some (.int .u32 q.2.2.2.2.1) ∧ w.cell? (a'.add (i * 9 + 5)) = some (.int .u32 q.2.2.2.2.2.1) ∧ w.cell? (a'.add (i * 9 + 6)) = some (.int .u32 q.2.2.2.2.2.2.1) ∧ w.cell? (a'.add (i * 9 + 7)) = some (.int .u32 q.2.2.2.2.2.2.2.1) ∧ w.cell? (a'.add (i * 9 + 8)) = some (.int .u32 q.2.2.2.2.2.2.2.2)) ∧ (Lit.int .u32 q.2.2.2.1).wf = true ∧ (Lit.int .u32 q.2.2.2.2.1).wf = true ∧ (Lit.int .u32 q.2.2.2.2.2.1).wf = true ∧ (Lit.int .u32 q.2.2.2.2.2.2.1).wf = true ∧ (Lit.int .u32 q.2.2.2.2.2.2.2.1).wf = true ∧ (Lit.int .u32 q.2.2.2.2.2.2.2.2).wf = true := by
        intro i hi
        obtain ⟨cs', h1, h2⟩ := hx i (by omega)
        rw [cellsD] at h1
        obtain ⟨_, hlen, hcell⟩ := World.cells?_some h1
        obtain ⟨xs, k, hk, hxy, _, hxl, hf⟩ := DataW.trod_struct Tryd.underlying40 h2
        match xs, hxl, cs', hlen with
        | [y0, y1, y2, y3, y4, y5], _, [v0, v1, v2, v3, v4, v5, v6, v7, v8], _ =>
          have g0 := hf 0 _ rfl
          have g1 := hf 1 _ rfl
          have g2 := hf 2 _ rfl
          have g3 := hf 3 _ rfl
          have g4 := hf 4 _ rfl
          have g5 := hf 5 _ rfl
          simp [cellsI, cellsU, cellsL] at g0 g1 g2 g3 g4 g5
          obtain ⟨n0, e0, _, _⟩ := DataW.trod_int Tryd.underlying3 g0
          obtain ⟨n1, e1, _, _⟩ := DataW.trod_int Tryd.underlying3 g1
          obtain ⟨n2, e2, _, _⟩ := DataW.trod_int Tryd.underlying3 g2
          obtain ⟨n3, e3, _, w3⟩ := DataW.trod_int Tryd.underlying24 g3
          obtain ⟨n4, e4, _, w4⟩ := DataW.trod_int Tryd.underlying24 g4
          obtain ⟨zs, k5, _, _, _, hzl, hz5⟩ := DataW.trod_array Tryd.underlying38 g5
          match zs, hzl with
          | [z0, z1, z2, z3], _ =>
            have t0 := hz5 0 (by decide)
            have t1 := hz5 1 (by decide)
            have t2 := hz5 2 (by decide)
            have t3 := hz5 3 (by decide)
            simp [cellsU] at t0 t1 t2 t3
            obtain ⟨n5, e5, _, w5⟩ := DataW.trod_int Tryd.underlying24 t0
            obtain ⟨n6, e6, _, w6⟩ := DataW.trod_int Tryd.underlying24 t1
            obtain ⟨n7, e7, _, w7⟩ := DataW.trod_int Tryd.underlying24 t2
            obtain ⟨n8, e8, _, w8⟩ := DataW.trod_int Tryd.underlying24 t3
            simp only [List.cons.injEq, and_true] at e0 e1 e2 e3 e4 e5 e6 e7 e8
            subst e0 e1 e2 e3 e4 e5 e6 e7 e8
            have c0 := hcell 0 (by omega)
            have c1 := hcell 1 (by omega)
            have c2 := hcell 2 (by omega)
            have c3 := hcell 3 (by omega)
            have c4 := hcell 4 (by omega)
            have c5 := hcell 5 (by omega)
            have c6 := hcell 6 (by omega)
            have c7 := hcell 7 (by omega)
            have c8 := hcell 8 (by omega)
            rw [add_add] at c0 c1 c2 c3 c4 c5 c6 c7 c8
            exact ⟨(n0, n1, n2, n3, n4, n5, n6, n7, n8), ⟨by simpa using c0, by simpa using c1, by simpa using c2, by simpa using c3, by simpa using c4, by simpa using c5, by simpa using c6, by simpa using c7, by simpa using c8⟩, w3, w4, w5, w6, w7, w8⟩
      obtain ⟨q, hq⟩ := choose_lt each
      have s0 := World.cell?_spot (hq 0 (by omega)).1.1
      obtain ⟨b, off, spot⟩ := a'
      have hspot : spot = none := by simpa [Addr.add] using s0
      subst hspot
      simp only [add_plain] at hq
      refine ⟨b, off, fun j => (q j).1, fun j => (q j).2.1, fun j => (q j).2.2.1, fun j => if j < len then (q j).2.2.2.1.toNat else 0, fun j => if j < len then (q j).2.2.2.2.1 else 0, fun j i => if j < len then (if i = 0 then (q j).2.2.2.2.2.1 else if i = 1 then (q j).2.2.2.2.2.2.1 else if i = 2 then (q j).2.2.2.2.2.2.2.1 else (q j).2.2.2.2.2.2.2.2) else 0, fun _ => ⟨rfl, lt_of_cell (hq 0 (by omega)).1.1⟩, fun j hj => ?_, fun j => ?_, fun j => ?_, fun j i => ?_⟩
      · obtain ⟨⟨c0, c1, c2, c3, c4, c5, c6, c7, c8⟩, w3, _⟩ := hq j hj
        have b3 := bounds_u32 w3
        dsimp only
        simp only [if_pos hj]
        refine ⟨c0, c1, c2, ?_, c4, c5, c6, c7, c8⟩
        have c3' : w.cell? ⟨b, off + j * 9 + 3, none⟩ = some (.int .u32 (q j).2.2.2.1) := c3
        rw [c3', Int.toNat_of_nonneg b3.1]
      · dsimp only
        split
        · rename_i hj
          have b3 := bounds_u32 (hq j hj).2.1
          omega
        · decide
      · dsimp only
        split
        · rename_i hj
          have b3 := bounds_u32 (hq j hj).2.2.1
          omega
        · decide
      · dsimp only
        split
        · rename_i hj
          obtain ⟨_, _, _, w5, w6, w7, w8⟩ := hq j hj
          have b5 := bounds_u32 w5
          have b6 := bounds_u32 w6
          have b7 := bounds_u32 w7
          have b8 := bounds_u32 w8
          split
          · omega
          · split
            · omega
            · split <;> omega
        · decide

set_option maxRecDepth 100000 in
theorem lifted (os : Os) (started : os.Started) (H : Type) (enc : TypeId × Value → H) :
    ReturnsInHanded {} Tryd.checked os 3 .any (fun w args => (Rows.memPlaysSpec.pre enc Tryd.prog Tryd.f3 [] false w args ∧ laidMetH Tryd.prog theLaid w) ∧ sizedMet enc Tryd.prog Tryd.f3 (OpenSpec.ofChange Rows.memPlaysSpec) false w args) (Rows.memPlaysSpec.post enc Tryd.prog Tryd.f3 false true false false) := by
  refine returnsInHanded_of_change_and (C := Tryd.checked) (X := fun w _ => laidMetH Tryd.prog theLaid w) (fun _ _ _ hh h => h.of_heap hh) own started (by kernel_rfl) Tryd.func3
    (ChangeSpec.witness_shaped (enc := enc) (C := Tryd.checked) (os := os) (X := fun w _ => laidMetH Tryd.prog theLaid w) false (World.doorLaid Tryd.prog 218 os) #[.int .i64 0, .slice none 0 0, .slice none 0 0, .int .u32 0, .int .i64 0, .int .i64 0] 8 rfl (World.shaped_of_RefB (by kernel_rfl) (by kernel_rfl)) (by kernel_rfl) (by kernel_rfl) (by kernel_rfl) (door_met os _)) ?_
  intro W base args ds gs before hval0 hW _ _ hL _
  have hval : ∀ (j : Nat) t v, Tryd.f3.params[j]? = some t → args[j]? = some v → Value.okWide Tryd.prog W .any base t v := hval0
  have hW' := hW
  obtain ⟨p, q, hA0, hV, rfl, hfz, hnd⟩ := hW
  have hA : DataW.TrodAll enc Tryd.prog W 0 (fun _ => true) true Tryd.f3.params.toList args.toList ds p := hA0
  rw [Tryd.params3] at hA hval
  obtain ⟨v0, vs0, d0, ds0, p0, q0, hargs, rfl, rfl, h0, r0⟩ := trodAll_cons hA
  obtain ⟨v1, vs1, d1, ds1, p1, q1, rfl, rfl, rfl, h1, r1⟩ := trodAll_cons r0
  obtain ⟨v2, vs2, d2, ds2, p2, q2, rfl, rfl, rfl, h2, r2⟩ := trodAll_cons r1
  obtain ⟨v3, vs3, d3, ds3, p3, q3, rfl, rfl, rfl, h3, r3⟩ := trodAll_cons r2
  obtain ⟨v4, vs4, d4, ds4, p4, q4, rfl, rfl, rfl, h4, r4⟩ := trodAll_cons r3
  obtain ⟨v5, vs5, d5, ds5, p5, q5, rfl, rfl, rfl, h5, r5⟩ := trodAll_cons r4
  obtain ⟨rfl, rfl, rfl⟩ := trodAll_nil r5
  obtain rfl : args = #[v0, v1, v2, v3, v4, v5] := by cases args; simp_all
  obtain ⟨rfl, rfl⟩ := trodVars_none hV
  obtain ⟨n0, rfl, rfl, rfl, w0⟩ := open_int Tryd.underlying3 (hval 0 3 v0 rfl rfl) h0
  obtain ⟨a1, len1, cap1, rfl⟩ := okWide_slice Tryd.underlying22 (hval 1 22 v1 rfl rfl)
  obtain ⟨a2, len2, cap2, rfl⟩ := okWide_slice Tryd.underlying23 (hval 2 23 v2 rfl rfl)
  obtain ⟨n3, rfl, rfl, rfl, w3⟩ := open_int Tryd.underlying24 (hval 3 24 v3 rfl rfl) h3
  obtain ⟨n4, rfl, rfl, rfl, w4⟩ := open_int Tryd.underlying3 (hval 4 3 v4 rfl rfl) h4
  obtain ⟨n5, rfl, rfl, rfl, w5⟩ := open_int Tryd.underlying3 (hval 5 3 v5 rfl rfl) h5
  have k1 := h1
  have lt1 : ∀ x ∈ p1, x.block < W.heap.size := by obtain ⟨m, hm⟩ := k1; exact DataW.trod_lt m _ _ _ hm
  have k2 := h2
  have lt2 : ∀ x ∈ p2, x.block < W.heap.size := by obtain ⟨m, hm⟩ := k2; exact DataW.trod_lt m _ _ _ hm
  have w1 : IsWords W a1 len1 := by
    obtain ⟨fuel, hf⟩ := h1
    exact words_of hf
  have w2 : IsDos W a2 len2 := by
    obtain ⟨fuel, hf⟩ := h2
    exact dos_of hf
  obtain ⟨A, hS⟩ := sent_of_laid hL
  have b3 := bounds_u32 w3
  clear hA0 hval0
  refine (memPlays_walk A n0 a1 len1 cap1 a2 len2 cap2 n3 n4 n5 b3.1 (by omega) W w1 w2 hS).mono fun e W' ⟨he, bel⟩ => ?_
  subst he
  exact ⟨_, rfl, _, _, _, [], _, [], hW', trodAll_mk1 (shut_bool Tryd.underlying4 _), (trodAll_cons_mk (shut_int Tryd.underlying3 w0) (trodAll_cons_mk (Below.trod laidOut (by kernel_rfl) (of_decide_eq_true (by kernel_rfl)) k1 bel lt1) (trodAll_cons_mk (Below.trod laidOut (by kernel_rfl) (of_decide_eq_true (by kernel_rfl)) k2 bel lt2) (trodAll_cons_mk (shut_int Tryd.underlying24 w3) (trodAll_cons_mk (shut_int Tryd.underlying3 w4) (trodAll_cons_mk (shut_int Tryd.underlying3 w5) trodAll_mk0)))))), rfl, bel.frame _, fun h => by cases h⟩

theorem over : Rows.memPlaysRow.holds Tryd.pinned (OpenSpec.ofChange Rows.memPlaysSpec) :=
  OpenClaim.holds_of_wide 3 Tryd.f3 rfl rfl rfl rfl rfl rfl rfl ⟨rfl, rfl, rfl, rfl, rfl⟩ rfl rfl rfl rfl rfl (by kernel_rfl) Tryd.func3 (by kernel_rfl)
    (of_decide_eq_true (by kernel_rfl)) (by unfold Func.isWrapper; first | (rw [if_pos (by decide +kernel)]; kernel_rfl) | (rw [if_neg (by decide +kernel)]; exact ⟨rfl, rfl⟩))
    (fun os started H enc _ => lifted os started H enc)

set_option maxRecDepth 100000 in
theorem proved : Rows.MemPlaysCardSaid :=
  Claim7.holds_tied_plain_at .later [] [.sentinel, .sentinel, .sentinel, .sentinel, .sentinel, .sentinel, .sentinel, .sentinel, .sentinel, .sentinel, .sentinel] true (true, "bd9e289ae7da2ff0bea4a160c6a8ee74b01d72ba8d9d3e90ebb28a4dfc7eb202") true
    over (fun _ h => by cases h) (by kernel_rfl) (fun _ h => by cases h) memPlays_row_tie rfl ⟨rfl, rfl⟩ (by kernel_rfl) rfl
    (fun f fn hf hfn => by
      obtain rfl : f = 3 := Option.some.inj ((show Tryd.prog.funcNamed "corral/corrallaw7.MemPlays" = some 3 by kernel_rfl).symm.trans hf) |>.symm
      obtain rfl : fn = Tryd.f3 := (Option.some.inj (Tryd.func3.symm.trans hfn)).symm
      exact ⟨by kernel_rfl, fun j t ht => by
        rw [Tryd.params3] at ht
        have hm : t ∈ [3, 22, 23, 24, 3, 3] := by simpa using Array.mem_of_getElem? ht
        have hall : ([3, 22, 23, 24, 3, 3].all fun u => !Tryd.prog.wantsStandIn u) = true := by kernel_rfl
        exact (show Tryd.prog.wantsStandIn t = false by simpa using List.all_eq_true.1 hall t hm)⟩)
    (by kernel_rfl)
#print axioms proved
end Go.Proofs.YtjdiepklgcdamaaDoor.memPlays
