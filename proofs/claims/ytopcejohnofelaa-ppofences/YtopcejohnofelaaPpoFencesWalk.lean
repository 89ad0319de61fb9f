/- PpoFences. -/
import Derived.Test.YtopcejohnofelaaPpoPairsWalk
namespace Go.Proofs.Ytopcejohnofelaa
open Go.ChangeShapes Go.WideShapes Go.ChangeAt Go.RowKit
set_option linter.unusedVariables false
set_option linter.unusedSimpArgs false

theorem two_first (w : World) (a b : Obj) : ((w.alloc a).alloc b).heap[w.heap.size]? = some a := (((Below.refl (w.alloc a).heap.size (w.alloc a)).alloc (Nat.le_refl _) b).block w.heap.size (by simp)).trans (heap_alloc_last w a)
theorem opsR_two (a b : W.Opr) : opsR [a, b] = opN a ++ opN b := by simp [opsR]
theorem news_two (a b : W.Opr) (w : World) : ∀ j u, ((opN a).toList ++ (opN b).toList)[j]? = some u → (w.alloc (.cells (opsR [a, b]) 30)).cell? ((⟨w.heap.size, 0, none⟩ : Addr).add j) = some u := by
  rw [opsR_two]
  intro j u hu
  exact World.news_of_block (cs := opN a ++ opN b) (heap_alloc_last w _) j u (by simpa using hu)
theorem fbX_ok (ks : Nat → Bool) (j : Nat) (hj : j < 100) : W.OzOk (W.fbX ks j) :=
  ⟨(by show (-9223372036854775808 : Int) ≤ 4; decide), (by show (4 : Int) ≤ 9223372036854775807; decide), (by show (0 : Int) ≤ 4 * (j : Int); omega), (by show 4 * (j : Int) < 4294967296; omega)⟩
theorem ffX_ok (ks : Nat → Bool) (p s j : Nat) (hj : j < 100) : W.OzOk (W.ffX ks p s j) := by
  unfold W.ffX W.ffO
  split
  · exact fbX_ok ks (j / 2) (by omega)
  · exact ⟨(by show (-9223372036854775808 : Int) ≤ 0; decide), (by show (0 : Int) ≤ 9223372036854775807; decide), (by show (0 : Int) ≤ 0; decide), (by show (0 : Int) < 4294967296; decide)⟩
theorem fences_long (a : Option Addr) (n cap : Nat) (p s : Int) (hn : 12 < n) (hm : n ≤ maxLen) (w : World) : Calls Try.prog 4 #[.slice a n cap, .int .i64 p, .int .i64 s] w fun e w' => e = .returned (.bool true) ∧ Below w.heap.size w w' := by
  simp only [maxLen] at hm
  have hF := first13_any w
  have HF : Hid (Calls _ _ _ _ _) := hF
  clear hF
  go_enter Try.func4, Try.ntmps4
  go_wp2_with (fail)
  refine HF.out.mono ?_
  rintro e w1 ⟨rfl, bw1⟩
  go_wp2
  go_ret
  exact ⟨rfl, bw1⟩
attribute [local go_sem ↓] bdO_eq bsO_eq ldO_eq stO_eq
set_option maxRecDepth 10000 in
set_option maxHeartbeats 3200000 in
theorem fences_some (a : Option Addr) (n cap : Nat) (hn : n ≤ 12) (p s : Int) (P S : Nat) (hP : bits .and .i64 p 3 = (P : Int)) (hS : bits .and .i64 s 3 = (S : Int)) (hP4 : P < 4) (hS4 : S < 4) (ks : Nat → Bool) (kb ko : Nat) (w : World) (hk0 : 0 < n → a = some ⟨kb, ko, none⟩ ∧ kb < w.heap.size) (hkc : ∀ j, j < n → w.cell? ⟨kb, ko + j, none⟩ = some (.bool (ks j))) :
    Calls Try.prog 4 #[.slice a n cap, .int .i64 p, .int .i64 s] w fun e w' => e = .returned (.bool true) ∧ Below w.heap.size w w' := by
  obtain ⟨ii, hi, hzz⟩ := Option.map_eq_some_iff.1 infoOp
  simp only [Prod.mk.injEq] at hzz
  obtain ⟨hz0, hz1, hz2⟩ := hzz
  have hF := first13_any w
  have HF : Hid (Calls _ _ _ _ _ ∧ _ ∧ _) := ⟨hF, hk0, hkc⟩
  clear hF hk0 hkc
  have hn' : ¬ ((12 : Int) < (n : Int)) := by omega
  go_enter Try.func4, Try.ntmps4
  go_wp2_with (fail)
  refine HF.out.1.mono ?_
  rintro e w1 ⟨rfl, bw1⟩
  go_wp2
  go_loopw [8, 9, 10] (fun vl vv i wr => ∃ j : Nat, j ≤ n ∧ i = .int .i64 (j : Int) ∧ wr.ownsRow w.heap.size 30 13 vl j (opsG (W.fbO ks) j) ∧ wr.ownsRow w.heap.size 30 13 vv (2 * j) (opsG (W.ffO ks P S) (2 * j)) ∧ Ap vl vv ∧ Below w.heap.size w wr) (fun _ _ i _ => n - (intOf i).toNat)
  case atStart => exact ⟨0, by omega, rfl, own_nil _ _ _, own_nil _ _ _, Or.inl rfl, bw1⟩
  case round =>
    clear bw1
    obtain ⟨j, hj, rfl, hL, hV, hA, hbl⟩ := hrel
    by_cases hlt : j < n
    · have hjn : (j : Int) < (n : Int) := by omega
      have j20 : (j : Int) < 12 := by omega
      obtain ⟨bk0, bkc⟩ := IsBools.below HF.out.2.1 HF.out.2.2 hbl
      obtain ⟨rfl, kl⟩ := bk0 (by omega)
      have cj := bkc j hlt
      clear bk0 bkc
      have hbd := bdO_3 1 4 (4 * (j : Int))
      have hbb := bdO_b (P : Int) (S : Int)
      have hst := stO_new (W.op3 1 4 (4 * (j : Int)))
      cases hk : ks j
      · rw [hk] at cj
        have hpo : W.fbO ks j = (W.op3 1 4 (4 * (j : Int))) := by unfold W.fbO; rw [hk]; rfl
        have hbs := bsO_1 (W.op3 1 4 (4 * (j : Int)))
        have hbs2 := bsO_2 (W.op3 1 4 (4 * (j : Int))) (W.opB (P : Int) (S : Int))
        have hld : ∀ V : World, (ldO ⟨V.heap.size, 0, none⟩).run Try.prog (V.alloc (.cells (opN (W.op3 1 4 (4 * (j : Int)))) 30)) = .ok (.agg (opN (W.op3 1 4 (4 * (j : Int))))) (V.alloc (.cells (opN (W.op3 1 4 (4 * (j : Int)))) 30)) := fun V => ldO_blk _ _ (heap_alloc_last V _)
        have ho2 : (opN (W.op3 1 4 (4 * (j : Int)))).setIfInBounds 0 (.int .i64 2) = opN (W.op3 2 4 (4 * (j : Int))) := rfl
        have ho0 : (opN (W.op3 1 4 (4 * (j : Int))))[0]? = some (.int .i64 1) := rfl
        have hos := opN_sz (W.op3 1 4 (4 * (j : Int)))
        have HW : Hid (_ ∧ _ ∧ _ ∧ _ ∧ _) := ⟨hpo, hL, hV, hA, hbl⟩
        clear hpo hL hV hA hbl
        have n2 := news_op2 (W.op3 1 4 (4 * (j : Int))) wr (.cells (opN (W.op3 1 4 (4 * (j : Int)))) 30)
        have c6 : w.heap.size ≤ ((wr.alloc (.cells (opN (W.op3 1 4 (4 * (j : Int)))) 30)).alloc (.cells (opsR [(W.op3 1 4 (4 * (j : Int)))]) 30)).heap.size := by have := HW.out.2.2.2.2.size; simp; omega
        have c7 : ((wr.alloc (.cells (opN (W.op3 1 4 (4 * (j : Int)))) 30)).alloc (.cells (opsR [(W.op3 1 4 (4 * (j : Int)))]) 30)).heap.size = wr.heap.size + 2 := by simp
        have c8 := two_first wr (.cells (opN (W.op3 1 4 (4 * (j : Int)))) 30) (.cells (opsR [(W.op3 1 4 (4 * (j : Int)))]) 30)
        have HN : Hid (_ ∧ _ ∧ _ ∧ _) := ⟨n2, c6, c7, c8⟩
        clear n2 c6 c7 c8
        go_wp2_with (at_builtin; refine wpList_append_lies _ rfl _ _ 22 rfl w.heap.size 30 ii (.agg (opN (W.op3 0 0 0))) 13 120 Try.underlying22 hi hz0 hz1 hz2 rfl (by decide) u8 j (opsG (W.fbO ks) j) rfl ((HW.out.2.1.alloc _).alloc _) ⟨wr.heap.size + 1, 0, none⟩ 1 1 (opN (W.op3 1 4 (4 * (j : Int)))).toList rfl rfl HN.out.1 (opN_one _) (by decide) (by unfold maxLen; omega) (by omega) HN.out.2.1 (wr.heap.size + 2) HN.out.2.2.1 ?_)
        intro g4 cap4 w4 own4 hg4 hat4 hlt4
        have B2 := (HW.out.2.2.2.2.alloc HW.out.2.2.2.2.size (.cells (opN (W.op3 1 4 (4 * (j : Int)))) 30)).alloc (by have := HW.out.2.2.2.2.size; simp; omega) (.cells (opsR [(W.op3 1 4 (4 * (j : Int)))]) 30)
        have B4 : Below w.heap.size w w4 := Below.grown B2 hg4 B2.size (fun b hb => (HW.out.2.1.lt b hb).1)
        have V4 := ((HW.out.2.2.1.alloc (.cells (opN (W.op3 1 4 (4 * (j : Int)))) 30)).alloc (.cells (opsR [(W.op3 1 4 (4 * (j : Int)))]) 30)).kept hg4 HW.out.2.2.2.1
        have A4 := (HW.out.2.2.2.1.app (n := j + 1) (c := cap4) HW.out.2.2.1 hat4 (by omega)).symm
        have blk4 : w4.heap[wr.heap.size]? = some (.cells (opN (W.op3 1 4 (4 * (j : Int)))) 30) := (hg4.block wr.heap.size (by have := HN.out.2.2.1; omega) (fun e => by have := (HW.out.2.1.lt wr.heap.size e.symm).2; omega)).trans HN.out.2.2.2
        have ld4 := ldO_blk (W.op3 1 4 (4 * (j : Int))) 30 blk4
        have X4 : Hid (_ ∧ _ ∧ _ ∧ _) := ⟨own4, V4, A4, B4⟩
        have wl4 : wr.heap.size < w4.heap.size := (Array.getElem?_eq_some_iff.1 blk4).1
        clear own4 V4 A4 B4 B2 hg4 blk4 hld HN
        have n5 := news_two (W.op3 1 4 (4 * (j : Int))) (W.opB (P : Int) (S : Int)) w4
        have d6 : w.heap.size ≤ (w4.alloc (.cells (opsR [(W.op3 1 4 (4 * (j : Int))), W.opB (P : Int) (S : Int)]) 30)).heap.size := by have := X4.out.2.2.2.size; simp; omega
        have d7 : (w4.alloc (.cells (opsR [(W.op3 1 4 (4 * (j : Int))), W.opB (P : Int) (S : Int)]) 30)).heap.size = w4.heap.size + 1 := by simp
        have d3 : ∀ u ∈ (opN (W.op3 1 4 (4 * (j : Int)))).toList ++ (opN (W.opB (P : Int) (S : Int))).toList, u.oneCell' = true := fun u hu => (List.mem_append.1 hu).elim (opN_one _ u) (opN_one _ u)
        have HN5 : Hid (_ ∧ _ ∧ _ ∧ _) := ⟨n5, d6, d7, d3⟩
        clear n5 d6 d7 d3
        go_wp2_with (at_builtin; refine wpList_append_lies _ rfl _ _ 22 rfl w.heap.size 30 ii (.agg (opN (W.op3 0 0 0))) 13 120 Try.underlying22 hi hz0 hz1 hz2 rfl (by decide) u9 (2 * j) (opsG (W.ffO ks P S) (2 * j)) rfl (X4.out.2.1.alloc _) ⟨w4.heap.size, 0, none⟩ 2 2 ((opN (W.op3 1 4 (4 * (j : Int)))).toList ++ (opN (W.opB (P : Int) (S : Int))).toList) rfl rfl HN5.out.1 HN5.out.2.2.2 (by decide) (by unfold maxLen; omega) (by omega) HN5.out.2.1 (w4.heap.size + 1) HN5.out.2.2.1 ?_)
        intro g5 cap5 w5 own5 hg5 hat5 hlt5
        have B5 : Below w.heap.size w w5 := Below.grown (X4.out.2.2.2.alloc X4.out.2.2.2.size _) hg5 (by have := X4.out.2.2.2.size; simp; omega) (fun b hb => (X4.out.2.1.lt b hb).1)
        have L5 := (X4.out.1.alloc (.cells (opsR [(W.op3 1 4 (4 * (j : Int))), W.opB (P : Int) (S : Int)]) 30)).kept hg5 X4.out.2.2.1
        have A5 := (X4.out.2.2.1.app (n := 2 * j + 2) (c := cap5) X4.out.1 hat5 (by omega)).symm
        have X5 : Hid (w5.ownsRow w.heap.size 30 13 (.slice (some ⟨g4, 0, none⟩) (j + 1) cap4) (j + 1) (opsG (W.fbO ks) (j + 1)) ∧ w5.ownsRow w.heap.size 30 13 (.slice (some ⟨g5, 0, none⟩) (2 * j + 2) cap5) (2 * (j + 1)) (opsG (W.ffO ks P S) (2 * (j + 1))) ∧ Ap (.slice (some ⟨g4, 0, none⟩) (j + 1) cap4) (.slice (some ⟨g5, 0, none⟩) (2 * j + 2) cap5) ∧ Below w.heap.size w w5) := ⟨by rw [opsG_succ, HW.out.1]; exact L5, by rw [show 2 * (j + 1) = 2 * j + 1 + 1 by omega, opsG_succ, opsG_succ, W.ff_even, W.ff_odd ks P S (2 * j + 1) (by omega), HW.out.1, List.append_assoc]; exact own5, A5, B5⟩
        clear own5 hg5 B5 L5 A5 X4 HW hbs hbs2 ho2 ho0 hos cj hbd hst ld4 HN5
        go_wp2
        go_roundw
        case rel => exact ⟨j + 1, by omega, by go_num, X5.out.1, X5.out.2.1, X5.out.2.2.1, X5.out.2.2.2⟩
        case measure => simp [intOf]; omega
      · rw [hk] at cj
        have hpo : W.fbO ks j = (W.op3 2 4 (4 * (j : Int))) := by unfold W.fbO; rw [hk]; rfl
        have hbs := bsO_1 (W.op3 2 4 (4 * (j : Int)))
        have hbs2 := bsO_2 (W.op3 2 4 (4 * (j : Int))) (W.opB (P : Int) (S : Int))
        have hld : ∀ V : World, (ldO ⟨V.heap.size, 0, none⟩).run Try.prog (V.alloc (.cells (opN (W.op3 2 4 (4 * (j : Int)))) 30)) = .ok (.agg (opN (W.op3 2 4 (4 * (j : Int))))) (V.alloc (.cells (opN (W.op3 2 4 (4 * (j : Int)))) 30)) := fun V => ldO_blk _ _ (heap_alloc_last V _)
        have ho2 : (opN (W.op3 1 4 (4 * (j : Int)))).setIfInBounds 0 (.int .i64 2) = opN (W.op3 2 4 (4 * (j : Int))) := rfl
        have ho0 : (opN (W.op3 1 4 (4 * (j : Int))))[0]? = some (.int .i64 1) := rfl
        have hos := opN_sz (W.op3 1 4 (4 * (j : Int)))
        have HW : Hid (_ ∧ _ ∧ _ ∧ _ ∧ _) := ⟨hpo, hL, hV, hA, hbl⟩
        clear hpo hL hV hA hbl
        have n2 := news_op2 (W.op3 2 4 (4 * (j : Int))) wr (.cells (opN (W.op3 2 4 (4 * (j : Int)))) 30)
        have c6 : w.heap.size ≤ ((wr.alloc (.cells (opN (W.op3 2 4 (4 * (j : Int)))) 30)).alloc (.cells (opsR [(W.op3 2 4 (4 * (j : Int)))]) 30)).heap.size := by have := HW.out.2.2.2.2.size; simp; omega
        have c7 : ((wr.alloc (.cells (opN (W.op3 2 4 (4 * (j : Int)))) 30)).alloc (.cells (opsR [(W.op3 2 4 (4 * (j : Int)))]) 30)).heap.size = wr.heap.size + 2 := by simp
        have c8 := two_first wr (.cells (opN (W.op3 2 4 (4 * (j : Int)))) 30) (.cells (opsR [(W.op3 2 4 (4 * (j : Int)))]) 30)
        have HN : Hid (_ ∧ _ ∧ _ ∧ _) := ⟨n2, c6, c7, c8⟩
        clear n2 c6 c7 c8
        go_wp2_with (at_builtin; refine wpList_append_lies _ rfl _ _ 22 rfl w.heap.size 30 ii (.agg (opN (W.op3 0 0 0))) 13 120 Try.underlying22 hi hz0 hz1 hz2 rfl (by decide) u8 j (opsG (W.fbO ks) j) rfl ((HW.out.2.1.alloc _).alloc _) ⟨wr.heap.size + 1, 0, none⟩ 1 1 (opN (W.op3 2 4 (4 * (j : Int)))).toList rfl rfl HN.out.1 (opN_one _) (by decide) (by unfold maxLen; omega) (by omega) HN.out.2.1 (wr.heap.size + 2) HN.out.2.2.1 ?_)
        intro g4 cap4 w4 own4 hg4 hat4 hlt4
        have B2 := (HW.out.2.2.2.2.alloc HW.out.2.2.2.2.size (.cells (opN (W.op3 2 4 (4 * (j : Int)))) 30)).alloc (by have := HW.out.2.2.2.2.size; simp; omega) (.cells (opsR [(W.op3 2 4 (4 * (j : Int)))]) 30)
        have B4 : Below w.heap.size w w4 := Below.grown B2 hg4 B2.size (fun b hb => (HW.out.2.1.lt b hb).1)
        have V4 := ((HW.out.2.2.1.alloc (.cells (opN (W.op3 2 4 (4 * (j : Int)))) 30)).alloc (.cells (opsR [(W.op3 2 4 (4 * (j : Int)))]) 30)).kept hg4 HW.out.2.2.2.1
        have A4 := (HW.out.2.2.2.1.app (n := j + 1) (c := cap4) HW.out.2.2.1 hat4 (by omega)).symm
        have blk4 : w4.heap[wr.heap.size]? = some (.cells (opN (W.op3 2 4 (4 * (j : Int)))) 30) := (hg4.block wr.heap.size (by have := HN.out.2.2.1; omega) (fun e => by have := (HW.out.2.1.lt wr.heap.size e.symm).2; omega)).trans HN.out.2.2.2
        have ld4 := ldO_blk (W.op3 2 4 (4 * (j : Int))) 30 blk4
        have X4 : Hid (_ ∧ _ ∧ _ ∧ _) := ⟨own4, V4, A4, B4⟩
        have wl4 : wr.heap.size < w4.heap.size := (Array.getElem?_eq_some_iff.1 blk4).1
        clear own4 V4 A4 B4 B2 hg4 blk4 hld HN
        have n5 := news_two (W.op3 2 4 (4 * (j : Int))) (W.opB (P : Int) (S : Int)) w4
        have d6 : w.heap.size ≤ (w4.alloc (.cells (opsR [(W.op3 2 4 (4 * (j : Int))), W.opB (P : Int) (S : Int)]) 30)).heap.size := by have := X4.out.2.2.2.size; simp; omega
        have d7 : (w4.alloc (.cells (opsR [(W.op3 2 4 (4 * (j : Int))), W.opB (P : Int) (S : Int)]) 30)).heap.size = w4.heap.size + 1 := by simp
        have d3 : ∀ u ∈ (opN (W.op3 2 4 (4 * (j : Int)))).toList ++ (opN (W.opB (P : Int) (S : Int))).toList, u.oneCell' = true := fun u hu => (List.mem_append.1 hu).elim (opN_one _ u) (opN_one _ u)
        have HN5 : Hid (_ ∧ _ ∧ _ ∧ _) := ⟨n5, d6, d7, d3⟩
        clear n5 d6 d7 d3
        go_wp2_with (at_builtin; refine wpList_append_lies _ rfl _ _ 22 rfl w.heap.size 30 ii (.agg (opN (W.op3 0 0 0))) 13 120 Try.underlying22 hi hz0 hz1 hz2 rfl (by decide) u9 (2 * j) (opsG (W.ffO ks P S) (2 * j)) rfl (X4.out.2.1.alloc _) ⟨w4.heap.size, 0, none⟩ 2 2 ((opN (W.op3 2 4 (4 * (j : Int)))).toList ++ (opN (W.opB (P : Int) (S : Int))).toList) rfl rfl HN5.out.1 HN5.out.2.2.2 (by decide) (by unfold maxLen; omega) (by omega) HN5.out.2.1 (w4.heap.size + 1) HN5.out.2.2.1 ?_)
        intro g5 cap5 w5 own5 hg5 hat5 hlt5
        have B5 : Below w.heap.size w w5 := Below.grown (X4.out.2.2.2.alloc X4.out.2.2.2.size _) hg5 (by have := X4.out.2.2.2.size; simp; omega) (fun b hb => (X4.out.2.1.lt b hb).1)
        have L5 := (X4.out.1.alloc (.cells (opsR [(W.op3 2 4 (4 * (j : Int))), W.opB (P : Int) (S : Int)]) 30)).kept hg5 X4.out.2.2.1
        have A5 := (X4.out.2.2.1.app (n := 2 * j + 2) (c := cap5) X4.out.1 hat5 (by omega)).symm
        have X5 : Hid (w5.ownsRow w.heap.size 30 13 (.slice (some ⟨g4, 0, none⟩) (j + 1) cap4) (j + 1) (opsG (W.fbO ks) (j + 1)) ∧ w5.ownsRow w.heap.size 30 13 (.slice (some ⟨g5, 0, none⟩) (2 * j + 2) cap5) (2 * (j + 1)) (opsG (W.ffO ks P S) (2 * (j + 1))) ∧ Ap (.slice (some ⟨g4, 0, none⟩) (j + 1) cap4) (.slice (some ⟨g5, 0, none⟩) (2 * j + 2) cap5) ∧ Below w.heap.size w w5) := ⟨by rw [opsG_succ, HW.out.1]; exact L5, by rw [show 2 * (j + 1) = 2 * j + 1 + 1 by omega, opsG_succ, opsG_succ, W.ff_even, W.ff_odd ks P S (2 * j + 1) (by omega), HW.out.1, List.append_assoc]; exact own5, A5, B5⟩
        clear own5 hg5 B5 L5 A5 X4 HW hbs hbs2 ho2 ho0 hos cj hbd hst ld4 HN5
        go_wp2
        go_roundw
        case rel => exact ⟨j + 1, by omega, by go_num, X5.out.1, X5.out.2.1, X5.out.2.2.1, X5.out.2.2.2⟩
        case measure => simp [intOf]; omega
    · have e : j = n := by omega
      subst e
      obtain ⟨al, cl, rfl, hcl, hOl⟩ := own_sl hL
      obtain ⟨af, cf, rfl, hcf, hOf⟩ := own_sl hV
      have Y1 := fun W' (hb : Below wr.heap.size wr W') (i k : Nat) (hik : i < k) (hk : k < j) => whyI_any al j cl (W.fbX ks) W' (hOl.below hb) (by omega) hcl (fun q hq => fbX_ok ks q (by omega)) (i : Int) (k : Int) (by omega) (by omega) (by omega) (by omega)
      have Y2 := fun W' (hb : Below wr.heap.size wr W') (i k : Nat) (hik : i < k) (hk : k < j) => whyI_any af (2 * j) cf (W.ffX ks P S) W' (hOf.below hb) (by omega) hcf (fun q hq => ffX_ok ks P S q (by omega)) (2 * (i : Int)) (2 * (k : Int)) (by omega) (by omega) (by omega) (by omega)
      have Z1 : ∀ W', Below wr.heap.size wr W' → ∀ (i k : Nat), i < k → k < j → Calls _ _ _ W' (fun e w' => e = .returned (.int .i64 0) ∧ Below W'.heap.size W' w') := fun W' hb i k hik hk => by
        have q := Y1 W' hb i k hik hk
        unfold W.whyI at q
        rw [if_pos ⟨by omega, by omega, by omega⟩, Int.toNat_natCast, Int.toNat_natCast, W.fb_why ks i k hik (by omega)] at q
        exact q
      have Z2 : ∀ W', Below wr.heap.size wr W' → ∀ (i k : Nat), i < k → k < j → Calls _ _ _ W' (fun e w' => e = .returned (.int .i64 (W.fcW (ks i) (ks k) P S)) ∧ Below W'.heap.size W' w') := fun W' hb i k hik hk => by
        have q := Y2 W' hb i k hik hk
        unfold W.whyI at q
        rw [if_pos ⟨by omega, by omega, by omega⟩, show (2 * (i : Int)).toNat = 2 * i by omega, show (2 * (k : Int)).toNat = 2 * k by omega, W.ff_why ks P S i k hP4 hS4 hik (by omega)] at q
        exact q
      have HY : Hid (_ ∧ _ ∧ _) := ⟨Z1, Z2, hbl⟩
      clear Y1 Y2 Z1 Z2 hOl hOf hL hV hA hi hz0 hz1 hz2 hbl
      obtain ⟨W9, hW9⟩ : ∃ W, W = wr := ⟨_, rfl⟩
      subst hW9
      go_wp2
      go_loopw [12] (fun t wx => ∃ i : Nat, i ≤ j ∧ t = .int .i64 (i : Int) ∧ Below W9.heap.size W9 wx) (fun t _ => j - (intOf t).toNat)
      case atStart => exact ⟨0, by omega, rfl, Below.refl _ _⟩
      case round =>
        obtain ⟨i, hi, rfl, bx⟩ := hrel
        by_cases hlt : i < j
        · have hin : (i : Int) < (j : Int) := by omega
          go_wp2
          go_loopw [13] (fun t wy => ∃ k : Nat, i + 1 ≤ k ∧ k ≤ j ∧ t = .int .i64 (k : Int) ∧ Below W9.heap.size W9 wy) (fun t _ => j - (intOf t).toNat)
          case atStart => exact ⟨i + 1, by omega, by omega, by go_num, bx⟩
          case round =>
            clear bx
            obtain ⟨k, hk1, hk2, rfl, bz⟩ := hrel
            by_cases hlk : k < j
            · have hF1 := HY.out.1 _ bz i k (by omega) hlk
              have hF2 := fun W' hb => HY.out.2.1 W' (bz.trans (Below.mono hb bz.size)) i k (by omega) hlk
              have hkn : (k : Int) < (j : Int) := by omega
              have i12 : (i : Int) < 12 := by omega
              have k12 : (k : Int) < 12 := by omega
              obtain ⟨bk0, bkc⟩ := IsBools.below HF.out.2.1 HF.out.2.2 (HY.out.2.2.trans (bz.mono HY.out.2.2.size))
              obtain ⟨rfl, kl⟩ := bk0 (by omega)
              have ci := bkc i hlt
              have ck := bkc k hlk
              clear bk0 bkc
              generalize ks i = KI at *
              generalize ks k = KK at *
              cases KI <;> cases KK
              · have f1 : (bits BinOp.and IntKind.i64 (P : Int) 1 != 0) = true ∨ (bits BinOp.and IntKind.i64 (P : Int) 1 != 0) = false := by cases (bits BinOp.and IntKind.i64 (P : Int) 1 != 0) <;> simp
                have f2 : (bits BinOp.and IntKind.i64 (S : Int) 1 != 0) = true ∨ (bits BinOp.and IntKind.i64 (S : Int) 1 != 0) = false := by cases (bits BinOp.and IntKind.i64 (S : Int) 1 != 0) <;> simp
                unfold W.fcW at hF2
                simp only [cond_true, cond_false] at hF2
                rcases f1 with f1 | f1 <;> rcases f2 with f2 | f2 <;> rw [f1, f2] at hF2 <;> try simp only [Bool.and_true, Bool.and_false, Bool.and_self, cond_true, cond_false] at hF2
                all_goals
                  have HC : Hid (Calls _ _ _ _ _ ∧ _) := ⟨hF1, hF2⟩
                  clear hF1 hF2
                  go_wp2_with (fail)
                  refine HC.out.1.mono ?_
                  rintro e w3 ⟨rfl, b3⟩
                  have c3 := bz.trans (b3.mono bz.size)
                  clear ci ck
                  go_wp2_with (fail)
                  refine (HC.out.2 _ b3).mono ?_
                  rintro e w4 ⟨rfl, b4⟩
                  have c4 := c3.trans (b4.mono c3.size)
                  clear b4 c3 b3 HC bz
                  go_wp2
                  go_roundw
                  case rel => exact ⟨k + 1, by omega, by omega, by go_num, c4⟩
                  case measure => simp [intOf]; omega
              · have f1 : (bits BinOp.and IntKind.i64 (P : Int) 1 != 0) = true ∨ (bits BinOp.and IntKind.i64 (P : Int) 1 != 0) = false := by cases (bits BinOp.and IntKind.i64 (P : Int) 1 != 0) <;> simp
                have f2 : (bits BinOp.and IntKind.i64 (S : Int) 2 != 0) = true ∨ (bits BinOp.and IntKind.i64 (S : Int) 2 != 0) = false := by cases (bits BinOp.and IntKind.i64 (S : Int) 2 != 0) <;> simp
                unfold W.fcW at hF2
                simp only [cond_true, cond_false] at hF2
                rcases f1 with f1 | f1 <;> rcases f2 with f2 | f2 <;> rw [f1, f2] at hF2 <;> try simp only [Bool.and_true, Bool.and_false, Bool.and_self, cond_true, cond_false] at hF2
                all_goals
                  have HC : Hid (Calls _ _ _ _ _ ∧ _) := ⟨hF1, hF2⟩
                  clear hF1 hF2
                  go_wp2_with (fail)
                  refine HC.out.1.mono ?_
                  rintro e w3 ⟨rfl, b3⟩
                  have c3 := bz.trans (b3.mono bz.size)
                  clear ci ck
                  go_wp2_with (fail)
                  refine (HC.out.2 _ b3).mono ?_
                  rintro e w4 ⟨rfl, b4⟩
                  have c4 := c3.trans (b4.mono c3.size)
                  clear b4 c3 b3 HC bz
                  go_wp2
                  go_roundw
                  case rel => exact ⟨k + 1, by omega, by omega, by go_num, c4⟩
                  case measure => simp [intOf]; omega
              · have f1 : (bits BinOp.and IntKind.i64 (P : Int) 2 != 0) = true ∨ (bits BinOp.and IntKind.i64 (P : Int) 2 != 0) = false := by cases (bits BinOp.and IntKind.i64 (P : Int) 2 != 0) <;> simp
                have f2 : (bits BinOp.and IntKind.i64 (S : Int) 1 != 0) = true ∨ (bits BinOp.and IntKind.i64 (S : Int) 1 != 0) = false := by cases (bits BinOp.and IntKind.i64 (S : Int) 1 != 0) <;> simp
                unfold W.fcW at hF2
                simp only [cond_true, cond_false] at hF2
                rcases f1 with f1 | f1 <;> rcases f2 with f2 | f2 <;> rw [f1, f2] at hF2 <;> try simp only [Bool.and_true, Bool.and_false, Bool.and_self, cond_true, cond_false] at hF2
                all_goals
                  have HC : Hid (Calls _ _ _ _ _ ∧ _) := ⟨hF1, hF2⟩
                  clear hF1 hF2
                  go_wp2_with (fail)
                  refine HC.out.1.mono ?_
                  rintro e w3 ⟨rfl, b3⟩
                  have c3 := bz.trans (b3.mono bz.size)
                  clear ci ck
                  go_wp2_with (fail)
                  refine (HC.out.2 _ b3).mono ?_
                  rintro e w4 ⟨rfl, b4⟩
                  have c4 := c3.trans (b4.mono c3.size)
                  clear b4 c3 b3 HC bz
                  go_wp2
                  go_roundw
                  case rel => exact ⟨k + 1, by omega, by omega, by go_num, c4⟩
                  case measure => simp [intOf]; omega
              · have f1 : (bits BinOp.and IntKind.i64 (P : Int) 2 != 0) = true ∨ (bits BinOp.and IntKind.i64 (P : Int) 2 != 0) = false := by cases (bits BinOp.and IntKind.i64 (P : Int) 2 != 0) <;> simp
                have f2 : (bits BinOp.and IntKind.i64 (S : Int) 2 != 0) = true ∨ (bits BinOp.and IntKind.i64 (S : Int) 2 != 0) = false := by cases (bits BinOp.and IntKind.i64 (S : Int) 2 != 0) <;> simp
                unfold W.fcW at hF2
                simp only [cond_true, cond_false] at hF2
                rcases f1 with f1 | f1 <;> rcases f2 with f2 | f2 <;> rw [f1, f2] at hF2 <;> try simp only [Bool.and_true, Bool.and_false, Bool.and_self, cond_true, cond_false] at hF2
                all_goals
                  have HC : Hid (Calls _ _ _ _ _ ∧ _) := ⟨hF1, hF2⟩
                  clear hF1 hF2
                  go_wp2_with (fail)
                  refine HC.out.1.mono ?_
                  rintro e w3 ⟨rfl, b3⟩
                  have c3 := bz.trans (b3.mono bz.size)
                  clear ci ck
                  go_wp2_with (fail)
                  refine (HC.out.2 _ b3).mono ?_
                  rintro e w4 ⟨rfl, b4⟩
                  have c4 := c3.trans (b4.mono c3.size)
                  clear b4 c3 b3 HC bz
                  go_wp2
                  go_roundw
                  case rel => exact ⟨k + 1, by omega, by omega, by go_num, c4⟩
                  case measure => simp [intOf]; omega
            · have hkn : ¬ (k : Int) < (j : Int) := by omega
              go_wp2
              go_roundw
              case rel => exact ⟨i + 1, by omega, by go_num, bz⟩
              case measure => simp [intOf]; omega
        · have hin : ¬ (i : Int) < (j : Int) := by omega
          have b9 := HY.out.2.2.trans (bx.mono HY.out.2.2.size)
          clear HY
          go_wp2
          go_ret
          exact ⟨rfl, b9⟩
end Go.Proofs.Ytopcejohnofelaa
