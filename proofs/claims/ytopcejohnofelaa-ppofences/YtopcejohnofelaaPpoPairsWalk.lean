/- PpoPairs. -/
import Derived.Test.YtopcejohnofelaaPpoY
namespace Go.Proofs.Ytopcejohnofelaa
open Go.ChangeShapes Go.WideShapes Go.ChangeAt Go.RowKit
set_option linter.unusedVariables false
set_option linter.unusedSimpArgs false

theorem news_op2 (o : W.Opr) (w : World) (X : Obj) : ∀ j u, (opN o).toList[j]? = some u → ((w.alloc X).alloc (.cells (opsR [o]) 30)).cell? ((⟨w.heap.size + 1, 0, none⟩ : Addr).add j) = some u := by
  have := news_op o (w.alloc X)
  rw [show (w.alloc X).heap.size = w.heap.size + 1 by simp] at this
  exact this
theorem prX_ok (ks : Nat → Bool) (j : Nat) (hj : j < 100) : W.OzOk (W.prX ks j) :=
  ⟨(by show (-9223372036854775808 : Int) ≤ 4; decide), (by show (4 : Int) ≤ 9223372036854775807; decide), (by show (0 : Int) ≤ 4 * (j : Int); omega), (by show 4 * (j : Int) < 4294967296; omega)⟩
theorem own_sl {w : World} {base n : Nat} {v : Value} {f : Nat → W.Opr} (h : w.ownsRow base 30 13 v n (opsG f n)) : ∃ a c, v = .slice a n c ∧ n ≤ c ∧ Ol a n (fun j => W.oz0 (f j)) w := by
  by_cases hn : 0 < n
  · obtain ⟨g, cap, e, hc, _, ho⟩ := own_ow h hn
    exact ⟨_, _, e, hc, ho.ol⟩
  · have e : n = 0 := by omega
    subst e
    rcases h.2 with ⟨e, _⟩ | ⟨g, cap, cur, e, _⟩
    · exact ⟨_, _, e, Nat.zero_le _, ⟨fun h => absurd h (by omega)⟩⟩
    · exact ⟨_, _, e, Nat.zero_le _, ⟨fun h => absurd h (by omega)⟩⟩
theorem two_cells {wr w1 w2 : World} {gp gv j : Nat} {WA : Int} (h : Below wr.heap.size wr w1 ∧ gp < w1.heap.size ∧ gv < w1.heap.size ∧ w1.cell? ⟨gp, j, none⟩ = some (.int .i64 WA) ∧ w1.cell? ⟨gv, j, none⟩ = some (.int .i64 WA)) (hb : Below w1.heap.size w1 w2) : Below wr.heap.size wr w2 ∧ gp < w2.heap.size ∧ gv < w2.heap.size ∧ w2.cell? ⟨gp, j, none⟩ = some (.int .i64 WA) ∧ w2.cell? ⟨gv, j, none⟩ = some (.int .i64 WA) := by
  obtain ⟨h1, h2, h3, h5, h6⟩ := h
  obtain ⟨q, _⟩ := bcell hb
  have z := hb.size
  exact ⟨h1.trans (hb.mono h1.size), by omega, by omega, (q _ _ h2).trans h5, (q _ _ h3).trans h6⟩
theorem pairs_long (a : Option Addr) (n cap : Nat) (hn : 20 < n) (hm : n ≤ maxLen) (w : World) : Calls Try.prog 7 #[.slice a n cap] w fun e w' => e = .returned (.bool true) ∧ Below w.heap.size w w' := by
  simp only [maxLen] at hm
  have hF := first13_any w
  have HF : Hid (Calls _ _ _ _ _) := hF
  clear hF
  go_enter Try.func7, Try.ntmps7
  go_wp2_with (fail)
  refine HF.out.mono ?_
  rintro e w1 ⟨rfl, bw1⟩
  go_wp2
  go_ret
  exact ⟨rfl, bw1⟩
attribute [local go_sem ↓] bdO_eq bsO_eq ldO_eq stO_eq
set_option maxRecDepth 10000 in
set_option maxHeartbeats 3200000 in
theorem pairs_some (a : Option Addr) (n cap : Nat) (hn : n ≤ 20) (ks : Nat → Bool) (kb ko : Nat) (w : World) (hk0 : 0 < n → a = some ⟨kb, ko, none⟩ ∧ kb < w.heap.size) (hkc : ∀ j, j < n → w.cell? ⟨kb, ko + j, none⟩ = some (.bool (ks j))) :
    Calls Try.prog 7 #[.slice a n cap] w fun e w' => e = .returned (.bool true) ∧ Below w.heap.size w w' := by
  obtain ⟨ii, hi, hzz⟩ := Option.map_eq_some_iff.1 infoOp
  simp only [Prod.mk.injEq] at hzz
  obtain ⟨hz0, hz1, hz2⟩ := hzz
  obtain ⟨it, ht, hyy⟩ := Option.map_eq_some_iff.1 infoInt
  simp only [Prod.mk.injEq] at hyy
  obtain ⟨hy0, hy1, hy2⟩ := hyy
  have hF := first13_any w
  have HF : Hid (Calls _ _ _ _ _ ∧ _ ∧ _) := ⟨hF, hk0, hkc⟩
  clear hF hk0 hkc
  have hn' : ¬ ((20 : Int) < (n : Int)) := by omega
  go_enter Try.func7, Try.ntmps7
  go_wp2_with (fail)
  refine HF.out.1.mono ?_
  rintro e w1 ⟨rfl, bw1⟩
  go_wp2
  go_loopw [4, 5, 6, 7] (fun vl la vv i wr => ∃ j : Nat, j ≤ n ∧ i = .int .i64 (j : Int) ∧ la = .int .i64 (W.lastG ks j) ∧ wr.ownsRow w.heap.size 30 13 vl j (opsG (W.prO ks) j) ∧ wr.ownsRow w.heap.size 3 1 vv j (intsG (W.wantG ks) j) ∧ Ap vl vv ∧ Below w.heap.size w wr) (fun _ _ _ i _ => n - (intOf i).toNat)
  case atStart => exact ⟨0, by omega, rfl, rfl, own_nil _ _ _, ⟨rfl, .inl ⟨rfl, rfl⟩⟩, Or.inl rfl, bw1⟩
  case round =>
    clear bw1
    obtain ⟨j, hj, rfl, rfl, hL, hV, hA, hbl⟩ := hrel
    by_cases hlt : j < n
    · have hjn : (j : Int) < (n : Int) := by omega
      have j20 : (j : Int) < 20 := by omega
      obtain ⟨bk0, bkc⟩ := IsBools.below HF.out.2.1 HF.out.2.2 hbl
      obtain ⟨rfl, kl⟩ := bk0 (by omega)
      have cj := bkc j hlt
      clear bk0 bkc
      have hbd := bdO_p (4 * (j : Int))
      have hst := stO_new ⟨1, 4, 4 * (j : Int), 0, 0, true, false, false, 0, 0⟩
      cases hk : ks j
      · rw [hk] at cj
        have hpo : W.prO ks j = ⟨1, 4, 4 * (j : Int), 0, 0, true, false, false, 0, 0⟩ := by unfold W.prO; rw [hk]; rfl
        have hwg : W.wantG ks j = (-1) := by unfold W.wantG; rw [hk]; rfl
        have hlg : W.lastG ks (j + 1) = (j : Int) := by show (bif ks j then -1 else (j : Int)) = _; rw [hk]; rfl
        have hbs := bsO_1 ⟨1, 4, 4 * (j : Int), 0, 0, true, false, false, 0, 0⟩
        have hld : ∀ W : World, (ldO ⟨W.heap.size, 0, none⟩).run Try.prog (W.alloc (.cells (opN ⟨1, 4, 4 * (j : Int), 0, 0, true, false, false, 0, 0⟩) 30)) = .ok (.agg (opN ⟨1, 4, 4 * (j : Int), 0, 0, true, false, false, 0, 0⟩)) (W.alloc (.cells (opN ⟨1, 4, 4 * (j : Int), 0, 0, true, false, false, 0, 0⟩) 30)) := fun W => ldO_blk _ _ (heap_alloc_last W _)
        have ho2 := opN_k ⟨1, 4, 4 * (j : Int), 0, 0, true, false, false, 0, 0⟩ 2
        have ho0 := opN_0 ⟨1, 4, 4 * (j : Int), 0, 0, true, false, false, 0, 0⟩
        have hos := opN_sz ⟨1, 4, 4 * (j : Int), 0, 0, true, false, false, 0, 0⟩
        dsimp only at ho2 ho0
        have HW : Hid (_ ∧ _ ∧ _ ∧ _ ∧ _ ∧ _ ∧ _) := ⟨hpo, hwg, hlg, hL, hV, hA, hbl⟩
        clear hpo hwg hlg hL hV hA hbl
        have n2 := news_op2 ⟨1, 4, 4 * (j : Int), 0, 0, true, false, false, 0, 0⟩ wr (.cells (opN ⟨1, 4, 4 * (j : Int), 0, 0, true, false, false, 0, 0⟩) 30)
        have c6 : w.heap.size ≤ ((wr.alloc (.cells (opN ⟨1, 4, 4 * (j : Int), 0, 0, true, false, false, 0, 0⟩) 30)).alloc (.cells (opsR [⟨1, 4, 4 * (j : Int), 0, 0, true, false, false, 0, 0⟩]) 30)).heap.size := by have := HW.out.2.2.2.2.2.2.size; simp; omega
        have c7 : ((wr.alloc (.cells (opN ⟨1, 4, 4 * (j : Int), 0, 0, true, false, false, 0, 0⟩) 30)).alloc (.cells (opsR [⟨1, 4, 4 * (j : Int), 0, 0, true, false, false, 0, 0⟩]) 30)).heap.size = wr.heap.size + 2 := by simp
        have HN : Hid (_ ∧ _ ∧ _) := ⟨n2, c6, c7⟩
        clear n2 c6 c7
        go_wp2_with (at_builtin; refine wpList_append_lies _ rfl _ _ 22 rfl w.heap.size 30 ii (.agg (opN (W.op3 0 0 0))) 13 120 Try.underlying22 hi hz0 hz1 hz2 rfl (by decide) u4 j (opsG (W.prO ks) j) rfl ((HW.out.2.2.2.1.alloc _).alloc _) ⟨wr.heap.size + 1, 0, none⟩ 1 1 (opN ⟨1, 4, 4 * (j : Int), 0, 0, true, false, false, 0, 0⟩).toList rfl rfl HN.out.1 (opN_one _) (by decide) (by unfold maxLen; omega) (by omega) HN.out.2.1 (wr.heap.size + 2) HN.out.2.2 ?_)
        intro g4 cap4 w4 own4 hg4 hat4 hlt4
        have B2 := (HW.out.2.2.2.2.2.2.alloc HW.out.2.2.2.2.2.2.size (.cells (opN ⟨1, 4, 4 * (j : Int), 0, 0, true, false, false, 0, 0⟩) 30)).alloc (by have := HW.out.2.2.2.2.2.2.size; simp; omega) (.cells (opsR [⟨1, 4, 4 * (j : Int), 0, 0, true, false, false, 0, 0⟩]) 30)
        have B4 : Below w.heap.size w w4 := Below.grown B2 hg4 B2.size (fun b hb => (HW.out.2.2.2.1.lt b hb).1)
        have V4 := ((HW.out.2.2.2.2.1.alloc (.cells (opN ⟨1, 4, 4 * (j : Int), 0, 0, true, false, false, 0, 0⟩) 30)).alloc (.cells (opsR [⟨1, 4, 4 * (j : Int), 0, 0, true, false, false, 0, 0⟩]) 30)).kept hg4 HW.out.2.2.2.2.2.1
        have A4 := (HW.out.2.2.2.2.2.1.app (n := j + 1) (c := cap4) HW.out.2.2.2.2.1 hat4 (by omega)).symm
        have X4 : Hid (_ ∧ _ ∧ _ ∧ _) := ⟨own4, V4, A4, B4⟩
        clear own4 V4 A4 B4 B2 hg4
        have n5 := news_int (-1) w4
        have d6 : w.heap.size ≤ (w4.alloc (.cells #[.int .i64 (-1)] 3)).heap.size := by have := X4.out.2.2.2.size; simp; omega
        have d7 : (w4.alloc (.cells #[.int .i64 (-1)] 3)).heap.size = w4.heap.size + 1 := by simp
        have d3 : ∀ u ∈ [Value.int .i64 (-1)], u.oneCell' = true := by intro u hu; simp at hu; rw [hu]; rfl
        have HN5 : Hid (_ ∧ _ ∧ _ ∧ _) := ⟨n5, d6, d7, d3⟩
        clear n5 d6 d7 d3
        go_wp2_with (at_builtin; refine wpList_append_lies _ rfl _ _ 28 rfl w.heap.size 3 it (.int .i64 0) 1 8 Try.underlying28 ht hy0 hy1 hy2 rfl (by decide) u6 j (intsG (W.wantG ks) j) rfl (X4.out.2.1.alloc _) ⟨w4.heap.size, 0, none⟩ 1 1 [.int .i64 (-1)] rfl rfl HN5.out.1 HN5.out.2.2.2 (by decide) (by unfold maxLen; omega) (by omega) HN5.out.2.1 (w4.heap.size + 1) HN5.out.2.2.1 ?_)
        intro g5 cap5 w5 own5 hg5 hat5 hlt5
        have B5 : Below w.heap.size w w5 := Below.grown (X4.out.2.2.2.alloc X4.out.2.2.2.size _) hg5 (by have := X4.out.2.2.2.size; simp; omega) (fun b hb => (X4.out.2.1.lt b hb).1)
        have L5 := (X4.out.1.alloc (.cells #[.int .i64 (-1)] 3)).kept hg5 X4.out.2.2.1
        have A5 := (X4.out.2.2.1.app (n := j + 1) (c := cap5) X4.out.1 hat5 (by omega)).symm
        have X5 : Hid (w5.ownsRow w.heap.size 30 13 (.slice (some ⟨g4, 0, none⟩) (j + 1) cap4) (j + 1) (opsG (W.prO ks) (j + 1)) ∧ w5.ownsRow w.heap.size 3 1 (.slice (some ⟨g5, 0, none⟩) (j + 1) cap5) (j + 1) (intsG (W.wantG ks) (j + 1)) ∧ Ap (.slice (some ⟨g4, 0, none⟩) (j + 1) cap4) (.slice (some ⟨g5, 0, none⟩) (j + 1) cap5) ∧ Below w.heap.size w w5) := ⟨by rw [opsG_succ, HW.out.1]; exact L5, by rw [intsG_succ, HW.out.2.1]; exact own5, A5, B5⟩
        have HL : Hid _ := HW.out.2.2.1
        clear own5 hg5 B5 L5 A5 X4 HW hbs hld ho2 ho0 hos cj hbd hst
        go_wp2
        go_roundw
        case rel => exact ⟨j + 1, by omega, by go_num, by rw [HL.out], X5.out.1, X5.out.2.1, X5.out.2.2.1, X5.out.2.2.2⟩
        case measure => simp [intOf]; omega
      · rw [hk] at cj
        have hpo : W.prO ks j = ⟨2, 4, 4 * (j : Int), 0, 0, true, false, false, 0, 0⟩ := by unfold W.prO; rw [hk]; rfl
        have hwg : W.wantG ks j = (W.lastG ks j) := by unfold W.wantG; rw [hk]; rfl
        have hlg : W.lastG ks (j + 1) = (-1) := by show (bif ks j then -1 else (j : Int)) = _; rw [hk]; rfl
        have hbs := bsO_1 ⟨2, 4, 4 * (j : Int), 0, 0, true, false, false, 0, 0⟩
        have hld : ∀ W : World, (ldO ⟨W.heap.size, 0, none⟩).run Try.prog (W.alloc (.cells (opN ⟨2, 4, 4 * (j : Int), 0, 0, true, false, false, 0, 0⟩) 30)) = .ok (.agg (opN ⟨2, 4, 4 * (j : Int), 0, 0, true, false, false, 0, 0⟩)) (W.alloc (.cells (opN ⟨2, 4, 4 * (j : Int), 0, 0, true, false, false, 0, 0⟩) 30)) := fun W => ldO_blk _ _ (heap_alloc_last W _)
        have ho2 := opN_k ⟨1, 4, 4 * (j : Int), 0, 0, true, false, false, 0, 0⟩ 2
        have ho0 := opN_0 ⟨1, 4, 4 * (j : Int), 0, 0, true, false, false, 0, 0⟩
        have hos := opN_sz ⟨1, 4, 4 * (j : Int), 0, 0, true, false, false, 0, 0⟩
        dsimp only at ho2 ho0
        have HW : Hid (_ ∧ _ ∧ _ ∧ _ ∧ _ ∧ _ ∧ _) := ⟨hpo, hwg, hlg, hL, hV, hA, hbl⟩
        clear hpo hwg hlg hL hV hA hbl
        have n2 := news_op2 ⟨2, 4, 4 * (j : Int), 0, 0, true, false, false, 0, 0⟩ wr (.cells (opN ⟨2, 4, 4 * (j : Int), 0, 0, true, false, false, 0, 0⟩) 30)
        have c6 : w.heap.size ≤ ((wr.alloc (.cells (opN ⟨2, 4, 4 * (j : Int), 0, 0, true, false, false, 0, 0⟩) 30)).alloc (.cells (opsR [⟨2, 4, 4 * (j : Int), 0, 0, true, false, false, 0, 0⟩]) 30)).heap.size := by have := HW.out.2.2.2.2.2.2.size; simp; omega
        have c7 : ((wr.alloc (.cells (opN ⟨2, 4, 4 * (j : Int), 0, 0, true, false, false, 0, 0⟩) 30)).alloc (.cells (opsR [⟨2, 4, 4 * (j : Int), 0, 0, true, false, false, 0, 0⟩]) 30)).heap.size = wr.heap.size + 2 := by simp
        have HN : Hid (_ ∧ _ ∧ _) := ⟨n2, c6, c7⟩
        clear n2 c6 c7
        go_wp2_with (at_builtin; refine wpList_append_lies _ rfl _ _ 22 rfl w.heap.size 30 ii (.agg (opN (W.op3 0 0 0))) 13 120 Try.underlying22 hi hz0 hz1 hz2 rfl (by decide) u4 j (opsG (W.prO ks) j) rfl ((HW.out.2.2.2.1.alloc _).alloc _) ⟨wr.heap.size + 1, 0, none⟩ 1 1 (opN ⟨2, 4, 4 * (j : Int), 0, 0, true, false, false, 0, 0⟩).toList rfl rfl HN.out.1 (opN_one _) (by decide) (by unfold maxLen; omega) (by omega) HN.out.2.1 (wr.heap.size + 2) HN.out.2.2 ?_)
        intro g4 cap4 w4 own4 hg4 hat4 hlt4
        have B2 := (HW.out.2.2.2.2.2.2.alloc HW.out.2.2.2.2.2.2.size (.cells (opN ⟨2, 4, 4 * (j : Int), 0, 0, true, false, false, 0, 0⟩) 30)).alloc (by have := HW.out.2.2.2.2.2.2.size; simp; omega) (.cells (opsR [⟨2, 4, 4 * (j : Int), 0, 0, true, false, false, 0, 0⟩]) 30)
        have B4 : Below w.heap.size w w4 := Below.grown B2 hg4 B2.size (fun b hb => (HW.out.2.2.2.1.lt b hb).1)
        have V4 := ((HW.out.2.2.2.2.1.alloc (.cells (opN ⟨2, 4, 4 * (j : Int), 0, 0, true, false, false, 0, 0⟩) 30)).alloc (.cells (opsR [⟨2, 4, 4 * (j : Int), 0, 0, true, false, false, 0, 0⟩]) 30)).kept hg4 HW.out.2.2.2.2.2.1
        have A4 := (HW.out.2.2.2.2.2.1.app (n := j + 1) (c := cap4) HW.out.2.2.2.2.1 hat4 (by omega)).symm
        have X4 : Hid (_ ∧ _ ∧ _ ∧ _) := ⟨own4, V4, A4, B4⟩
        clear own4 V4 A4 B4 B2 hg4
        have n5 := news_int (W.lastG ks j) w4
        have d6 : w.heap.size ≤ (w4.alloc (.cells #[.int .i64 (W.lastG ks j)] 3)).heap.size := by have := X4.out.2.2.2.size; simp; omega
        have d7 : (w4.alloc (.cells #[.int .i64 (W.lastG ks j)] 3)).heap.size = w4.heap.size + 1 := by simp
        have d3 : ∀ u ∈ [Value.int .i64 (W.lastG ks j)], u.oneCell' = true := by intro u hu; simp at hu; rw [hu]; rfl
        have HN5 : Hid (_ ∧ _ ∧ _ ∧ _) := ⟨n5, d6, d7, d3⟩
        clear n5 d6 d7 d3
        go_wp2_with (at_builtin; refine wpList_append_lies _ rfl _ _ 28 rfl w.heap.size 3 it (.int .i64 0) 1 8 Try.underlying28 ht hy0 hy1 hy2 rfl (by decide) u6 j (intsG (W.wantG ks) j) rfl (X4.out.2.1.alloc _) ⟨w4.heap.size, 0, none⟩ 1 1 [.int .i64 (W.lastG ks j)] rfl rfl HN5.out.1 HN5.out.2.2.2 (by decide) (by unfold maxLen; omega) (by omega) HN5.out.2.1 (w4.heap.size + 1) HN5.out.2.2.1 ?_)
        intro g5 cap5 w5 own5 hg5 hat5 hlt5
        have B5 : Below w.heap.size w w5 := Below.grown (X4.out.2.2.2.alloc X4.out.2.2.2.size _) hg5 (by have := X4.out.2.2.2.size; simp; omega) (fun b hb => (X4.out.2.1.lt b hb).1)
        have L5 := (X4.out.1.alloc (.cells #[.int .i64 (W.lastG ks j)] 3)).kept hg5 X4.out.2.2.1
        have A5 := (X4.out.2.2.1.app (n := j + 1) (c := cap5) X4.out.1 hat5 (by omega)).symm
        have X5 : Hid (w5.ownsRow w.heap.size 30 13 (.slice (some ⟨g4, 0, none⟩) (j + 1) cap4) (j + 1) (opsG (W.prO ks) (j + 1)) ∧ w5.ownsRow w.heap.size 3 1 (.slice (some ⟨g5, 0, none⟩) (j + 1) cap5) (j + 1) (intsG (W.wantG ks) (j + 1)) ∧ Ap (.slice (some ⟨g4, 0, none⟩) (j + 1) cap4) (.slice (some ⟨g5, 0, none⟩) (j + 1) cap5) ∧ Below w.heap.size w w5) := ⟨by rw [opsG_succ, HW.out.1]; exact L5, by rw [intsG_succ, HW.out.2.1]; exact own5, A5, B5⟩
        have HL : Hid _ := HW.out.2.2.1
        clear own5 hg5 B5 L5 A5 X4 HW hbs hld ho2 ho0 hos cj hbd hst
        go_wp2
        go_roundw
        case rel => exact ⟨j + 1, by omega, by go_num, by rw [HL.out], X5.out.1, X5.out.2.1, X5.out.2.2.1, X5.out.2.2.2⟩
        case measure => simp [intOf]; omega
    · have e : j = n := by omega
      subst e
      obtain ⟨al, cl, rfl, hcl, hOl⟩ := own_sl hL
      have hP := pairs_any al j cl (W.prX ks) wr hOl (by omega)
      have HP : Hid (Calls _ _ _ _ _ ∧ _ ∧ _ ∧ _) := ⟨hP, hOl, hV, hbl⟩
      clear hP hOl hV hbl hL hA hi hz0 hz1 hz2 ht hy0 hy1 hy2
      go_wp2_with (fail)
      refine HP.out.1.mono ?_
      rintro e w2 ⟨⟨gp, rfl, hgp, hBp⟩, b2⟩
      have HQ : Hid (_ ∧ _ ∧ _ ∧ _ ∧ _) := ⟨hBp, b2, HP.out.2.1, HP.out.2.2.1, HP.out.2.2.2⟩
      clear hBp b2 HP hgp
      go_wp2
      go_loopw [11] (fun t wr => ∃ q : Nat, q ≤ j ∧ t = .int .i64 (q : Int) ∧ Below w2.heap.size w2 wr) (fun t _ => j - (intOf t).toNat)
      case atStart => exact ⟨0, by omega, rfl, Below.refl _ _⟩
      case round =>
        obtain ⟨q, hq, rfl, bx⟩ := hrel
        by_cases hlt : q < j
        · obtain ⟨gv, capv, rfl, gvl0, hvc⟩ := own_ints HQ.out.2.2.2.1 (by omega)
          have bxx := HQ.out.2.1.trans (bx.mono HQ.out.2.1.size)
          have cv := (bxx.cell (p := ⟨gv, q, none⟩) gvl0).trans (hvc q hlt)
          have gvl : gv < wr.heap.size := Nat.lt_of_lt_of_le gvl0 bxx.size
          have cp := (bx.cell (p := ⟨gp, q, none⟩) HQ.out.1.lt).trans (HQ.out.1.c q hlt)
          have gpl : gp < wr.heap.size := Nat.lt_of_lt_of_le HQ.out.1.lt bx.size
          try dsimp only at cp
          rw [W.pr_pair] at cp
          have hwr := W.wantG_rg ks q
          have hC := fun W' (hb : Below wr.heap.size wr W') => whyI_any al j cl (W.prX ks) W' (HQ.out.2.2.1.below (bxx.trans (hb.mono bxx.size))) (by omega) hcl (fun i hi => prX_ok ks i (by omega)) (W.wantG ks q) (q : Int) (by omega) (by omega) (by omega) (by omega)
          have hqn : (q : Int) < (j : Int) := by omega
          have hpw := W.pr_why ks q (by omega)
          unfold W.whyI at hC
          generalize W.wantG ks q = WA at *
          clear hvc gvl0
          by_cases h0 : 0 ≤ WA
          · rw [if_pos ⟨h0, hwr.2, hqn⟩, Int.toNat_natCast, hpw h0] at hC
            have HC : Hid _ := hC
            clear hC hpw hwr bxx
            have h0' : decide (0 ≤ WA) = true := by simpa using h0
            go_wp2_with (fail)
            refine wp_region_quiet (C := fun w' => Below wr.heap.size wr w' ∧ gp < w'.heap.size ∧ gv < w'.heap.size ∧ w'.cell? ⟨gp, q, none⟩ = some (.int .i64 WA) ∧ w'.cell? ⟨gv, q, none⟩ = some (.int .i64 WA)) (by kernel_rfl) (by kernel_rfl) ⟨(Below.refl _ _).drew, gpl, gvl, cp, cv⟩ ?_
            clear cp cv
            simp only [List.toList_toArray]
            repeat (first
              | go_big_quiet_skip
              | (go_big_quiet_want; go_big_quiet_op; go_big_quiet_on)
              | (go_big_quiet_want
                 apply Exists.intro
                 refine ⟨fun wq hw => ?_, ?_⟩
                 · (try dsimp only at hw)
                   go_simp
                   first
                     | rfl
                     | (go_at_call 12; refine (HC.out _ hw.1).mono ?_; rintro e w5 ⟨rfl, hm⟩; exact ⟨rfl, two_cells hw hm⟩)
                 (try simp only [Act.put, List.setIfInBounds_toArray, List.set_cons_zero, List.set_cons_succ])
                 go_big_quiet_on))
            refine wpQuiet_nil ?_
            intro w9 hS9
            have b9 := bx.trans (hS9.1.mono bx.size)
            clear hS9
            go_wp2
            go_roundw
            case rel => exact ⟨q + 1, by omega, by go_num, b9⟩
            case measure => simp [intOf]; omega
          · clear hC hpw hwr bxx
            have h0' : decide (0 ≤ WA) = false := by simpa using h0
            go_wp2_with (fail)
            refine wp_region_quiet (C := fun w' => Below wr.heap.size wr w' ∧ gp < w'.heap.size ∧ gv < w'.heap.size ∧ w'.cell? ⟨gp, q, none⟩ = some (.int .i64 WA) ∧ w'.cell? ⟨gv, q, none⟩ = some (.int .i64 WA)) (by kernel_rfl) (by kernel_rfl) ⟨(Below.refl _ _).drew, gpl, gvl, cp, cv⟩ ?_
            clear cp cv
            simp only [List.toList_toArray]
            repeat (first
              | go_big_quiet_skip
              | (go_big_quiet_want; go_big_quiet_op; go_big_quiet_on)
              | (go_big_quiet_want
                 apply Exists.intro
                 refine ⟨fun wq hw => ?_, ?_⟩
                 · (try dsimp only at hw)
                   go_simp
                   first
                     | rfl
                     | (go_at_call 12; refine (HZ.out _ hw.1).mono ?_; rintro e w5 ⟨rfl, hm⟩; exact ⟨rfl, two_cells hw hm⟩)
                 (try simp only [Act.put, List.setIfInBounds_toArray, List.set_cons_zero, List.set_cons_succ])
                 go_big_quiet_on))
            refine wpQuiet_nil ?_
            intro w9 hS9
            have b9 := bx.trans (hS9.1.mono bx.size)
            clear hS9
            go_wp2
            go_roundw
            case rel => exact ⟨q + 1, by omega, by go_num, b9⟩
            case measure => simp [intOf]; omega
        · have hqn : ¬ (q : Int) < (j : Int) := by omega
          have b9 := HQ.out.2.2.2.2.trans ((HQ.out.2.1.trans (bx.mono HQ.out.2.1.size)).mono HQ.out.2.2.2.2.size)
          clear HQ
          go_wp2
          go_ret
          exact ⟨rfl, b9⟩
end Go.Proofs.Ytopcejohnofelaa
