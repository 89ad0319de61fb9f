/- WmoMixed: the walk (made by gx.py). -/
import Derived.Test.YtahdclmgolpjfaaDoorWmoX7
namespace Go.Proofs.YtahdclmgolpjfaaDoor
open Go.ChangeShapes Go.WideShapes Go.ChangeAt Go.RowKit Go.Maps
set_option linter.unusedVariables false
set_option linter.unusedSimpArgs false
theorem mixed_long (A : Nat → Addr) (a : Option Addr) (n cap : Nat) (bend : Int) (hn : 12 < n) (hm : n ≤ maxLen) (w : World) (hS : Sent A w) : Calls Tryd.prog 7 #[.slice a n cap, .int .i64 bend] w fun e w' => e = .returned (.bool true) ∧ Below w.heap.size w w' := by
  simp only [maxLen] at hm
  have HF : Hid (Calls _ _ _ _ _) := first14_any A w hS
  clear hS
  go_enter Tryd.func7, Tryd.ntmps7
  go_wp2_with (fail)
  refine HF.out.mono ?_
  rintro e w1 ⟨rfl, bw1⟩
  go_wp2
  go_ret
  exact ⟨rfl, bw1⟩
attribute [local go_sem ↓] bdO_eq bsO_eq ldO_eq
set_option maxRecDepth 100000 in
set_option maxHeartbeats 3200000 in
theorem mixed_some (A : Nat → Addr) (a : Option Addr) (n cap : Nat) (bend : Int) (hb0 : -9223372036854775808 ≤ bend) (hb1 : bend ≤ 9223372036854775807) (hn : n ≤ 12) (ks : Nat → Int) (hks : ∀ j, 0 ≤ ks j ∧ ks j < 4294967296) (kb ko : Nat) (w : World) (hk0 : 0 < n → a = some ⟨kb, ko, none⟩ ∧ kb < w.heap.size) (hkc : ∀ j, j < n → w.cell? ⟨kb, ko + j, none⟩ = some (.int .u32 (ks j))) (hS : Sent A w) :
    Calls Tryd.prog 7 #[.slice a n cap, .int .i64 bend] w fun e w' => e = .returned (.bool true) ∧ Below w.heap.size w w' := by
  have HF : Hid (Calls _ _ _ _ _ ∧ _ ∧ _ ∧ _) := ⟨first14_any A w hS, hk0, hkc, hS⟩
  clear hk0 hkc hS
  obtain ⟨ii, hi, hzz⟩ := Option.map_eq_some_iff.1 infoSl
  simp only [Prod.mk.injEq] at hzz
  obtain ⟨hz0, hz1, hz2⟩ := hzz
  obtain ⟨it, ht, hyy⟩ := Option.map_eq_some_iff.1 infoRf
  simp only [Prod.mk.injEq] at hyy
  obtain ⟨hy0, hy1, hy2⟩ := hyy
  have hn' : ¬ ((12 : Int) < (n : Int)) := by omega
  go_enter Tryd.func7, Tryd.ntmps7
  go_wp2_with (fail)
  refine HF.out.1.mono ?_
  rintro e w1 ⟨rfl, bw1⟩
  go_wp2
  go_loopw [6, 7, 9] (fun hv ov i wr => ∃ (j : Nat) (gs : Nat → Nat), j ≤ n ∧ i = .int .i64 (j : Int) ∧ Mx w.heap.size hv ov w1.heap.size gs (opX n (fun t => szF (ks t)) (fun t => adF (ks t)) ks 0) (W.mX (fun t => szF (ks t)) (fun t => adF (ks t)) ks j) j j wr ∧ Below w.heap.size w wr) (fun _ _ i _ => n - (intOf i).toNat)
  case atStart =>
    have al := (Below.refl w1.heap.size w1).alloc (Nat.le_refl _) (.cells #[.int .u8 0, .int .u8 0, .int .u8 0, .int .u8 0] 54)
    have hh := heap_alloc_last w1 (.cells #[.int .u8 0, .int .u8 0, .int .u8 0, .int .u8 0] 54)
    refine ⟨0, fun _ => 0, by omega, rfl, ⟨⟨rfl, .inl ⟨rfl, rfl⟩⟩, ⟨rfl, .inl ⟨rfl, rfl⟩⟩, ⟨by simp, fun i hi => (cell_of_row _ _ i _ _ (0, 0) hh).trans ?_, fun i => by unfold World.frozen?; rw [hh]; simp⟩, fun t ht => absurd ht (by omega), fun b hb => absurd hb (by simp [Value.ownBlock]), by simp [Value.ownBlock], by simp [Value.ownBlock], fun t ht => absurd ht (by omega), fun t ht => absurd ht (by omega), fun t ht => absurd ht (by omega), bw1.size⟩, bw1.alloc bw1.size _⟩
    have : i = 0 ∨ i = 1 ∨ i = 2 ∨ i = 3 := by omega
    rcases this with rfl | rfl | rfl | rfl <;> rfl
  case round =>
    clear bw1
    obtain ⟨j, gs, hj, rfl, hM, hbl⟩ := hrel
    by_cases hlt : j < n
    · have hjn : (j : Int) < (n : Int) := by omega
      have hsz := hbl.size
      obtain ⟨rfl, kl0⟩ := HF.out.2.1 (by omega)
      have cj := (hbl.cell (p := ⟨kb, ko + j, none⟩) kl0).trans (HF.out.2.2.1 j hlt)
      have kl : kb < wr.heap.size := by omega
      have hKr := hks j
      have hzs := szX (ks j) hKr
      obtain ⟨S, eS⟩ : ∃ S, S = szF (ks j) := ⟨_, rfl⟩
      obtain ⟨AD, eAD⟩ : ∃ AD : Nat, (AD : Int) = adF (ks j) := ⟨(adF (ks j)).toNat, by have := hzs.1; omega⟩
      rw [← eS, ← eAD] at hzs
      have eAD2 : bits .andNot .u32 (ks j / 4 % 4) (S - 1) = (AD : Int) := by rw [eAD, eS]; rfl
      have h3 : ks j % 3 = 0 ∨ ks j % 3 = 1 ∨ ks j % 3 = 2 := by omega
      obtain ⟨X, eX⟩ : ∃ X, X = ks j := ⟨_, rfl⟩
      have eS2 : S = szF X := by rw [eS, eX]
      rw [← eX] at cj hKr h3 eAD2 hzs
      have hK0 := hKr.1
      have hK1 := hKr.2
      have ad1 : (AD : Int) + S ≤ 4 := by have := hzs.1; omega
      have q1 := bdO_w
      have q4 := bsO_1
      have Ba := hbl.alloc hbl.size (.cells #[.int .i64 1, .int .i64 2, .int .i64 4] 3)
      have al := (Below.refl wr.heap.size wr).alloc (Nat.le_refl _) (.cells #[.int .i64 1, .int .i64 2, .int .i64 4] 3)
      have Ma := hM.below al
      have cja := (al.cell (p := ⟨kb, ko + j, none⟩) kl).trans cj
      have HQ : Hid (_ ∧ _ ∧ _ ∧ _ ∧ _ ∧ _) := ⟨Ma, Ba, hzs, eX, eS, eAD⟩
      clear hM Ma Ba hzs hbl al hKr eX eS eAD
      rcases h3 with h3 | h3 | h3
      · obtain rfl : S = 1 := by rw [eS2]; unfold szF; rw [h3]; rfl
        have eAD' : bits .andNot .u32 (X / 4 % 4) 0 = (AD : Int) := eAD2
        clear eAD2 eS2
        have zs : (wr.alloc (.cells #[.int .i64 1, .int .i64 2, .int .i64 4] 3)).heap.size = wr.heap.size + 1 := by simp
        have zs2 : ((wr.alloc (.cells #[.int .i64 1, .int .i64 2, .int .i64 4] 3)).alloc (.cells (opsR [W.oW 1 (AD : Int) X]) 38)).heap.size = wr.heap.size + 1 + 1 := by simp
        have n5 := news_sl (.slice (some ⟨wr.heap.size + 1, 0, none⟩) 1 1) ((wr.alloc (.cells #[.int .i64 1, .int .i64 2, .int .i64 4] 3)).alloc (.cells (opsR [W.oW 1 (AD : Int) X]) 38)) 34
        rw [zs2] at n5
        have oh := (HQ.out.1.h.alloc (.cells (opsR [W.oW 1 (AD : Int) X]) 38)).alloc (.cells #[.slice (some ⟨wr.heap.size + 1, 0, none⟩) 1 1] 34)
        have c6 : (((wr.alloc (.cells #[.int .i64 1, .int .i64 2, .int .i64 4] 3)).alloc (.cells (opsR [W.oW 1 (AD : Int) X]) 38)).alloc (.cells #[.slice (some ⟨wr.heap.size + 1, 0, none⟩) 1 1] 34)).heap.size = wr.heap.size + 1 + 1 + 1 := by simp
        have c7 : w.heap.size ≤ (((wr.alloc (.cells #[.int .i64 1, .int .i64 2, .int .i64 4] 3)).alloc (.cells (opsR [W.oW 1 (AD : Int) X]) 38)).alloc (.cells #[.slice (some ⟨wr.heap.size + 1, 0, none⟩) 1 1] 34)).heap.size := by rw [c6]; omega
        have d3 : ∀ u ∈ [Value.slice (some ⟨wr.heap.size + 1, 0, none⟩) 1 1], u.oneCell' = true := by intro u hu; simp at hu; rw [hu]; rfl
        have HN : Hid (_ ∧ _ ∧ _ ∧ _ ∧ _ ∧ _) := ⟨oh, n5, d3, c6, c7, zs⟩
        clear oh n5 d3 c6 c7 zs zs2
        go_wp2_with (at_builtin; refine wpList_append_lies _ rfl _ _ 22 rfl w.heap.size 34 ii (.slice none 0 0) 1 24 Tryd.underlying22 hi hz0 hz1 hz2 rfl (by decide) u6 j (hsL gs j) rfl HN.out.1 ⟨wr.heap.size + 1 + 1, 0, none⟩ 1 1 [.slice (some ⟨wr.heap.size + 1, 0, none⟩) 1 1] rfl rfl HN.out.2.1 HN.out.2.2.1 (by decide) (by unfold maxLen; omega) (by omega) HN.out.2.2.2.2.1 (wr.heap.size + 1 + 1 + 1) HN.out.2.2.2.1 ?_)
        intro g4 cap4 w4 own4 hg4 hat4 hlt4
        have B4 : Below w.heap.size w w4 := Below.grown ((HQ.out.2.1.alloc HQ.out.2.1.size _).alloc (by have := HQ.out.2.1.size; simp at this ⊢; omega) _) hg4 HN.out.2.2.2.2.1 (fun b hb => (HQ.out.1.h.lt b hb).1)
        have M4 := HQ.out.1.appH2 (wr.heap.size + 1) HN.out.2.2.2.2.2 (W.oW 1 (AD : Int) X) (by unfold opX; rw [if_pos hlt]; show W.oWx (szF (ks j)) (adF (ks j)) (ks j) = _; rw [← HQ.out.2.2.2.2.1, ← HQ.out.2.2.2.2.2, ← HQ.out.2.2.2.1]; rfl) _ g4 cap4 w4 own4 hg4 (hat4.imp id (fun h => by omega))
        have n7 := news_rf (.int .i64 (j : Int)) (.int .i64 0) w4 41
        have e6 : w.heap.size ≤ (w4.alloc (.cells #[.int .i64 (j : Int), .int .i64 0] 41)).heap.size := by have := B4.size; simp; omega
        have e7 : (w4.alloc (.cells #[.int .i64 (j : Int), .int .i64 0] 41)).heap.size = w4.heap.size + 1 := by simp
        have e3 : ∀ u ∈ [Value.int .i64 (j : Int), Value.int .i64 0], u.oneCell' = true := by intro u hu; simp at hu; rcases hu with hu | hu <;> (rw [hu]; rfl)
        have HO : Hid (_ ∧ _ ∧ _ ∧ _ ∧ _ ∧ _) := ⟨M4, n7, e3, e7, e6, B4⟩
        clear M4 n7 e3 e7 e6 B4 own4 hg4 hat4 HN cja cj
        go_wp2_with (at_builtin; refine wpList_append_lies _ rfl _ _ 31 rfl w.heap.size 41 it (.agg #[.int .i64 0, .int .i64 0]) 2 16 Tryd.underlying31 ht hy0 hy1 hy2 rfl (by decide) u7 j (orL j) rfl (HO.out.1.o.alloc _) ⟨w4.heap.size, 0, none⟩ 1 1 [.int .i64 (j : Int), .int .i64 0] rfl rfl HO.out.2.1 HO.out.2.2.1 (by decide) (by unfold maxLen; omega) (by omega) HO.out.2.2.2.2.1 (w4.heap.size + 1) HO.out.2.2.2.1 ?_)
        intro g5 cap5 w5 own5 hg5 hat5 hlt5
        have B5 : Below w.heap.size w w5 := Below.grown (HO.out.2.2.2.2.2.alloc HO.out.2.2.2.2.2.size _) hg5 HO.out.2.2.2.2.1 (fun b hb => (HO.out.1.o.lt b hb).1)
        have M5 := HO.out.1.appO _ g5 cap5 w5 own5 hg5 hat5
        have HR : Hid (_ ∧ _) := ⟨M5, B5⟩
        clear own5 hg5 hat5 HO M5 B5
        go_wp2
        go_loopw [12] (fun k wi => ∃ m : Nat, (m : Int) ≤ 1 ∧ k = .int .i64 (m : Int) ∧ Mx w.heap.size (.slice (some ⟨g4, 0, none⟩) (j + 1) cap4) (.slice (some ⟨g5, 0, none⟩) (j + 1) cap5) w1.heap.size (updN gs j (wr.heap.size + 1)) (opX n (fun t => szF (ks t)) (fun t => adF (ks t)) ks 0) (mI (fun t => szF (ks t)) (fun t => adF (ks t)) ks j m) (j + 1) (j + 1) wi ∧ Below w.heap.size w wi) (fun k _ => 1 - (intOf k).toNat)
        case atStart => exact ⟨0, by decide, rfl, HR.out.1.congr (fun _ _ => rfl) (fun i hi => mI_0 _ _ _ j i), HR.out.2⟩
        case round =>
          obtain ⟨m, hm, rfl, hMi, hbi⟩ := hrel
          by_cases hms : (m : Int) < 1
          · have cji := (hbi.cell (p := ⟨kb, ko + j, none⟩) kl0).trans (HF.out.2.2.1 j hlt)
            rw [← HQ.out.2.2.2.1] at cji
            have kli : kb < wr.heap.size := by have := hbi.size; omega
            have hAm : AD + m < 4 := by omega
            have cm := hMi.m.c (AD + m) hAm
            have cf := hMi.m.fz (AD + m)
            have cl := hMi.m.lt
            have HI : Hid (_ ∧ _) := ⟨hMi, hbi⟩
            clear hMi hbi
            have ev : X / 2 ^ (8 * m) % 256 = W.bta (ks j) m := by rw [HQ.out.2.2.2.1]; rfl
            have MS := HI.out.1.set (AD + m) (W.bta (ks j) m) (mI (fun t => szF (ks t)) (fun t => adF (ks t)) ks j (m + 1)) (fun i hi => mI_succ _ _ _ j m i (AD + m) (by have := HQ.out.2.2.2.2.2; show ((AD + m : Nat) : Int) = adF (ks j) + (m : Int); omega))
            have BS := HI.out.2.setCell (p := ⟨w1.heap.size, AD + m, none⟩) HI.out.1.m0 (.int .u8 (W.bta (ks j) m))
            have HJ : Hid (_ ∧ _ ∧ _) := ⟨MS, BS, ev⟩
            clear MS BS ev HI
            go_wp2
            rw [HJ.out.2.2]
            exact ⟨⟨m + 1, by omega, by go_num, HJ.out.1, HJ.out.2.1⟩, by simp [intOf]; omega⟩
          · have em : (m : Int) = 1 := by omega
            have M6 := hMi.congr (fun _ _ => rfl) (fun i hi => mI_end (fun t => szF (ks t)) (fun t => adF (ks t)) ks j m (by rw [em]; exact HQ.out.2.2.2.2.1) i)
            have HI : Hid (_ ∧ _) := ⟨M6, hbi⟩
            clear hMi hbi M6
            go_wp2
            go_roundw
            case rel => exact ⟨j + 1, _, by omega, by go_num, HI.out.1, HI.out.2⟩
            case measure => simp [intOf]; omega
      · obtain rfl : S = 2 := by rw [eS2]; unfold szF; rw [h3]; rfl
        have eAD' : bits .andNot .u32 (X / 4 % 4) 1 = (AD : Int) := eAD2
        clear eAD2 eS2
        have zs : (wr.alloc (.cells #[.int .i64 1, .int .i64 2, .int .i64 4] 3)).heap.size = wr.heap.size + 1 := by simp
        have zs2 : ((wr.alloc (.cells #[.int .i64 1, .int .i64 2, .int .i64 4] 3)).alloc (.cells (opsR [W.oW 2 (AD : Int) X]) 38)).heap.size = wr.heap.size + 1 + 1 := by simp
        have n5 := news_sl (.slice (some ⟨wr.heap.size + 1, 0, none⟩) 1 1) ((wr.alloc (.cells #[.int .i64 1, .int .i64 2, .int .i64 4] 3)).alloc (.cells (opsR [W.oW 2 (AD : Int) X]) 38)) 34
        rw [zs2] at n5
        have oh := (HQ.out.1.h.alloc (.cells (opsR [W.oW 2 (AD : Int) X]) 38)).alloc (.cells #[.slice (some ⟨wr.heap.size + 1, 0, none⟩) 1 1] 34)
        have c6 : (((wr.alloc (.cells #[.int .i64 1, .int .i64 2, .int .i64 4] 3)).alloc (.cells (opsR [W.oW 2 (AD : Int) X]) 38)).alloc (.cells #[.slice (some ⟨wr.heap.size + 1, 0, none⟩) 1 1] 34)).heap.size = wr.heap.size + 1 + 1 + 1 := by simp
        have c7 : w.heap.size ≤ (((wr.alloc (.cells #[.int .i64 1, .int .i64 2, .int .i64 4] 3)).alloc (.cells (opsR [W.oW 2 (AD : Int) X]) 38)).alloc (.cells #[.slice (some ⟨wr.heap.size + 1, 0, none⟩) 1 1] 34)).heap.size := by rw [c6]; omega
        have d3 : ∀ u ∈ [Value.slice (some ⟨wr.heap.size + 1, 0, none⟩) 1 1], u.oneCell' = true := by intro u hu; simp at hu; rw [hu]; rfl
        have HN : Hid (_ ∧ _ ∧ _ ∧ _ ∧ _ ∧ _) := ⟨oh, n5, d3, c6, c7, zs⟩
        clear oh n5 d3 c6 c7 zs zs2
        go_wp2_with (at_builtin; refine wpList_append_lies _ rfl _ _ 22 rfl w.heap.size 34 ii (.slice none 0 0) 1 24 Tryd.underlying22 hi hz0 hz1 hz2 rfl (by decide) u6 j (hsL gs j) rfl HN.out.1 ⟨wr.heap.size + 1 + 1, 0, none⟩ 1 1 [.slice (some ⟨wr.heap.size + 1, 0, none⟩) 1 1] rfl rfl HN.out.2.1 HN.out.2.2.1 (by decide) (by unfold maxLen; omega) (by omega) HN.out.2.2.2.2.1 (wr.heap.size + 1 + 1 + 1) HN.out.2.2.2.1 ?_)
        intro g4 cap4 w4 own4 hg4 hat4 hlt4
        have B4 : Below w.heap.size w w4 := Below.grown ((HQ.out.2.1.alloc HQ.out.2.1.size _).alloc (by have := HQ.out.2.1.size; simp at this ⊢; omega) _) hg4 HN.out.2.2.2.2.1 (fun b hb => (HQ.out.1.h.lt b hb).1)
        have M4 := HQ.out.1.appH2 (wr.heap.size + 1) HN.out.2.2.2.2.2 (W.oW 2 (AD : Int) X) (by unfold opX; rw [if_pos hlt]; show W.oWx (szF (ks j)) (adF (ks j)) (ks j) = _; rw [← HQ.out.2.2.2.2.1, ← HQ.out.2.2.2.2.2, ← HQ.out.2.2.2.1]; rfl) _ g4 cap4 w4 own4 hg4 (hat4.imp id (fun h => by omega))
        have n7 := news_rf (.int .i64 (j : Int)) (.int .i64 0) w4 41
        have e6 : w.heap.size ≤ (w4.alloc (.cells #[.int .i64 (j : Int), .int .i64 0] 41)).heap.size := by have := B4.size; simp; omega
        have e7 : (w4.alloc (.cells #[.int .i64 (j : Int), .int .i64 0] 41)).heap.size = w4.heap.size + 1 := by simp
        have e3 : ∀ u ∈ [Value.int .i64 (j : Int), Value.int .i64 0], u.oneCell' = true := by intro u hu; simp at hu; rcases hu with hu | hu <;> (rw [hu]; rfl)
        have HO : Hid (_ ∧ _ ∧ _ ∧ _ ∧ _ ∧ _) := ⟨M4, n7, e3, e7, e6, B4⟩
        clear M4 n7 e3 e7 e6 B4 own4 hg4 hat4 HN cja cj
        go_wp2_with (at_builtin; refine wpList_append_lies _ rfl _ _ 31 rfl w.heap.size 41 it (.agg #[.int .i64 0, .int .i64 0]) 2 16 Tryd.underlying31 ht hy0 hy1 hy2 rfl (by decide) u7 j (orL j) rfl (HO.out.1.o.alloc _) ⟨w4.heap.size, 0, none⟩ 1 1 [.int .i64 (j : Int), .int .i64 0] rfl rfl HO.out.2.1 HO.out.2.2.1 (by decide) (by unfold maxLen; omega) (by omega) HO.out.2.2.2.2.1 (w4.heap.size + 1) HO.out.2.2.2.1 ?_)
        intro g5 cap5 w5 own5 hg5 hat5 hlt5
        have B5 : Below w.heap.size w w5 := Below.grown (HO.out.2.2.2.2.2.alloc HO.out.2.2.2.2.2.size _) hg5 HO.out.2.2.2.2.1 (fun b hb => (HO.out.1.o.lt b hb).1)
        have M5 := HO.out.1.appO _ g5 cap5 w5 own5 hg5 hat5
        have HR : Hid (_ ∧ _) := ⟨M5, B5⟩
        clear own5 hg5 hat5 HO M5 B5
        go_wp2
        go_loopw [12] (fun k wi => ∃ m : Nat, (m : Int) ≤ 2 ∧ k = .int .i64 (m : Int) ∧ Mx w.heap.size (.slice (some ⟨g4, 0, none⟩) (j + 1) cap4) (.slice (some ⟨g5, 0, none⟩) (j + 1) cap5) w1.heap.size (updN gs j (wr.heap.size + 1)) (opX n (fun t => szF (ks t)) (fun t => adF (ks t)) ks 0) (mI (fun t => szF (ks t)) (fun t => adF (ks t)) ks j m) (j + 1) (j + 1) wi ∧ Below w.heap.size w wi) (fun k _ => 2 - (intOf k).toNat)
        case atStart => exact ⟨0, by decide, rfl, HR.out.1.congr (fun _ _ => rfl) (fun i hi => mI_0 _ _ _ j i), HR.out.2⟩
        case round =>
          obtain ⟨m, hm, rfl, hMi, hbi⟩ := hrel
          by_cases hms : (m : Int) < 2
          · have cji := (hbi.cell (p := ⟨kb, ko + j, none⟩) kl0).trans (HF.out.2.2.1 j hlt)
            rw [← HQ.out.2.2.2.1] at cji
            have kli : kb < wr.heap.size := by have := hbi.size; omega
            have hAm : AD + m < 4 := by omega
            have cm := hMi.m.c (AD + m) hAm
            have cf := hMi.m.fz (AD + m)
            have cl := hMi.m.lt
            have HI : Hid (_ ∧ _) := ⟨hMi, hbi⟩
            clear hMi hbi
            have ev : X / 2 ^ (8 * m) % 256 = W.bta (ks j) m := by rw [HQ.out.2.2.2.1]; rfl
            have MS := HI.out.1.set (AD + m) (W.bta (ks j) m) (mI (fun t => szF (ks t)) (fun t => adF (ks t)) ks j (m + 1)) (fun i hi => mI_succ _ _ _ j m i (AD + m) (by have := HQ.out.2.2.2.2.2; show ((AD + m : Nat) : Int) = adF (ks j) + (m : Int); omega))
            have BS := HI.out.2.setCell (p := ⟨w1.heap.size, AD + m, none⟩) HI.out.1.m0 (.int .u8 (W.bta (ks j) m))
            have HJ : Hid (_ ∧ _ ∧ _) := ⟨MS, BS, ev⟩
            clear MS BS ev HI
            go_wp2
            rw [HJ.out.2.2]
            exact ⟨⟨m + 1, by omega, by go_num, HJ.out.1, HJ.out.2.1⟩, by simp [intOf]; omega⟩
          · have em : (m : Int) = 2 := by omega
            have M6 := hMi.congr (fun _ _ => rfl) (fun i hi => mI_end (fun t => szF (ks t)) (fun t => adF (ks t)) ks j m (by rw [em]; exact HQ.out.2.2.2.2.1) i)
            have HI : Hid (_ ∧ _) := ⟨M6, hbi⟩
            clear hMi hbi M6
            go_wp2
            go_roundw
            case rel => exact ⟨j + 1, _, by omega, by go_num, HI.out.1, HI.out.2⟩
            case measure => simp [intOf]; omega
      · obtain rfl : S = 4 := by rw [eS2]; unfold szF; rw [h3]; rfl
        have eAD' : bits .andNot .u32 (X / 4 % 4) 3 = (AD : Int) := eAD2
        clear eAD2 eS2
        have zs : (wr.alloc (.cells #[.int .i64 1, .int .i64 2, .int .i64 4] 3)).heap.size = wr.heap.size + 1 := by simp
        have zs2 : ((wr.alloc (.cells #[.int .i64 1, .int .i64 2, .int .i64 4] 3)).alloc (.cells (opsR [W.oW 4 (AD : Int) X]) 38)).heap.size = wr.heap.size + 1 + 1 := by simp
        have n5 := news_sl (.slice (some ⟨wr.heap.size + 1, 0, none⟩) 1 1) ((wr.alloc (.cells #[.int .i64 1, .int .i64 2, .int .i64 4] 3)).alloc (.cells (opsR [W.oW 4 (AD : Int) X]) 38)) 34
        rw [zs2] at n5
        have oh := (HQ.out.1.h.alloc (.cells (opsR [W.oW 4 (AD : Int) X]) 38)).alloc (.cells #[.slice (some ⟨wr.heap.size + 1, 0, none⟩) 1 1] 34)
        have c6 : (((wr.alloc (.cells #[.int .i64 1, .int .i64 2, .int .i64 4] 3)).alloc (.cells (opsR [W.oW 4 (AD : Int) X]) 38)).alloc (.cells #[.slice (some ⟨wr.heap.size + 1, 0, none⟩) 1 1] 34)).heap.size = wr.heap.size + 1 + 1 + 1 := by simp
        have c7 : w.heap.size ≤ (((wr.alloc (.cells #[.int .i64 1, .int .i64 2, .int .i64 4] 3)).alloc (.cells (opsR [W.oW 4 (AD : Int) X]) 38)).alloc (.cells #[.slice (some ⟨wr.heap.size + 1, 0, none⟩) 1 1] 34)).heap.size := by rw [c6]; omega
        have d3 : ∀ u ∈ [Value.slice (some ⟨wr.heap.size + 1, 0, none⟩) 1 1], u.oneCell' = true := by intro u hu; simp at hu; rw [hu]; rfl
        have HN : Hid (_ ∧ _ ∧ _ ∧ _ ∧ _ ∧ _) := ⟨oh, n5, d3, c6, c7, zs⟩
        clear oh n5 d3 c6 c7 zs zs2
        go_wp2_with (at_builtin; refine wpList_append_lies _ rfl _ _ 22 rfl w.heap.size 34 ii (.slice none 0 0) 1 24 Tryd.underlying22 hi hz0 hz1 hz2 rfl (by decide) u6 j (hsL gs j) rfl HN.out.1 ⟨wr.heap.size + 1 + 1, 0, none⟩ 1 1 [.slice (some ⟨wr.heap.size + 1, 0, none⟩) 1 1] rfl rfl HN.out.2.1 HN.out.2.2.1 (by decide) (by unfold maxLen; omega) (by omega) HN.out.2.2.2.2.1 (wr.heap.size + 1 + 1 + 1) HN.out.2.2.2.1 ?_)
        intro g4 cap4 w4 own4 hg4 hat4 hlt4
        have B4 : Below w.heap.size w w4 := Below.grown ((HQ.out.2.1.alloc HQ.out.2.1.size _).alloc (by have := HQ.out.2.1.size; simp at this ⊢; omega) _) hg4 HN.out.2.2.2.2.1 (fun b hb => (HQ.out.1.h.lt b hb).1)
        have M4 := HQ.out.1.appH2 (wr.heap.size + 1) HN.out.2.2.2.2.2 (W.oW 4 (AD : Int) X) (by unfold opX; rw [if_pos hlt]; show W.oWx (szF (ks j)) (adF (ks j)) (ks j) = _; rw [← HQ.out.2.2.2.2.1, ← HQ.out.2.2.2.2.2, ← HQ.out.2.2.2.1]; rfl) _ g4 cap4 w4 own4 hg4 (hat4.imp id (fun h => by omega))
        have n7 := news_rf (.int .i64 (j : Int)) (.int .i64 0) w4 41
        have e6 : w.heap.size ≤ (w4.alloc (.cells #[.int .i64 (j : Int), .int .i64 0] 41)).heap.size := by have := B4.size; simp; omega
        have e7 : (w4.alloc (.cells #[.int .i64 (j : Int), .int .i64 0] 41)).heap.size = w4.heap.size + 1 := by simp
        have e3 : ∀ u ∈ [Value.int .i64 (j : Int), Value.int .i64 0], u.oneCell' = true := by intro u hu; simp at hu; rcases hu with hu | hu <;> (rw [hu]; rfl)
        have HO : Hid (_ ∧ _ ∧ _ ∧ _ ∧ _ ∧ _) := ⟨M4, n7, e3, e7, e6, B4⟩
        clear M4 n7 e3 e7 e6 B4 own4 hg4 hat4 HN cja cj
        go_wp2_with (at_builtin; refine wpList_append_lies _ rfl _ _ 31 rfl w.heap.size 41 it (.agg #[.int .i64 0, .int .i64 0]) 2 16 Tryd.underlying31 ht hy0 hy1 hy2 rfl (by decide) u7 j (orL j) rfl (HO.out.1.o.alloc _) ⟨w4.heap.size, 0, none⟩ 1 1 [.int .i64 (j : Int), .int .i64 0] rfl rfl HO.out.2.1 HO.out.2.2.1 (by decide) (by unfold maxLen; omega) (by omega) HO.out.2.2.2.2.1 (w4.heap.size + 1) HO.out.2.2.2.1 ?_)
        intro g5 cap5 w5 own5 hg5 hat5 hlt5
        have B5 : Below w.heap.size w w5 := Below.grown (HO.out.2.2.2.2.2.alloc HO.out.2.2.2.2.2.size _) hg5 HO.out.2.2.2.2.1 (fun b hb => (HO.out.1.o.lt b hb).1)
        have M5 := HO.out.1.appO _ g5 cap5 w5 own5 hg5 hat5
        have HR : Hid (_ ∧ _) := ⟨M5, B5⟩
        clear own5 hg5 hat5 HO M5 B5
        go_wp2
        go_loopw [12] (fun k wi => ∃ m : Nat, (m : Int) ≤ 4 ∧ k = .int .i64 (m : Int) ∧ Mx w.heap.size (.slice (some ⟨g4, 0, none⟩) (j + 1) cap4) (.slice (some ⟨g5, 0, none⟩) (j + 1) cap5) w1.heap.size (updN gs j (wr.heap.size + 1)) (opX n (fun t => szF (ks t)) (fun t => adF (ks t)) ks 0) (mI (fun t => szF (ks t)) (fun t => adF (ks t)) ks j m) (j + 1) (j + 1) wi ∧ Below w.heap.size w wi) (fun k _ => 4 - (intOf k).toNat)
        case atStart => exact ⟨0, by decide, rfl, HR.out.1.congr (fun _ _ => rfl) (fun i hi => mI_0 _ _ _ j i), HR.out.2⟩
        case round =>
          obtain ⟨m, hm, rfl, hMi, hbi⟩ := hrel
          by_cases hms : (m : Int) < 4
          · have cji := (hbi.cell (p := ⟨kb, ko + j, none⟩) kl0).trans (HF.out.2.2.1 j hlt)
            rw [← HQ.out.2.2.2.1] at cji
            have kli : kb < wr.heap.size := by have := hbi.size; omega
            have hAm : AD + m < 4 := by omega
            have cm := hMi.m.c (AD + m) hAm
            have cf := hMi.m.fz (AD + m)
            have cl := hMi.m.lt
            have HI : Hid (_ ∧ _) := ⟨hMi, hbi⟩
            clear hMi hbi
            have ev : X / 2 ^ (8 * m) % 256 = W.bta (ks j) m := by rw [HQ.out.2.2.2.1]; rfl
            have MS := HI.out.1.set (AD + m) (W.bta (ks j) m) (mI (fun t => szF (ks t)) (fun t => adF (ks t)) ks j (m + 1)) (fun i hi => mI_succ _ _ _ j m i (AD + m) (by have := HQ.out.2.2.2.2.2; show ((AD + m : Nat) : Int) = adF (ks j) + (m : Int); omega))
            have BS := HI.out.2.setCell (p := ⟨w1.heap.size, AD + m, none⟩) HI.out.1.m0 (.int .u8 (W.bta (ks j) m))
            have HJ : Hid (_ ∧ _ ∧ _) := ⟨MS, BS, ev⟩
            clear MS BS ev HI
            go_wp2
            rw [HJ.out.2.2]
            exact ⟨⟨m + 1, by omega, by go_num, HJ.out.1, HJ.out.2.1⟩, by simp [intOf]; omega⟩
          · have em : (m : Int) = 4 := by omega
            have M6 := hMi.congr (fun _ _ => rfl) (fun i hi => mI_end (fun t => szF (ks t)) (fun t => adF (ks t)) ks j m (by rw [em]; exact HQ.out.2.2.2.2.1) i)
            have HI : Hid (_ ∧ _) := ⟨M6, hbi⟩
            clear hMi hbi M6
            go_wp2
            go_roundw
            case rel => exact ⟨j + 1, _, by omega, by go_num, HI.out.1, HI.out.2⟩
            case measure => simp [intOf]; omega
    · have ejn : j = n := by omega
      subst ejn
      have c0 := hM.m.c 0 (by decide)
      have c1 := hM.m.c 1 (by decide)
      have c2 := hM.m.c 2 (by decide)
      have c3 := hM.m.c 3 (by decide)
      have cl := hM.m.lt
      have hgX : W.gX (fun t => szF (ks t)) (fun t => adF (ks t)) ks j = W.mX (fun t => szF (ks t)) (fun t => adF (ks t)) ks j ((0 : Nat) : Int) + W.mX (fun t => szF (ks t)) (fun t => adF (ks t)) ks j ((1 : Nat) : Int) * 256 + W.mX (fun t => szF (ks t)) (fun t => adF (ks t)) ks j ((2 : Nat) : Int) * 65536 + W.mX (fun t => szF (ks t)) (fun t => adF (ks t)) ks j ((3 : Nat) : Int) * 16777216 := rfl
      have r0 := mX_rg (fun t => szF (ks t)) (fun t => adF (ks t)) ks j ((0 : Nat) : Int)
      have r1 := mX_rg (fun t => szF (ks t)) (fun t => adF (ks t)) ks j ((1 : Nat) : Int)
      have r2 := mX_rg (fun t => szF (ks t)) (fun t => adF (ks t)) ks j ((2 : Nat) : Int)
      have r3 := mX_rg (fun t => szF (ks t)) (fun t => adF (ks t)) ks j ((3 : Nat) : Int)
      generalize W.mX (fun t => szF (ks t)) (fun t => adF (ks t)) ks j ((0 : Nat) : Int) = V0 at c0 hgX r0
      generalize W.mX (fun t => szF (ks t)) (fun t => adF (ks t)) ks j ((1 : Nat) : Int) = V1 at c1 hgX r1
      generalize W.mX (fun t => szF (ks t)) (fun t => adF (ks t)) ks j ((2 : Nat) : Int) = V2 at c2 hgX r2
      generalize W.mX (fun t => szF (ks t)) (fun t => adF (ks t)) ks j ((3 : Nat) : Int) = V3 at c3 hgX r3
      have eG := or4x V0 V1 V2 V3 r0 r1 r2 r3
      obtain ⟨v00, v01⟩ := r0
      obtain ⟨v10, v11⟩ := r1
      obtain ⟨v20, v21⟩ := r2
      obtain ⟨v30, v31⟩ := r3
      obtain ⟨G, hG⟩ : ∃ G, G = V0 + V1 * 256 + V2 * 65536 + V3 * 16777216 := ⟨_, rfl⟩
      have G0 : 0 ≤ G ∧ G < 4294967296 := by omega
      rw [← hG] at eG hgX
      have M0 := hM.congr (op' := opX j (fun t => szF (ks t)) (fun t => adF (ks t)) ks G) (fun t ht => by unfold opX; rw [if_pos ht, if_pos ht]) (fun _ _ => rfl)
      have q1 := bdO_r G
      have q4 := bsO_1
      have hsz := hbl.size
      have zs2 : (wr.alloc (.cells (opsR [W.oR 4 0 G]) 38)).heap.size = wr.heap.size + 1 := by simp
      have n5 := news_sl (.slice (some ⟨wr.heap.size, 0, none⟩) 1 1) (wr.alloc (.cells (opsR [W.oR 4 0 G]) 38)) 34
      rw [zs2] at n5
      have oh := (M0.h.alloc (.cells (opsR [W.oR 4 0 G]) 38)).alloc (.cells #[.slice (some ⟨wr.heap.size, 0, none⟩) 1 1] 34)
      have c6 : ((wr.alloc (.cells (opsR [W.oR 4 0 G]) 38)).alloc (.cells #[.slice (some ⟨wr.heap.size, 0, none⟩) 1 1] 34)).heap.size = wr.heap.size + 1 + 1 := by simp
      have c7 : w.heap.size ≤ ((wr.alloc (.cells (opsR [W.oR 4 0 G]) 38)).alloc (.cells #[.slice (some ⟨wr.heap.size, 0, none⟩) 1 1] 34)).heap.size := by rw [c6]; omega
      have d3 : ∀ u ∈ [Value.slice (some ⟨wr.heap.size, 0, none⟩) 1 1], u.oneCell' = true := by intro u hu; simp at hu; rw [hu]; rfl
      have gl : ∀ t, t < j → gs t < wr.heap.size := fun t ht => (Array.getElem?_eq_some_iff.1 (hM.i t ht)).1
      have HN : Hid (_ ∧ _ ∧ _ ∧ _ ∧ _ ∧ _ ∧ _ ∧ _ ∧ _ ∧ _) := ⟨oh, n5, d3, c6, c7, M0, hbl, hgX, gl, G0⟩
      clear oh n5 d3 c6 c7 zs2 M0 hM hbl hG hgX gl G0
      go_wp2_with (at_builtin; refine wpList_append_lies _ rfl _ _ 22 rfl w.heap.size 34 ii (.slice none 0 0) 1 24 Tryd.underlying22 hi hz0 hz1 hz2 rfl (by decide) u6 j (hsL gs j) rfl HN.out.1 ⟨wr.heap.size + 1, 0, none⟩ 1 1 [.slice (some ⟨wr.heap.size, 0, none⟩) 1 1] rfl rfl HN.out.2.1 HN.out.2.2.1 (by decide) (by unfold maxLen; omega) (by omega) HN.out.2.2.2.2.1 (wr.heap.size + 1 + 1) HN.out.2.2.2.1 ?_)
      intro g4 cap4 w4 own4 hg4 hat4 hlt4
      have B4 : Below w.heap.size w w4 := Below.grown ((HN.out.2.2.2.2.2.2.1.alloc HN.out.2.2.2.2.2.2.1.size _).alloc (by simp; omega) _) hg4 HN.out.2.2.2.2.1 (fun b hb => (HN.out.1.lt b hb).1)
      have M4 := HN.out.2.2.2.2.2.1.appH2 wr.heap.size rfl (W.oR 4 0 G) (by unfold opX; rw [if_neg (Nat.lt_irrefl _)]; rfl) _ g4 cap4 w4 own4 hg4 (hat4.imp id (fun h => by omega))
      have n7 := news_rf (.int .i64 (j : Int)) (.int .i64 0) w4 41
      have e6 : w.heap.size ≤ (w4.alloc (.cells #[.int .i64 (j : Int), .int .i64 0] 41)).heap.size := by have := B4.size; simp; omega
      have e7 : (w4.alloc (.cells #[.int .i64 (j : Int), .int .i64 0] 41)).heap.size = w4.heap.size + 1 := by simp
      have e3 : ∀ u ∈ [Value.int .i64 (j : Int), Value.int .i64 0], u.oneCell' = true := by intro u hu; simp at hu; rcases hu with hu | hu <;> (rw [hu]; rfl)
      have HO : Hid (_ ∧ _ ∧ _ ∧ _ ∧ _ ∧ _) := ⟨M4, n7, e3, e7, e6, B4⟩
      clear M4 n7 e3 e7 e6 B4 own4 hg4 hat4 c0 c1 c2 c3 cl
      go_wp2_with (at_builtin; refine wpList_append_lies _ rfl _ _ 31 rfl w.heap.size 41 it (.agg #[.int .i64 0, .int .i64 0]) 2 16 Tryd.underlying31 ht hy0 hy1 hy2 rfl (by decide) u7 j (orL j) rfl (HO.out.1.o.alloc _) ⟨w4.heap.size, 0, none⟩ 1 1 [.int .i64 (j : Int), .int .i64 0] rfl rfl HO.out.2.1 HO.out.2.2.1 (by decide) (by unfold maxLen; omega) (by omega) HO.out.2.2.2.2.1 (w4.heap.size + 1) HO.out.2.2.2.1 ?_)
      intro g5 cap5 w5 own5 hg5 hat5 hlt5
      have B5 : Below w.heap.size w w5 := Below.grown (HO.out.2.2.2.2.2.alloc HO.out.2.2.2.2.2.size _) hg5 HO.out.2.2.2.2.1 (fun b hb => (HO.out.1.o.lt b hb).1)
      have M5 := HO.out.1.appO _ g5 cap5 w5 own5 hg5 hat5
      have K5 := M5.toMk
      have ej : updN gs j wr.heap.size j = wr.heap.size := by unfold updN; rw [if_pos rfl]
      have i1 : updN gs j wr.heap.size j ≠ g4 := fun e => M5.hg j (by omega) (by rw [e]; rfl)
      have i2 : updN gs j wr.heap.size j ≠ g5 := fun e => M5.og j (by omega) (by rw [e]; rfl)
      have i3 : ∀ t, t < j → updN gs j wr.heap.size t ≠ updN gs j wr.heap.size j := fun t ht => by
        rw [ej]
        have := HN.out.2.2.2.2.2.2.2.2.1 t ht
        unfold updN
        rw [if_neg (by omega)]
        omega
      have hs : ∀ h, h < j → W.SzX (szF (ks h)) (adF (ks h)) (ks h) := fun h _ => szX _ (hks h)
      have hx := HN.out.2.2.2.2.2.2.2.1
      have g01 := HN.out.2.2.2.2.2.2.2.2.2
      have wl : w.heap.size ≤ wr.heap.size := hsz
      have HR : Hid (Mk g4 g5 (updN gs j wr.heap.size) (opX j (fun t => szF (ks t)) (fun t => adF (ks t)) ks G) j w5 ∧ Below w.heap.size w w5 ∧ _ ∧ _ ∧ _ ∧ _ ∧ _ ∧ _ ∧ _ ∧ _) := ⟨K5, B5, i1, i2, i3, hs, hx, g01, ej, HF.out.2.2.2⟩
      clear own5 hg5 hat5 HO M5 B5 K5 i1 i2 i3 hs hx g01 ej HN HF eG hlt4 hlt5
      go_wp2_with (fail)
      refine (bytesOf_nil w5).mono ?_
      rintro e w6 ⟨⟨cb, rfl, _, hF⟩, b6⟩
      have B6 := HR.out.2.1.trans (b6.mono HR.out.2.1.size)
      have K6 := HR.out.1.below b6
      have K6' := K6
      have hx2 := HR.out.2.2.2.2.2.2.1
      rw [← hx2] at K6'
      have ok := K6'.chk_ok (by omega) HR.out.2.2.2.2.2.1 cap4 cap5 cb A hF (HR.out.2.2.2.2.2.2.2.2.2.below B6)
      have HC : Hid (Calls _ _ _ _ _ ∧ _ ∧ _) := ⟨ok, B6, K6⟩
      clear ok B6 K6 K6' b6 hF hx2
      generalize fvZ cb = FV at *
      go_wp2_with (fail)
      refine HC.out.1.mono ?_
      rintro e w7 ⟨rfl, b7⟩
      have B7 := HC.out.2.1.trans (b7.mono HC.out.2.1.size)
      have K7 := HC.out.2.2.below b7
      have hl := (K7.h j (by omega))
      have hi7 := K7.i j (by omega)
      rw [HR.out.2.2.2.2.2.2.2.2.1] at hl hi7
      have eo : opX j (fun t => szF (ks t)) (fun t => adF (ks t)) ks G j = W.oRx G := by unfold opX; rw [if_neg (Nat.lt_irrefl _)]
      rw [eo] at hi7
      have c4 := cell_of_row _ _ 4 _ _ (0, 0) hi7
      have c4' : w7.cell? ⟨wr.heap.size, 4, none⟩ = some (.int .u32 G) := c4
      have f4 : w7.frozen? ⟨wr.heap.size, 4, none⟩ = false := by unfold World.frozen?; rw [hi7]; simp
      have gl7 : wr.heap.size < w7.heap.size := (Array.getElem?_eq_some_iff.1 hi7).1
      have gh7 := K7.hl
      have nb := fun w => number_any bend 32 hb0 hb1 (by decide) (by decide) w
      obtain ⟨KB, eKB⟩ : ∃ KB : Nat, bend % 32 = (KB : Int) := ⟨(bend % 32).toNat, by omega⟩
      have kb32 : KB < 32 := by omega
      rw [eKB] at nb
      have S0 : w7.drew.cell? ⟨g4, j, none⟩ = some (.slice (some ⟨wr.heap.size, 0, none⟩) 1 1) := hl
      have ne4 : ¬ g4 = wr.heap.size := fun e => HR.out.2.2.1 (by rw [HR.out.2.2.2.2.2.2.2.2.1, e])
      have ne5 : ¬ wr.heap.size = g4 := fun e => ne4 e.symm
      obtain ⟨J, eJ⟩ : ∃ J : Nat, J = j + 1 := ⟨_, rfl⟩
      have hJ : (j : Int) < (J : Int) := by omega
      have hj0 : (0 : Int) ≤ (j : Int) := by omega
      have HD : Hid (_ ∧ _ ∧ _ ∧ _ ∧ _) := ⟨K7, B7, nb, S0, eJ⟩
      clear K7 B7 nb b7 HC hi7 c4 eo eKB S0
      rw [← HD.out.2.2.2.2]
      clear eJ
      go_wp2_with (fail)
      go_region_held3 (fun w' => w'.cell? ⟨g4, j, none⟩ = some (.slice (some ⟨wr.heap.size, 0, none⟩) 1 1))
        (first
          | exact HD.out.2.2.2.1
          | with_reducible assumption
          | go_keep)
        (first
          | (go_at_call 12; refine (HD.out.2.2.1 _).mono ?_; rintro e w2 ⟨rfl, rfl⟩))
      all_goals
        have pw := pow_w KB kb32
        have hne := xor_ne G _ HR.out.2.2.2.2.2.2.2.1.1 HR.out.2.2.2.2.2.2.2.1.2 pw.1 pw.2
        clear pw
        generalize bits .xor .u32 G (IntKind.u32.wrap (2 ^ min (IntKind.u64.wrap (KB : Int)).toNat 32)) = NG at *
        have K8 := HD.out.1.got NG HR.out.2.2.1 HR.out.2.2.2.1 HR.out.2.2.2.2.1
        rw [HR.out.2.2.2.2.2.2.2.2.1] at K8
        have K9 := K8.below ((Below.refl _ _).drew)
        have B9 := (HD.out.2.1.setCell (p := ⟨wr.heap.size, 4, none⟩) hsz (.int .u32 NG)).drew
        have HE : Hid (_ ∧ _ ∧ _) := ⟨K9, B9, hne⟩
        clear K8 K9 B9 hne hl c4' f4 gl7 gh7
        generalize (w7.setCell ⟨wr.heap.size, 4, none⟩ (.int .u32 NG)).drew = w8 at *
        go_wp2_with (fail)
        refine (bytesOf_nil w8).mono ?_
        rintro e wA ⟨⟨cb2, rfl, _, hF⟩, bA⟩
        have BA := HE.out.2.1.trans (bA.mono HE.out.2.1.size)
        have KA := HE.out.1.below bA
        have SA := HR.out.2.2.2.2.2.2.2.2.2.below BA
        have ok := KA.chk_val (fun e => HE.out.2.2 (e.trans HR.out.2.2.2.2.2.2.1)) (by omega) HR.out.2.2.2.2.2.1 cap4 cap5 cb2 A hF SA
        rw [← HD.out.2.2.2.2] at ok
        have HC : Hid (Calls _ _ _ _ _ ∧ _ ∧ _) := ⟨ok, BA, SA⟩
        clear ok BA SA KA bA hF HE
        generalize fvZ cb2 = FV2 at *
        go_wp2_with (fail)
        refine HC.out.1.mono ?_
        rintro e wB ⟨⟨q, rfl, hq⟩, bB⟩
        have BB := HC.out.2.1.trans (bB.mono HC.out.2.1.size)
        have SB := HC.out.2.2.below bB
        have pl : ∀ w, Calls Tryd.prog 16 #[.int .i64 111, .int .i64 (j : Int)] w _ := fun w => placed_any 10 (j : Int) w
        have HP : Hid (_ ∧ _ ∧ _ ∧ _) := ⟨pl, hq, BB, SB⟩
        clear pl hq BB SB bB HC
        go_wp2_with (fail)
        refine (HP.out.1 _).mono ?_
        rintro e wC ⟨rfl, bC, hcC, hlC⟩
        have hqC := (bC.block q (Array.getElem?_eq_some_iff.1 HP.out.2.1).1).trans HP.out.2.1
        have sm := same_at A 10 (by decide) q (wB.heap.size + 1) (j : Int) wC (HP.out.2.2.2.below bC) hqC hcC
        have HS2 : Hid (Calls _ _ _ _ _ ∧ _) := ⟨sm, HP.out.2.2.1.trans (bC.mono HP.out.2.2.1.size)⟩
        clear sm hqC hcC hlC bC HP
        go_wp2_with (fail)
        refine HS2.out.1.mono ?_
        rintro e wD ⟨rfl, bD⟩
        have BD := HS2.out.2.trans (bD.mono HS2.out.2.size)
        clear bD HS2
        go_wp2
        go_ret
        exact ⟨rfl, BD⟩
end Go.Proofs.YtahdclmgolpjfaaDoor
