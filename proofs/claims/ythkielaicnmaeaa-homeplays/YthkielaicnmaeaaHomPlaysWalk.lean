/- HomePlays: the walk. -/
import Derived.Test.YthkielaicnmaeaaHomZ
import Derived.Test.YthkielaicnmaeaaHomPutsWalk
import Derived.Deep.CutRange
import Derived.Deep.CutBlock
namespace Go.Proofs.Ythkielaicnmaeaa
open Go.ChangeShapes Go.WideShapes Go.ChangeAt Go.RowKit
set_option linter.unusedVariables false
set_option linter.unusedSimpArgs false
attribute [local go_sem ↓] ldM_eq stM_eq bdM_eq bsM_eq
variable {n0 hb db : Nat} {s s' : W.Hm} {d d' : W.Dm} {w w' w'' w0 : World}
theorem number_eq (n m : Int) (m0 : 0 < m) (m1 : m < 2147483648) : (wrap64 (n.tmod m + m)).tmod m = n % m := by
  have h0 := Int.emod_nonneg n (by omega : m ≠ 0)
  have h1 := Int.emod_lt_of_pos n m0
  have ht : n.tmod m = n % m ∨ n.tmod m = n % m - m := by
    rw [Int.tmod_eq_emod]
    split
    · left; omega
    · right; omega
  have hw : wrap64 (n.tmod m + m) = n.tmod m + m := by
    unfold wrap64
    omega
  rw [hw]
  rcases ht with h | h
  · rw [h, Int.tmod_eq_emod_of_nonneg (by omega), Int.add_emod_right, Int.emod_emod]
  · rw [h, Int.sub_add_cancel, Int.tmod_eq_emod_of_nonneg h0, Int.emod_emod]
theorem number_any (n m : Int) (n0 : -9223372036854775808 ≤ n) (n1 : n ≤ 9223372036854775807) (m0 : 0 < m) (m1 : m < 2147483648) (w : World) : Calls Try.prog 8 #[.int .i64 n, .int .i64 m] w fun z w' => z = .returned (.int .i64 (n % m)) ∧ w = w' := by
  have hm : ¬ m = 0 := by omega
  go_enter Try.func8, Try.ntmps8
  go_wp2
  go_ret
  refine ⟨ret_int (number_eq n m m0 m1), rfl⟩

set_option maxRecDepth 10000 in
set_option maxHeartbeats 1600000 in
theorem plays_long (ln hs x0 x1 x2 x3 : Int) (a : Option Addr) (n c : Nat) (hn : 80 < n) (hn2 : n ≤ maxLen) (h0 : -9223372036854775808 ≤ hs) (h1 : hs ≤ 9223372036854775807) (w : World) :
    Calls Try.prog 3 #[.int .i64 ln, .int .i64 hs, .agg #[.int .u32 x0, .int .u32 x1, .int .u32 x2, .int .u32 x3], .slice a n c] w fun e w' => e = .returned (.bool true) ∧ Below w.heap.size w w' := by
  have hb1 := below_alloc w (.cells #[.int .u32 x0, .int .u32 x1, .int .u32 x2, .int .u32 x3] 24)
  have HB : Hid (_) := hb1
  have hgt : (80 : Int) < n := by omega
  clear hb1
  go_enter Try.func3, Try.ntmps3
  go_wp2_with (fail)
  generalize World.alloc w _ = W1 at *
  refine (first18_any W1).mono ?_
  rintro e w1 ⟨rfl, hb1⟩
  have HB1 : Hid (_) := HB.out.trans (hb1.mono HB.out.size)
  clear hb1
  go_wp2_with (fail)
  refine (number_any hs 4 h0 h1 (by decide) (by decide) w1).mono ?_
  rintro e w2 ⟨rfl, rfl⟩
  go_wp2
  go_ret
  exact ⟨rfl, HB1.out⟩

set_option maxRecDepth 10000 in
set_option maxHeartbeats 3200000 in
theorem plays_small (ln hs x0 x1 x2 x3 : Int) (sl : W.Sl) (q : Nat → W.Mg) (hn : sl.n ≤ 80) (h0 : -9223372036854775808 ≤ hs) (h1 : hs ≤ 9223372036854775807) (hq : ∀ j, j < sl.n → -9223372036854775808 ≤ (q j).k ∧ (q j).k ≤ 9223372036854775807) (w : World) (hO : 0 < sl.n → ∃ b o, sl.a = some ⟨b, o, none⟩ ∧ b < w.heap.size ∧ ∀ j, j < sl.n → w.rangeAt b (o + j * 11) (mgL (q j))) :
    Calls Try.prog 3 #[.int .i64 ln, .int .i64 hs, .agg #[.int .u32 x0, .int .u32 x1, .int .u32 x2, .int .u32 x3], slV sl] w fun e w' => e = .returned (.bool true) ∧ Below w.heap.size w w' := by
  obtain ⟨a, N, c⟩ := sl
  dsimp only at hn hq hO
  unfold slV
  dsimp only
  have hb1 := below_alloc w (.cells #[.int .u32 x0, .int .u32 x1, .int .u32 x2, .int .u32 x3] 24)
  have la := lnAt_new w x0 x1 x2 x3
  have HB : Hid (_ ∧ _) := ⟨la, hb1⟩
  have HO : Hid (_) := hO
  have HQ : Hid (_) := hq
  have hle : (N : Int) ≤ 80 := by omega
  have HNs : Hid (N ≤ 80) := hn
  clear hb1 la hO hq
  go_enter Try.func3, Try.ntmps3
  go_wp2_with (fail)
  generalize World.alloc w _ = W1 at *
  refine (first18_any W1).mono ?_
  rintro e w1 ⟨rfl, hb1⟩
  have HB1 : Hid (LnAt w.heap.size x0 x1 x2 x3 w1 ∧ Below w.heap.size w w1) := ⟨HB.out.1.below hb1, HB.out.2.trans (hb1.mono HB.out.2.size)⟩
  clear hb1 HB
  go_wp2_with (fail)
  refine (number_any hs 4 h0 h1 (by decide) (by decide) w1).mono ?_
  rintro e w2 ⟨rfl, rfl⟩
  have hm1 : 0 ≤ hs % 4 := by omega
  have hm2 : hs % 4 < 4 := by omega
  clear h0 h1
  generalize hs % 4 = H4 at *
  have q0 := HB1.out.1.c0
  have q1 := HB1.out.1.c1
  have q2 := HB1.out.1.c2
  have q3 := HB1.out.1.c3
  go_wp2_with (fail)
  refine (new_any ln (H4 + 1) x0 x1 x2 x3 w1).mono ?_
  rintro e w3 ⟨rfl, hH, hb3⟩
  have l3 := HB1.out.1.below hb3
  have HH : Hid (_ ∧ _) := ⟨hH, hb3⟩
  clear q0 q1 q2 q3 hH hb3
  have q0 := l3.c0
  have q1 := l3.c1
  have q2 := l3.c2
  have q3 := l3.c3
  clear l3
  go_wp2_with (fail)
  refine (rnew_any ln (H4 + 1) x0 x1 x2 x3 w3).mono ?_
  rintro e w4 ⟨rfl, hD, hb4⟩
  have HP : Hid (Pw w1.heap.size (w1.heap.size + 1) (w3.heap.size + 1) (W.hm0 ln (H4 + 1) x0 x1 x2 x3) (W.dm0 ln (H4 + 1) x0 x1 x2 x3) (fun _ => False) w1 w4) := pw_new ln (H4 + 1) x0 x1 x2 x3 w1 w3 w4 HH.out.1 HH.out.2 hD hb4
  have HK0 : Hid (W.Hok (W.hm0 ln (H4 + 1) x0 x1 x2 x3)) := W.Hok.new ln (H4 + 1) x0 x1 x2 x3 (by omega) (by omega)
  have HE : Hid (w.heap.size ≤ w1.heap.size ∧ Below w.heap.size w w1) := ⟨HB1.out.2.size, HB1.out.2⟩
  clear q0 q1 q2 q3 hD hb4 HH HB1 hm1 hm2
  generalize w1.heap.size + 1 = hb at *
  generalize w3.heap.size + 1 = db at *
  go_wp2_with (fail)
  go_loopw [12] (fun i wr => ∃ (j : Nat) (s : W.Hm) (d : W.Dm), j ≤ N ∧ i = .int .i64 j ∧ Pw w1.heap.size hb db s d (fun _ => False) w1 wr ∧ W.Hok s ∧ W.Rl s d) (fun i _ => N - (intOf i).toNat)
  case atStart => exact ⟨0, _, _, by omega, rfl, HP.out, HK0.out, W.Rl.new ln (H4 + 1) x0 x1 x2 x3⟩
  case round =>
    obtain ⟨j, s, d, hj, rfl, hP, hK, hR⟩ := hrel
    have HR : Hid (Pw w1.heap.size hb db s d (fun _ => False) w1 wr ∧ W.Hok s ∧ W.Rl s d) := ⟨hP, hK, hR⟩
    clear hP hK hR HP HK0
    by_cases hlt : j < N
    · have hjn : (j : Int) < N := by omega
      have hj0 : (0 : Int) ≤ j := by omega
      obtain ⟨b, o, rfl, hbl, hc⟩ := HO.out (by omega)
      have HLD : Hid (∀ w', Below w1.heap.size w1 w' → (ldM ⟨b, o + j * 11, none⟩).run Try.prog w' = .ok (mgV (q j)) w') := fun w' hb' => ldM_at (range_below (hc j hlt) (HE.out.2.trans (hb'.mono HE.out.1)) hbl)
      have HM : Hid (_) := HQ.out j hlt
      clear hc hbl
      generalize q j = m at *
      -- the copy
      go_wp2_with (fail)
      refine (HR.out.1.clone HR.out.2.1).mono ?_
      rintro e w5 ⟨cb, rfl, hc6, hP5, hb5⟩
      have HR5 : Hid (Pw w1.heap.size hb db s d (fun b => False ∨ b = cb) w1 w5 ∧ w5.cell? ⟨cb, 6, none⟩ = some (.int .i64 s.ow)) := ⟨hP5, hc6⟩
      clear hc6 hP5 hb5
      have hl5 := HLD.out w5 HR5.out.1.b
      go_wp2_with (fail)
      refine (HR5.out.1.takes HR.out.2.1 m HM.out).mono ?_
      rintro e w6 ⟨rfl, hb6⟩
      have HR6 : Hid (Pw w1.heap.size hb db s d (fun b => False ∨ b = cb) w1 w6 ∧ w6.cell? ⟨cb, 6, none⟩ = some (.int .i64 s.ow)) := ⟨HR5.out.1.below hb6, (hb6.cell (p := ⟨cb, 6, none⟩) (World.block_lt_of_cell? _ _ HR5.out.2)).trans HR5.out.2⟩
      clear hb6 hl5 HR5
      have hl6 := HLD.out w6 HR6.out.1.b
      generalize hTK : W.tk s m = tkv at *
      have HTK : Hid (W.tk s m = tkv) := hTK
      clear hTK
      have hne : (tkv != tkv) = false := by cases tkv <;> rfl
      go_wp2_with (fail)
      have HCq := HR6.out.1.rtakes HR.out.2.1 HR.out.2.2.r m HM.out
      rw [HTK.out] at HCq
      refine HCq.mono ?_
      rintro e w7 ⟨rfl, hb7⟩
      have HR7 : Hid (Pw w1.heap.size hb db s d (fun b => False ∨ b = cb) w1 w7 ∧ w7.cell? ⟨cb, 6, none⟩ = some (.int .i64 s.ow)) := ⟨HR6.out.1.below hb7, (hb7.cell (p := ⟨cb, 6, none⟩) (World.block_lt_of_cell? _ _ HR6.out.2)).trans HR6.out.2⟩
      clear hb7 hl6 HR6 HCq
      have hl7 := HLD.out w7 HR7.out.1.b
      go_wp2_with (fail)
      refine HR7.out.1.owner.mono ?_
      rintro e w8 ⟨rfl, rfl⟩
      dsimp only
      go_wp2_with (fail)
      refine (HR7.out.1.take HR.out.2.1 m HM.out).mono ?_
      rintro e w8 ⟨sl, rfl, hms, hP8, hk8⟩
      have HR8 : Hid (Pw w1.heap.size hb db (W.take s m).1 d (fun b => (False ∨ b = cb) ∨ 0 < sl.n ∧ ∃ o, sl.a = some ⟨b, o, none⟩) w1 w8 ∧ w8.cell? ⟨cb, 6, none⟩ = some (.int .i64 s.ow) ∧ Ms sl (W.take s m).2 w8) := ⟨hP8, (World.cell?_of_block (a := ⟨cb, 6, none⟩) (hk8 cb (Or.inr rfl))).trans HR7.out.2, hms⟩
      clear hms hP8 hk8 hl7 HR7
      have hl8 := HLD.out w8 HR8.out.1.b
      cases tkv
      · have hT : W.take s m = (s, []) := by unfold W.take; rw [if_pos HTK.out]
        obtain ⟨s1, hs1⟩ : ∃ s1, s1 = (W.take s m).1 := ⟨_, rfl⟩
        obtain ⟨d1, hd1⟩ : ∃ d1, d1 = d := ⟨_, rfl⟩
        have HX : Hid (Ms sl (W.take s m).2 w8 ∧ Ms ⟨none, 0, 0⟩ (W.take s m).2 w8 ∧ Pw w1.heap.size hb db s1 d1 (fun b => b = cb) w1 w8 ∧ w8.cell? ⟨cb, 6, none⟩ = some (.int .i64 s.ow) ∧ W.Hok s1 ∧ W.Rl s1 d1) := ⟨HR8.out.2.2, by rw [hT]; exact ms_nil _, by rw [hs1, hd1]; exact HR8.out.1.sub (fun b h => Or.inl (Or.inr h)), HR8.out.2.1, by rw [hs1, hT]; exact HR.out.2.1, by rw [hs1, hT, hd1]; exact HR.out.2.2⟩
        clear hT hs1 hd1 HR8 HTK
        unfold slV
        dsimp only
        go_wp2_with (fail)
        refine (samemsgs_self _ _ _ w8 HX.out.1 HX.out.2.1).mono ?_
        rintro e w10 ⟨rfl, hb10⟩
        have HY : Hid (Pw w1.heap.size hb db s1 d1 (fun b => b = cb) w1 w10 ∧ w10.cell? ⟨cb, 6, none⟩ = some (.int .i64 s.ow)) := ⟨HX.out.2.2.1.below hb10, (hb10.cell (p := ⟨cb, 6, none⟩) (World.block_lt_of_cell? _ _ HX.out.2.2.2.1)).trans HX.out.2.2.2.1⟩
        have HKR : Hid (W.Hok s1 ∧ W.Rl s1 d1) := ⟨HX.out.2.2.2.2.1, HX.out.2.2.2.2.2⟩
        clear hb10 HX
        go_wp2_with (fail)
        refine (ownerc_any HY.out.2).mono ?_
        rintro e w11 ⟨rfl, rfl⟩
        have e0 : (s.ow != s.ow) = false := by simp
        dsimp only
        go_wp2_with (fail)
        clear e0
        obtain ⟨s2, hrd, hL2⟩ := HY.out.1.rd HKR.out.1 HKR.out.2.r
        have HRD : Hid (_) := hrd
        have HL2 : Hid (∀ w', Below w10.heap.size w10 w' → Li s2 s1.sh w') := hL2
        clear hrd hL2
        have hbz : ((s1.sv != -1) != (s1.sv != -1)) = false := by cases (s1.sv != -1) <;> rfl
        have HBu : Hid (∀ w', Below w10.heap.size w10 w' → Calls Try.prog 18 #[.pointer (some ⟨hb, 0, none⟩)] w' fun e w'' => e = .returned (.bool (s1.sv != -1)) ∧ w' = w'') := fun w' hb' => (HY.out.1.below hb').busy
        generalize (s1.sv != -1) = bz at *
        have ho0 : (s1.ow != s1.ow) = false := by simp
        have hbd : Below w10.heap.size w10 w10.drew := (Below.refl _ _).drew
        go_region_held3 (fun w' => w'.cell? ⟨db, 8, none⟩ = some (.bool bz) ∧ w'.cell? ⟨db, 6, none⟩ = some (.int .i64 s1.ow) ∧ w'.cell? ⟨db, 7, none⟩ = some (slV s2) ∧ w'.cell? ⟨db, 2, none⟩ = some (.int .u32 s1.e0) ∧ w'.cell? ⟨db, 3, none⟩ = some (.int .u32 s1.e1) ∧ w'.cell? ⟨db, 4, none⟩ = some (.int .u32 s1.e2) ∧ w'.cell? ⟨db, 5, none⟩ = some (.int .u32 s1.e3))
          (first
            | exact HRD.out _ hbd
            | exact HRD.out _ hbC2
            | exact HRD.out _ hbD2
            | exact HRD.out _ hbE2
            | exact HRD.out _ hbF2)
          (first
            | (go_at_call 18; refine (HBu.out _ hbd).mono ?_; rintro e wA ⟨rfl, rfl⟩)
            | (go_at_call 14; refine (HY.out.1.below hbd).owner.mono ?_; rintro e wB ⟨rfl, rfl⟩)
            | (go_at_call 20; refine ((HY.out.1.below hbd).sharers HKR.out.1).mono ?_; rintro e wC ⟨⟨t, rfl, hoC⟩, hbC⟩; have hbC2 := hbd.trans hbC; obtain ⟨sC, hsC, hLC⟩ := hoC.li (Nat.le_trans HKR.out.1.lens (by decide)); subst hsC)
            | (go_at_call 19; refine (sameints_self sC s2 s1.sh wC hLC (HL2.out wC hbC2)).mono ?_; rintro e wD ⟨rfl, hbD⟩; have hbD2 := hbC2.trans (hbD.mono hbC2.size))
            | (go_at_call 22; refine (HY.out.1.below hbD2).data.mono ?_; rintro e wE ⟨rfl, hbE⟩; have hbE2 := hbD2.trans (hbE.mono hbD2.size))
            | (go_at_call 21; refine (sameline_self s1.e0 s1.e1 s1.e2 s1.e3 _).mono ?_; rintro e wF ⟨rfl, hbF⟩; have hbF2 := hbE2.trans (hbF.mono hbE2.size)))
        all_goals
          have HF : Hid (Pw w1.heap.size hb db s1 d1 (fun _ => False) w1 wF) := (HY.out.1.below hbF2).sub (fun b h => h.elim)
          clear hbC hbC2 hbD hbD2 hbE hbE2 hbF hbF2 hoC hLC HBu HL2 HRD HY hbd
          go_wp2
          go_roundw
          case rel => exact ⟨j + 1, s1, d1, by omega, by go_num, HF.out, HKR.out.1, HKR.out.2⟩
          case measure => simp [intOf]; omega
      · have hT := HR.out.2.2.take HR.out.2.1 m HTK.out
        have hkk : m.k = 1 ∨ m.k = 2 ∨ m.k = 3 ∨ m.k = 10 ∨ m.k = 11 ∨ m.k = 12 := W.tk_kind HTK.out
        have HRT : Hid (Calls _ _ _ _ _) := HR8.out.1.rtake HR.out.2.1 HR.out.2.2.r m hkk
        have HTT : Hid (_ ∧ _) := hT
        clear hT hkk
        unfold slV
        dsimp only
        go_wp2_with (fail)
        refine HRT.out.mono ?_
        rintro e w9 ⟨sl2, rfl, hms2, hP9, hk9, hz9⟩
        obtain ⟨s1, hs1⟩ : ∃ s1, s1 = (W.take s m).1 := ⟨_, rfl⟩
        obtain ⟨d1, hd1⟩ : ∃ d1, d1 = (W.dtake d m).1 := ⟨_, rfl⟩
        have HX : Hid (Ms sl (W.take s m).2 w9 ∧ Ms sl2 (W.take s m).2 w9 ∧ Pw w1.heap.size hb db s1 d1 (fun b => b = cb) w1 w9 ∧ w9.cell? ⟨cb, 6, none⟩ = some (.int .i64 s.ow) ∧ W.Hok s1 ∧ W.Rl s1 d1) := ⟨HR8.out.2.2.keep hz9 (fun h0 b o e => hk9 b (Or.inr ⟨h0, o, e⟩)), by rw [← HTT.out.2]; exact hms2, by rw [hs1, hd1]; exact hP9.sub (fun b h => Or.inl (Or.inr h)), (World.cell?_of_block (a := ⟨cb, 6, none⟩) (hk9 cb (Or.inl (Or.inr rfl)))).trans HR8.out.2.1, by rw [hs1]; exact HR.out.2.1.take m, by rw [hs1, hd1]; exact HTT.out.1⟩
        clear hms2 hP9 hk9 hz9 hs1 hd1 HR8 HTK HTT HRT hl8
        unfold slV
        dsimp only
        go_wp2_with (fail)
        refine (samemsgs_self _ _ _ w9 HX.out.1 HX.out.2.1).mono ?_
        rintro e w10 ⟨rfl, hb10⟩
        have HY : Hid (Pw w1.heap.size hb db s1 d1 (fun b => b = cb) w1 w10 ∧ w10.cell? ⟨cb, 6, none⟩ = some (.int .i64 s.ow)) := ⟨HX.out.2.2.1.below hb10, (hb10.cell (p := ⟨cb, 6, none⟩) (World.block_lt_of_cell? _ _ HX.out.2.2.2.1)).trans HX.out.2.2.2.1⟩
        have HKR : Hid (W.Hok s1 ∧ W.Rl s1 d1) := ⟨HX.out.2.2.2.2.1, HX.out.2.2.2.2.2⟩
        clear hb10 HX
        go_wp2_with (fail)
        refine (ownerc_any HY.out.2).mono ?_
        rintro e w11 ⟨rfl, rfl⟩
        have e0 : (s.ow != s.ow) = false := by simp
        dsimp only
        go_wp2_with (fail)
        clear e0
        obtain ⟨s2, hrd, hL2⟩ := HY.out.1.rd HKR.out.1 HKR.out.2.r
        have HRD : Hid (_) := hrd
        have HL2 : Hid (∀ w', Below w10.heap.size w10 w' → Li s2 s1.sh w') := hL2
        clear hrd hL2
        have hbz : ((s1.sv != -1) != (s1.sv != -1)) = false := by cases (s1.sv != -1) <;> rfl
        have HBu : Hid (∀ w', Below w10.heap.size w10 w' → Calls Try.prog 18 #[.pointer (some ⟨hb, 0, none⟩)] w' fun e w'' => e = .returned (.bool (s1.sv != -1)) ∧ w' = w'') := fun w' hb' => (HY.out.1.below hb').busy
        generalize (s1.sv != -1) = bz at *
        have ho0 : (s1.ow != s1.ow) = false := by simp
        have hbd : Below w10.heap.size w10 w10.drew := (Below.refl _ _).drew
        go_region_held3 (fun w' => w'.cell? ⟨db, 8, none⟩ = some (.bool bz) ∧ w'.cell? ⟨db, 6, none⟩ = some (.int .i64 s1.ow) ∧ w'.cell? ⟨db, 7, none⟩ = some (slV s2) ∧ w'.cell? ⟨db, 2, none⟩ = some (.int .u32 s1.e0) ∧ w'.cell? ⟨db, 3, none⟩ = some (.int .u32 s1.e1) ∧ w'.cell? ⟨db, 4, none⟩ = some (.int .u32 s1.e2) ∧ w'.cell? ⟨db, 5, none⟩ = some (.int .u32 s1.e3))
          (first
            | exact HRD.out _ hbd
            | exact HRD.out _ hbC2
            | exact HRD.out _ hbD2
            | exact HRD.out _ hbE2
            | exact HRD.out _ hbF2)
          (first
            | (go_at_call 18; refine (HBu.out _ hbd).mono ?_; rintro e wA ⟨rfl, rfl⟩)
            | (go_at_call 14; refine (HY.out.1.below hbd).owner.mono ?_; rintro e wB ⟨rfl, rfl⟩)
            | (go_at_call 20; refine ((HY.out.1.below hbd).sharers HKR.out.1).mono ?_; rintro e wC ⟨⟨t, rfl, hoC⟩, hbC⟩; have hbC2 := hbd.trans hbC; obtain ⟨sC, hsC, hLC⟩ := hoC.li (Nat.le_trans HKR.out.1.lens (by decide)); subst hsC)
            | (go_at_call 19; refine (sameints_self sC s2 s1.sh wC hLC (HL2.out wC hbC2)).mono ?_; rintro e wD ⟨rfl, hbD⟩; have hbD2 := hbC2.trans (hbD.mono hbC2.size))
            | (go_at_call 22; refine (HY.out.1.below hbD2).data.mono ?_; rintro e wE ⟨rfl, hbE⟩; have hbE2 := hbD2.trans (hbE.mono hbD2.size))
            | (go_at_call 21; refine (sameline_self s1.e0 s1.e1 s1.e2 s1.e3 _).mono ?_; rintro e wF ⟨rfl, hbF⟩; have hbF2 := hbE2.trans (hbF.mono hbE2.size)))
        all_goals
          have HF : Hid (Pw w1.heap.size hb db s1 d1 (fun _ => False) w1 wF) := (HY.out.1.below hbF2).sub (fun b h => h.elim)
          clear hbC hbC2 hbD hbD2 hbE hbE2 hbF hbF2 hoC hLC HBu HL2 HRD HY hbd
          go_wp2
          go_roundw
          case rel => exact ⟨j + 1, s1, d1, by omega, by go_num, HF.out, HKR.out.1, HKR.out.2⟩
          case measure => simp [intOf]; omega
    · go_wp2
      go_ret
      exact ⟨rfl, HE.out.2.trans (HR.out.1.b.mono HE.out.1)⟩
end Go.Proofs.Ythkielaicnmaeaa
