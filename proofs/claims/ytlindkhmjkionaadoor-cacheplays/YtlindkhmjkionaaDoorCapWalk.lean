/- CachePlays: the walk. -/
import Derived.Test.YtlindkhmjkionaaDoorCapC
import Derived.Deep.RegionHeld3
import Derived.Deep.CutRange
import Derived.Deep.CutBlock
namespace Go.Proofs.YtlindkhmjkionaaDoor
open Go.ChangeShapes Go.WideShapes Go.ChangeAt Go.RowKit
set_option linter.unusedVariables false
set_option linter.unusedSimpArgs false
variable {cb sb db tb K : Nat} {ways : Int} {S S' T T' : Nat → List W.En} {w w' w'' : World}
attribute [local go_sem ↓] ldE_eq stE_eq bdE_eq bsE_eq ldX_eq stX_eq bdX_eq bsX_eq ldO_eq stO_eq ldL_eq
abbrev z8 : Array Value := #[.int .i64 0, .int .i64 0, .int .i64 0, .int .i64 0, .int .u32 0, .int .u32 0, .int .u32 0, .int .u32 0]
set_option maxRecDepth 10000 in
set_option maxHeartbeats 1600000 in
theorem plays_small (A : Nat → Addr) (sets ways ask : Int) (sl : W.Sl) (q : Nat → W.Do) (sn : W.Sl) (ns : List Int) (h1 : sl.n ≤ 60) (w : World) (hO : 0 < sl.n → ∃ b o, sl.a = some ⟨b, o, none⟩ ∧ b < w.heap.size ∧ ∀ j, j < sl.n → w.rangeAt b (o + j * 8) (doL (q j))) (hNs : Li sn ns w) (hn20 : sn.n ≤ 20) (hS : Sent A w) :
    Calls Tryd.prog 3 #[.int .i64 sets, .int .i64 ways, slV sl, .int .i64 ask, slV sn] w fun e w' => e = .returned (.bool true) ∧ Below w.heap.size w w' := by
  obtain ⟨a1, M, c1⟩ := sl
  obtain ⟨a2, N, c2⟩ := sn
  dsimp only at h1 hO hn20
  unfold slV
  have g1 : (M : Int) ≤ 60 := by omega
  have g2 : (N : Int) ≤ 20 := by omega
  have HS : Hid (Sent A w) := hS
  have HO : Hid (_) := hO
  have HN : Hid (Li ⟨a2, N, c2⟩ ns w) := hNs
  clear hO hS hNs
  go_enter Tryd.func3, Tryd.ntmps3
  go_wp2_with (fail)
  refine (first17_any A w HS.out).mono ?_
  rintro e w1 ⟨rfl, hb1⟩
  have HB1 : Hid (Below w.heap.size w w1) := hb1
  clear hb1
  go_wp2_with (fail)
  rcases W.nok_or sets ways with hbad | ⟨K, rfl, hK, y1, y8⟩
  · refine (new_bad A sets ways hbad w1 (HS.out.below HB1.out)).mono ?_
    rintro e w2 ⟨rfl, hb2⟩
    have HB2 : Hid (Below w.heap.size w w2) := HB1.out.trans (hb2.mono HB1.out.size)
    clear hb2
    go_wp2_with (fail)
    refine (rnew_bad sets ways hbad w2).mono ?_
    rintro e w3 ⟨rfl, rfl⟩
    go_wp2_with (fail)
    refine (pz_is A (HS.out.below HB2.out) 1 (by decide)).mono ?_
    rintro e w3 ⟨rfl, hb3⟩
    have HB3 : Hid (Below w.heap.size w w3) := HB2.out.trans (hb3.mono HB2.out.size)
    clear hb3
    go_wp2
    go_ret
    exact ⟨rfl, HB3.out⟩
  · have hI : W.In K ways nilS := W.in_nil K ways (by omega) (by omega) y1 y8
    refine (new_ok K hK ways y1 y8 w1).mono ?_
    rintro e w2 ⟨rfl, hC, hb2⟩
    have HC : Hid (_ ∧ _) := ⟨hC, hb2⟩
    clear hC hb2
    go_wp2_with (fail)
    refine (rnew_ok K hK ways y1 y8 w2).mono ?_
    rintro e w3 ⟨rfl, hD, hb3⟩
    have hP := pz_new hI HC.out.1 HC.out.2 hD hb3
    clear hD hb3 HC hI
    have HP : Hid (_) := hP
    have kk : (1 : Int) ≤ K ∧ (K : Int) ≤ 64 := by omega
    obtain ⟨k1, k64⟩ := kk
    clear hP hK
    generalize w2.heap.size + 1 = db at *
    generalize w2.heap.size = tb at *
    generalize w1.heap.size + 1 = cb at *
    generalize w1.heap.size = sb at *
    go_wp2_with (fail)
    go_loopw [15] (fun i wr => ∃ (j : Nat) (S : Nat → List W.En), j ≤ M ∧ i = .int .i64 j ∧ Pz w1 cb sb db tb K ways S S wr) (fun i _ => M - (intOf i).toNat)
    case atStart => exact ⟨0, nilS, by omega, rfl, HP.out⟩
    case round =>
      obtain ⟨i, S, hi, rfl, hP⟩ := hrel
      clear HP
      have HP : Hid (Pz w1 cb sb db tb K ways S S wr) := hP
      clear hP
      by_cases hlt : i < M
      · have hiM : (i : Int) < M := by omega
        obtain ⟨b, o, rfl, hbl, hc⟩ := HO.out (by omega)
        have hw1r : Below w.heap.size w wr := HB1.out.trans (HP.out.b.mono HB1.out.size)
        have hld := ldO_at (range_below (hc i hlt) hw1r hbl)
        generalize q i = d at *
        have hst := stO_new wr d z8 rfl
        have HD : Hid (_) := HP.out.new (.cells (doL d).toArray 39)
        obtain ⟨d0, d1, d2⟩ := HD.out.row
        clear hc hw1r
        go_upto_block 2 with fail
        have HS1 : Hid (Sent A w1) := HS.out.below HB1.out
        clear hst hld
        generalize World.alloc wr _ = W1 at *
        generalize wr.heap.size = dd at *
        go_cut [94] from 85 to 117 (fun _ wx => ∃ S', Pz w1 cb sb db tb K ways S' S' wx)
        case first =>
         cases k1 : (d.k == 1)
         case true =>
          clear d1
          go_wp2_with fail
          have hQ0 := HD.out.below (Below.refl _ _).drew
          obtain ⟨e0, e1, e2⟩ := hQ0.row
          go_region_held3 (fun w' => (ldE ⟨dd, 2, none⟩).run Tryd.prog w' = .ok (enV d.e) w')
            (first | assumption | go_keep)
            (first
              | (go_at_call 10; refine (pd_put A HS1.out hQ0 d.e).mono ?_; rintro e wB ⟨rfl, hQ1⟩; obtain ⟨p0, p1, p2⟩ := hQ1.row)
              | (go_at_call 12; refine (plain_any d.e _).mono ?_; rintro e wC ⟨rfl, hb2⟩; have hQ2 := hQ1.below hb2; obtain ⟨q0, q1, q2⟩ := hQ2.row)
              | (go_at_call 11; refine (pd_rput hQ2 d.e).mono ?_; rintro e wD ⟨rfl, hQ3⟩; obtain ⟨r0, r1, r2⟩ := hQ3.row)
              | (go_at_call 9; refine (pz_is A (HS1.out.below hQ3.b) _ (W.pt_le _ _ _ _)).mono ?_; rintro e wE ⟨rfl, hb4⟩; have hQ4 := hQ3.below hb4; obtain ⟨t0, t1, t2⟩ := hQ4.row))
          all_goals
            go_wp2
            go_meet
            case rel => exact ⟨_, hQ4.z⟩
         cases k2 : (d.k == 2)
         case true =>
          clear d2
          go_wp2_with fail
          have hQ0 := HD.out.below (Below.refl _ _).drew
          obtain ⟨e0, e1, e2⟩ := hQ0.row
          go_region_held3 (fun w' => w'.cell? ⟨dd, 1, none⟩ = some (.int .i64 d.n))
            (first | assumption | go_keep)
            (first
              | (go_at_call 13; refine (pd_use hQ0 d.n).mono ?_; rintro e wB ⟨rfl, hQ1⟩; obtain ⟨p0, p1, p2⟩ := hQ1.row)
              | (go_at_call 14; refine (pd_ruse hQ1 d.n).mono ?_; rintro e wC ⟨rfl, hQ2⟩; obtain ⟨q0, q1, q2⟩ := hQ2.row))
          all_goals
            go_wp2
            go_meet
            case rel => exact ⟨_, hQ2.z⟩
         case false =>
          clear d2
          go_wp2_with fail
          have hQ0 := HD.out.below (Below.refl _ _).drew
          obtain ⟨e0, e1, e2⟩ := hQ0.row
          go_region_held3 (fun w' => w'.cell? ⟨dd, 1, none⟩ = some (.int .i64 d.n))
            (first | assumption | go_keep)
            (first
              | (go_at_call 15; refine (pd_drop hQ0 d.n).mono ?_; rintro e wB ⟨rfl, hQ1⟩; obtain ⟨p0, p1, p2⟩ := hQ1.row)
              | (go_at_call 16; refine (pd_rdrop hQ1 d.n).mono ?_; rintro e wC ⟨rfl, hQ2⟩; obtain ⟨q0, q1, q2⟩ := hQ2.row))
          all_goals
            go_wp2
            go_meet
            case rel => exact ⟨_, hQ2.z⟩
        case rest =>
         obtain ⟨S1, hP1⟩ := hcut
         have HP1 : Hid (Pz w1 cb sb db tb K ways S1 S1 wc) := hP1
         clear hP1 HP HD hbl HO d0 d1 d2
         have HNc : Hid (∀ w', Below w1.heap.size w1 w' → Li ⟨a2, N, c2⟩ ns w') := fun w' hb => HN.out.below (HB1.out.trans (hb.mono HB1.out.size))
         have hF1 := fun w' (h : Pz w1 cb sb db tb K ways S1 S1 w') => pz_find h ask
         have hF2 := fun w' (h : Pz w1 cb sb db tb K ways S1 S1 w') => pz_rfind h ask
         have hF3 := fun w' (h : Pz w1 cb sb db tb K ways S1 S1 w') => pz_victim h ask ⟨a2, N, c2⟩ ns (HNc.out _ h.b)
         have hF4 := fun w' (h : Pz w1 cb sb db tb K ways S1 S1 w') => pz_rvictim h ask ⟨a2, N, c2⟩ ns (HNc.out _ h.b)
         unfold slV at hF3 hF4
         have hst : W.room K ways S1 ask = (if ask < 0 then false else decide (((S1 (W.ix K ask)).length : Int) < ways) || W.has (W.st K S1 ask) ask) := by
           unfold W.room W.st
           by_cases q : ask < 0
           · rw [if_pos q, if_pos q]
           · rw [if_neg q, if_neg q, if_neg q]
         have HRo : Hid (_) := hst
         clear hst
         generalize W.gt (W.st K S1 ask) ask = eF at *
         generalize W.has (W.st K S1 ask) ask = hs at *
         generalize (W.vic (W.st K S1 ask) ns).getD W.en0 = eV at *
         generalize (W.vic (W.st K S1 ask) ns).isSome = vs at *
         have HF1 : Hid (_) := hF1
         have HF2 : Hid (_) := hF2
         have HF3 : Hid (_) := hF3
         have HF4 : Hid (_) := hF4
         clear hF1 hF2 hF3 hF4
         have HSa : Hid (∀ e w, Calls Tryd.prog 21 #[enV e, enV e] w fun r w' => r = .returned (.bool true) ∧ Below w.heap.size w w') := same_any
         have hstE := fun w e => stE_new w e z6 rfl
         have hstX := fun w e => stX_new w e z6 rfl
         go_wp2_with (fail)
         refine (HF1.out _ HP1.out).mono ?_
         rintro e v1 ⟨rfl, hb1⟩
         have HZ1 : Hid (Pz w1 cb sb db tb K ways S1 S1 (v1.alloc (.cells (enL eF).toArray 37)) ∧ EnAt v1.heap.size eF (v1.alloc (.cells (enL eF).toArray 37))) := ⟨(HP1.out.below hb1).below (below_alloc _ _), enAt_new _ _⟩
         clear hb1 HP1
         go_wp2_with (fail)
         generalize World.alloc v1 _ = V1 at *
         generalize v1.heap.size = b1 at *
         refine (HF2.out _ HZ1.out.1).mono ?_
         rintro e v2 ⟨rfl, hb2⟩
         have HZ2 : Hid (Pz w1 cb sb db tb K ways S1 S1 (v2.alloc (.cells (enL eF).toArray 42)) ∧ EnAt b1 eF (v2.alloc (.cells (enL eF).toArray 42)) ∧ ExAt v2.heap.size eF (v2.alloc (.cells (enL eF).toArray 42))) := ⟨(HZ1.out.1.below hb2).below (below_alloc _ _), (HZ1.out.2.below hb2).below (below_alloc _ _), exAt_new _ _⟩
         clear hb2 HZ1
         go_wp2_with (fail)
         generalize World.alloc v2 _ = V2 at *
         generalize v2.heap.size = b2 at *
         refine (HF3.out _ HZ2.out.1).mono ?_
         rintro e v3 ⟨rfl, hb3⟩
         have HZ3 : Hid (Pz w1 cb sb db tb K ways S1 S1 (v3.alloc (.cells (enL eV).toArray 37)) ∧ EnAt b1 eF (v3.alloc (.cells (enL eV).toArray 37)) ∧ ExAt b2 eF (v3.alloc (.cells (enL eV).toArray 37)) ∧ EnAt v3.heap.size eV (v3.alloc (.cells (enL eV).toArray 37))) := ⟨(HZ2.out.1.below hb3).below (below_alloc _ _), (HZ2.out.2.1.below hb3).below (below_alloc _ _), (HZ2.out.2.2.below hb3).below (below_alloc _ _), enAt_new _ _⟩
         clear hb3 HZ2
         go_wp2_with (fail)
         generalize World.alloc v3 _ = V3 at *
         generalize v3.heap.size = b3 at *
         refine (HF4.out _ HZ3.out.1).mono ?_
         rintro e v4 ⟨rfl, hb4⟩
         have HZ4 : Hid (Pz w1 cb sb db tb K ways S1 S1 (v4.alloc (.cells (enL eV).toArray 42)) ∧ EnAt b1 eF (v4.alloc (.cells (enL eV).toArray 42)) ∧ ExAt b2 eF (v4.alloc (.cells (enL eV).toArray 42)) ∧ EnAt b3 eV (v4.alloc (.cells (enL eV).toArray 42)) ∧ ExAt v4.heap.size eV (v4.alloc (.cells (enL eV).toArray 42))) := ⟨(HZ3.out.1.below hb4).below (below_alloc _ _), (HZ3.out.2.1.below hb4).below (below_alloc _ _), (HZ3.out.2.2.1.below hb4).below (below_alloc _ _), (HZ3.out.2.2.2.below hb4).below (below_alloc _ _), exAt_new _ _⟩
         clear hb4 HZ3
         have m1 := HZ4.out.2.1.ld
         have m2 := HZ4.out.2.2.1.ld
         go_wp2_with (fail)
         generalize World.alloc v4 _ = V4 at *
         generalize v4.heap.size = b4 at *
         clear m1 m2
         refine (HSa.out eF _).mono ?_
         rintro e v5 ⟨rfl, hb5⟩
         have HZ5 : Hid (Pz w1 cb sb db tb K ways S1 S1 v5) := HZ4.out.1.below hb5
         have m1 := (HZ4.out.2.2.2.1.below hb5).ld
         have m2 := (HZ4.out.2.2.2.2.below hb5).ld
         clear hb5 HZ4
         go_wp2_with (fail)
         clear m1 m2
         refine (HSa.out eV _).mono ?_
         rintro e v6 ⟨rfl, hb6⟩
         have HZ6 : Hid (Pz w1 cb sb db tb K ways S1 S1 v6) := HZ5.out.below hb6
         clear hb6 HZ5
         obtain ⟨sv, dv, hC6, hD6, hX6⟩ := HZ6.out.c
         have HD6 : Hid (Dt w1.heap.size db tb K ways dv S1 v6) := hD6
         have HI : Hid (W.In K ways S1) := HZ6.out.s
         clear hC6 hD6 hX6
         obtain ⟨ti, hti, hzz⟩ := Option.map_eq_some_iff.1 infoI
         simp only [Prod.mk.injEq] at hzz
         obtain ⟨hz0, hz1, hz2⟩ := hzz
         go_wp2_with (fail)
         obtain ⟨B, hB⟩ : ∃ B, v6.heap.size = B := ⟨_, rfl⟩
         have HBB : Hid (v6.heap.size = B) := hB
         clear hB
         go_loopw [25, 26, 27] (fun v n s wr' => ∃ k : Nat, k ≤ K ∧ s = .int .i64 k ∧ n = .int .i64 (W.sm S1 k) ∧ On B v ((W.cat S1 k).map (·.l)) wr' ∧ Below B v6 wr') (fun _ _ s _ => K - (intOf s).toNat)
         case atStart => exact ⟨0, by omega, rfl, rfl, On.nil _ _, Below.refl _ _⟩
         case round =>
           obtain ⟨k, hk, rfl, rfl, hO, hb⟩ := hrel
           by_cases hkK : k < K
           · have hkK' : (k : Int) < K := by omega
             have HOn : Hid (_ ∧ _) := ⟨hO, hb⟩
             clear hO hb
             have hsm : Hid (W.sm S1 k ≤ 512) := Nat.le_trans (W.sm_mono S1 k K (by omega)) HI.out.sm_le
             have hln : Hid ((S1 k).length ≤ 8) := HI.out.len8 k hkK
             have hcat := W.cat_len S1 k
             have HCL : Hid (_) := hcat
             clear hcat
             go_wp2_with (fail)
             go_loopw [25, 26, 28] (fun v n j wr' => ∃ p : Nat, p ≤ (S1 k).length ∧ j = .int .i64 p ∧ n = .int .i64 ((W.sm S1 k + p : Nat) : Int) ∧ On B v ((W.cat S1 k ++ (S1 k).take p).map (·.l)) wr' ∧ Below B v6 wr') (fun _ _ j _ => (S1 k).length - (intOf j).toNat)
             case atStart => exact ⟨0, by omega, rfl, rfl, by simpa using HOn.out.1, HOn.out.2⟩
             case round =>
               obtain ⟨p, hp, rfl, rfl, hO, hb⟩ := hrel
               have hD := HD6.out.below (HBB.out.symm ▸ hb)
               have c2 := hD.c2
               have cs := hD.s.c k hkK
               obtain ⟨g, a, cap, hv, hcap, ha, hrd⟩ := hD.rw_ hkK
               rw [hv] at cs
               have HOn2 : Hid (_ ∧ _) := ⟨hO, hb⟩
               have hp512 := hsm.out
               have hp8 := hln.out
               have hT512 : ((W.cat S1 k ++ (S1 k).take p).map (·.l)).length = W.sm S1 k + p := by
                 rw [List.length_map, List.length_append, HCL.out, List.length_take]; omega
               by_cases hpn : p < (S1 k).length
               · have hpn' : (p : Int) < (S1 k).length := by omega
                 obtain ⟨rfl, hg⟩ := ha (by omega)
                 obtain ⟨f, hf⟩ : ∃ f, (S1 k)[p]? = some f := ⟨_, List.getElem?_eq_getElem hpn⟩
                 have ck : wr.cell? ⟨g, p * 6, none⟩ = some (.int .i64 f.l) := hrd p f hf 0 _ rfl
                 have htk : (W.cat S1 k ++ (S1 k).take (p + 1)).map (·.l) = (W.cat S1 k ++ (S1 k).take p).map (·.l) ++ [f.l] := by
                   rw [List.take_succ_eq_append_getElem hpn, show (S1 k)[p] = f from Option.some.inj ((List.getElem?_eq_getElem hpn).symm.trans hf), ← List.append_assoc, List.map_append]
                   rfl
                 have HTK : Hid (_) := htk
                 clear htk hf ha hrd hb
                 generalize (W.cat S1 k ++ (S1 k).take p).map (·.l) = Tl at *
                 obtain ⟨⟨a8, n8, c8⟩, hv8, hLi⟩ := hO.li (by omega)
                 change _ = Value.slice a8 n8 c8 at hv8
                 subst hv8
                 have hn8 : n8 = Tl.length := hLi.n
                 have hnc8 : n8 ≤ c8 := hLi.nc
                 have HN8 : Hid (n8 = Tl.length ∧ Tl.length = W.sm S1 k + p) := ⟨hn8, hT512⟩
                 have hn5 : n8 ≤ 520 := by omega
                 have hTl : Tl.length ≤ 520 := by omega
                 have hBw : B ≤ wr.heap.size := HBB.out ▸ HOn2.out.2.size
                 clear hn8 hLi hO hT512 hD
                 have hb7 := below_alloc wr (.cells #[.int .i64 f.l] 3)
                 have HN7 : Hid (_ ∧ _) := ⟨HOn2.out.1.below hb7, World.news_of_block (cs := #[Value.int .i64 f.l]) (heap_alloc_last wr (.cells #[.int .i64 f.l] 3))⟩
                 clear hb7
                 go_wp2_with (at_builtin; refine wpList_append_lies _ rfl _ _ 23 rfl B 3 ti (.int .i64 0) 1 8 Tryd.underlying23 hti hz0 hz1 hz2 rfl (by decide) (.slice a8 n8 c8) Tl.length (inX Tl) rfl HN7.out.1 ⟨wr.heap.size, 0, none⟩ 1 1 [.int .i64 f.l] rfl rfl HN7.out.2 (oneI [f.l]) (by decide) (by unfold maxLen; omega) (by omega) (by simp; omega) (wr.heap.size + 1) (by simp) ?_; intro g' cap' w8 hown8 hg8 hat8 hlt8)
                 have hO8 : On B (.slice (some ⟨g', 0, none⟩) (Tl.length + 1) cap') (Tl ++ [f.l]) w8 := by
                   show w8.ownsRow B 3 1 _ (Tl ++ [f.l]).length (inX (Tl ++ [f.l]))
                   rw [List.length_append, show inX (Tl ++ [f.l]) = inX Tl ++ [.int .i64 f.l] by simp [inX]]
                   exact hown8
                 have hG8 := gtrans (galloc wr (.cells #[.int .i64 f.l] 3) (Value.slice a8 n8 c8).ownBlock) hg8
                 have hB8 : Below B v6 w8 := HOn2.out.2.grown hG8 (HBB.out ▸ HOn2.out.2.size) (fun b' e' => (HOn2.out.1.own e').1)
                 rw [← HTK.out] at hO8
                 have HO8 : Hid (_ ∧ _) := ⟨hO8, hB8⟩
                 clear hO8 hB8 hG8 hown8 hg8 hat8 c2 cs ck
                 go_wp2
                 go_roundw
                 case rel => exact ⟨p + 1, by omega, by go_num, by go_num, HO8.out.1, HO8.out.2⟩
                 case measure => simp [intOf]; omega
               · have hpe : p = (S1 k).length := by omega
                 have hO9 := HOn2.out.1
                 rw [hpe, List.take_length] at hO9
                 have HO9 : Hid (_ ∧ _) := ⟨hO9, HOn2.out.2⟩
                 have hsm1 : ((W.sm S1 (k + 1) : Nat) : Int) = W.sm S1 k + p := by
                   rw [W.sm_step, hpe]; omega
                 have HSM : Hid (_) := hsm1
                 clear hO hb hO9 hsm1 ha hrd hD hT512
                 go_wp2
                 go_roundw
                 case rel => exact ⟨k + 1, by omega, by go_num, by rw [HSM.out, Int.natCast_add], HO9.out.1, HO9.out.2⟩
                 case measure => simp [intOf]; omega
           · have hkK' : k = K := by omega
             subst hkK'
             have hcl : ((W.cat S1 k).map (·.l)).length = W.sm S1 k := by rw [List.length_map, W.cat_len]
             have hsm5 := HI.out.sm_le
             obtain ⟨s8, hs8, hli8⟩ := hO.li (by omega)
             have HSo : Hid (Calls _ _ _ _ _) := sorted_any s8 ((W.cat S1 k).map (·.l)) wr hli8
             rw [← hs8] at HSo
             have HZ7 : Hid (Pz w1 cb sb db tb k ways S1 S1 wr) := HZ6.out.below (HBB.out.symm ▸ hb)
             have HCL : Hid (_) := hcl
             clear hO hb hs8 hli8 hcl HZ6 HD6
             generalize hM : W.sm S1 k = m at *
             have HM : Hid (W.sm S1 k = m) := hM
             clear hM
             go_wp2_with (fail)
             refine HSo.out.mono ?_
             rintro r v7 ⟨x7, rfl, hO7, hb7⟩
             have HZ8 : Hid (Pz w1 cb sb db tb k ways S1 S1 v7 ∧ On wr.heap.size x7 (W.srt ((W.cat S1 k).map (·.l))) v7) := ⟨HZ7.out.below hb7, hO7⟩
             clear hO7 hb7 HSo HZ7
             go_wp2_with (fail)
             refine (pz_all HZ8.out.1).mono ?_
             rintro r v8 ⟨y8, Y, rfl, hR8, hpm, hsr, hb8⟩
             have hO8 := HZ8.out.2.below hb8
             rw [hsr] at hO8
             have hYl : Y.length = m := by rw [hpm.length_eq, W.cat_len, HM.out]
             have HZ9 : Hid (Pz w1 cb sb db tb k ways S1 S1 v8) := HZ8.out.1.below hb8
             have HY : Hid (Y.length = m ∧ ∀ e ∈ Y, W.gt (W.st k S1 e.l) e.l = e) := ⟨hYl, fun e he => HI.out.found e ((hpm.mem_iff).1 he)⟩
             obtain ⟨gy, ay, capy, rfl, hcy, hay, hry⟩ := hR8
             rw [hYl] at hcy hay
             rw [hYl]
             have HRY : Hid ((0 < m → ay = some ⟨gy, 0, none⟩ ∧ gy < v8.heap.size) ∧ ∀ j f, Y[j]? = some f → v8.rangeAt gy (j * 6) (enL f)) := ⟨hay, hry⟩
             have hfo := hO8.form
             rw [List.length_map, hYl] at hfo
             have HFO : Hid (_) := hfo
             have HLe := pz_len HZ9.out
             rw [HM.out] at HLe
             have HLe : Hid (Calls _ _ _ _ _) := HLe
             clear hpm hsr hb8 hO8 hYl hay hry hfo HZ8
             go_wp2_with (fail)
             refine HLe.out.mono ?_
             rintro r v9 ⟨rfl, rfl⟩
             go_wp2_with (fail)
             go_loopw [30] (fun j wr' => ∃ p : Nat, p ≤ m ∧ j = .int .i64 p ∧ Below v8.heap.size v8 wr') (fun j _ => m - (intOf j).toNat)
             case atStart => exact ⟨0, by omega, rfl, Below.refl _ _⟩
             case round =>
               obtain ⟨p, hp, rfl, hb⟩ := hrel
               have HZr : Hid (_) := HZ9.out.below hb
               by_cases hpm : p < m
               · have hpm' : (p : Int) < m := by omega
                 obtain ⟨f, hf⟩ : ∃ f, Y[p]? = some f := ⟨_, List.getElem?_eq_getElem (by have := HY.out.1; omega)⟩
                 obtain ⟨rfl, hgy⟩ := HRY.out.1 (by omega)
                 have hfo := HFO.out
                 rcases hfo with ⟨h7, h8⟩ | ⟨g9, cap9, rfl, h9, h10, h11, h12, h13⟩
                 · have := congrArg List.length h8
                   rw [List.length_map, HY.out.1] at this
                   simp at this
                   omega
                 have ck : wr.cell? ⟨g9, p, none⟩ = some (.int .i64 f.l) := (hb.cell (p := ⟨g9, p, none⟩) h10).trans (h13 p f.l (by rw [List.getElem?_map, hf]; rfl))
                 have HFi : Hid (Calls _ _ _ _ _) := pz_rfind HZr.out f.l
                 rw [HY.out.2 f (List.mem_of_getElem? hf)] at HFi
                 have HLY : Hid (∀ w', Below v8.heap.size v8 w' → (ldE ⟨gy, p * 6, none⟩).run Tryd.prog w' = .ok (enV f) w') := fun w' hb' => ldE_at (range_below (HRY.out.2 p f hf) hb' hgy)
                 clear hf h9 h10 h13 hgy
                 go_wp2_with (fail)
                 refine HFi.out.mono ?_
                 rintro r v10 ⟨rfl, hb10⟩
                 have hB10 : Below v8.heap.size v8 (v10.alloc (.cells (enL f).toArray 42)) := (hb.trans (hb10.mono hb.size)).trans ((below_alloc v10 _).mono (Nat.le_trans hb.size hb10.size))
                 have HB10 : Hid (_) := hB10
                 have hX10 := exAt_new v10 f
                 clear hB10 hb10 ck
                 go_wp2_with (fail)
                 generalize World.alloc v10 _ = V10 at *
                 generalize v10.heap.size = bz at *
                 have hB11 := HB10.out.drew
                 have hX11 := hX10.below (Below.refl V10.heap.size V10).drew
                 have l1 := HLY.out _ hB11
                 have l2 := hX11.ld
                 go_region_held3 (fun w' => (ldE ⟨gy, p * 6, none⟩).run Tryd.prog w' = .ok (enV f) w' ∧ (ldX ⟨bz, 0, none⟩).run Tryd.prog w' = .ok (enV f) w')
                   (first | (refine ⟨?_, ?_⟩ <;> assumption) | go_keep)
                   (first
                     | (go_at_call 21; refine (HSa.out f _).mono ?_; rintro e vB ⟨rfl, hb11⟩; have hB12 := hB11.trans (hb11.mono hB11.size); have hX12 := hX11.below hb11; have r1 := HLY.out _ hB12; have r2 := hX12.ld))
                 all_goals
                   go_wp2
                   go_roundw
                   case rel => exact ⟨p + 1, by omega, by go_num, hB12⟩
                   case measure => simp [intOf]; omega
               · have hpe : p = m := by omega
                 subst hpe
                 clear HFO HRY HY HLe
                 by_cases hask : ask < 0
                 · rw [if_pos hask] at HRo
                   have hng : decide (0 ≤ ask) = false := decide_eq_false (by omega)
                   have hng2 : ¬ 0 ≤ ask := by omega
                   have HRm : Hid (_) := fun w' (hb' : Below wr.heap.size wr w') => pz_room (HZr.out.below hb') ask
                   rw [HRo.out] at HRm
                   go_wp2_with (fail)
                   go_quiet (fail)
                   go_wp2_with (fail)
                   refine (HRm.out _ (below_drewN (Below.refl _ _) _)).mono ?_
                   rintro r v10 ⟨rfl, hb10⟩
                   have HZe : Hid (_) := (HZr.out.below (below_drewN (Below.refl _ _) _)).below hb10
                   clear hb10 hb HZr
                   go_wp2
                   go_roundw
                   case rel => exact ⟨i + 1, S1, by omega, by go_num, HZe.out⟩
                   case measure => simp [intOf]; omega
                 · rw [if_neg hask] at HRo
                   have hask0 : 0 ≤ ask := by omega
                   cases hh : hs
                   · rw [hh, Bool.or_false] at HRo
                     obtain ⟨sv, dv, hC, hD, hX⟩ := HZr.out.c
                     have hk0 : 0 < k := HI.out.k0
                     have hix := W.ix_int hk0 ask
                     have hil := W.ix_lt hk0 ask
                     have hl8 := HI.out.len8 _ hil
                     have c2 := hD.c2
                     have cs := hD.s.c _ hil
                     obtain ⟨g, a, cap, hv, hcap, ha, hrd⟩ := hD.rw_ hil
                     rw [hv] at cs
                     clear hC hD hX hv ha hrd
                     have HRm : Hid (_) := fun w' (hb' : Below wr.heap.size wr w') => pz_room (HZr.out.below hb') ask
                     rw [HRo.out] at HRm
                     generalize (S1 (W.ix k ask)).length = L8 at *
                     generalize hgx : W.ix k ask = ix at *
                     clear hgx
                     have hq : ask % (k : Int) = (ix : Int) := hix.symm
                     have hixk : (ix : Int) < k := by omega
                     clear hix
                     go_wp2_with (fail)
                     go_quiet (fail)
                     go_wp2_with (fail)
                     refine (HRm.out _ (below_drewN (Below.refl _ _) _)).mono ?_
                     rintro r v10 ⟨rfl, hb10⟩
                     have HZe : Hid (_) := (HZr.out.below (below_drewN (Below.refl _ _) _)).below hb10
                     clear hb10 hb HZr
                     go_wp2
                     go_roundw
                     case rel => exact ⟨i + 1, S1, by omega, by go_num, HZe.out⟩
                     case measure => simp [intOf]; omega
                   · rw [hh, Bool.or_true] at HRo
                     have HRm : Hid (_) := fun w' (hb' : Below wr.heap.size wr w') => pz_room (HZr.out.below hb') ask
                     rw [HRo.out] at HRm
                     go_wp2_with (fail)
                     go_quiet (fail)
                     go_wp2_with (fail)
                     refine (HRm.out _ (below_drewN (Below.refl _ _) _)).mono ?_
                     rintro r v10 ⟨rfl, hb10⟩
                     have HZe : Hid (_) := (HZr.out.below (below_drewN (Below.refl _ _) _)).below hb10
                     clear hb10 hb HZr
                     go_wp2
                     go_roundw
                     case rel => exact ⟨i + 1, S1, by omega, by go_num, HZe.out⟩
                     case measure => simp [intOf]; omega
      · go_wp2
        go_ret
        exact ⟨rfl, HB1.out.trans (HP.out.b.mono HB1.out.size)⟩
end Go.Proofs.YtlindkhmjkionaaDoor
