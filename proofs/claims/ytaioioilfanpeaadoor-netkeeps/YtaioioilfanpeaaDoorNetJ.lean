/- net: a law's own net and message; links. -/
import Derived.Test.YtaioioilfanpeaaDoorNetI
import Derived.Deep.CutRange
namespace Go.Proofs.YtaioioilfanpeaaDoor
open Go.ChangeShapes Go.WideShapes Go.ChangeAt Go.RowKit
set_option linter.unusedVariables false
set_option linter.unusedSimpArgs false
attribute [local go_sem ↓] ldM_eq stM_eq bsM_eq bdM_eq
variable {n0 nb mb : Nat} {h : Int} {R R' : Nat → Int} {nx : Int} {fv fv' : Value} {L : List W.Fl} {w0 w w' : World} {m : W.Mg}

/-- A law's own net, and a message of its own. -/
structure Ls (w0 : World) (nb mb : Nat) (h : Int) (R : Nat → Int) (nx : Int) (fv : Value) (L : List W.Fl) (m : W.Mg) (w : World) : Prop where
  n : Nt nb nb h R nx fv L w
  m : MsgAt mb m w
  ne : mb ≠ nb
  nf : fv.ownBlock ≠ some mb
  b : Below w0.heap.size w0 w
  l : w0.heap.size ≤ nb
theorem Ls.below (H : Ls w0 nb mb h R nx fv L m w) (hb : Below w.heap.size w w') : Ls w0 nb mb h R nx fv L m w' := ⟨H.n.below hb, H.m.below hb, H.ne, H.nf, H.b.trans (hb.mono H.b.size), H.l⟩
theorem Ls.up (H : Ls w0 nb mb h R nx fv L m w) {L' : List W.Fl} {nx' : Int} (hn : Nt nb nb h R' nx' fv' L' w') (hu : Up nb fv fv' w w') : Ls w0 nb mb h R' nx' fv' L' m w' :=
  ⟨hn, H.m.up hu H.ne H.nf, H.ne, (hu.other H.m.lt H.ne H.nf).2, H.b.trans (hu.below H.b.size H.l (fun b e => Nat.le_trans H.l (H.n.fb b e).1)), H.l⟩
theorem updI_twice (R : Nat → Int) (k : Nat) (x y : Int) : updI (updI R k x) k y = updI R k y := by
  funext j
  unfold updI
  by_cases e : j = k <;> simp [e]
theorem updI_same (R : Nat → Int) (k : Nat) (x : Int) : updI R k x k = x := by unfold updI; rw [if_pos rfl]
theorem W.cls_out (k : Int) (h : W.cls k = -1) : k < 1 ∨ 12 < k := by
  unfold W.cls at h
  by_cases a : 1 ≤ k ∧ k ≤ 3
  · rw [if_pos a] at h; cases h
  · rw [if_neg a] at h
    by_cases b : 4 ≤ k ∧ k ≤ 9
    · rw [if_pos b] at h; cases h
    · rw [if_neg b] at h
      by_cases c : 10 ≤ k ∧ k ≤ 12
      · rw [if_pos c] at h; cases h
      · omega
/-- What Same says of an error at a place: a placed one of the document's. -/
theorem same_pl (A : Nat → Addr) (p : Nat) (hp : p < 11) (q : Nat) (i : Int) (w w6 : World) (hS : Sent A w) (hq : w.heap[q]? = some (.cells #[.int .i64 i, ptr A (perm p)] 80)) (b6 : Below w.heap.size w w6) (hc : w6.cell? ⟨w.heap.size + 1, 0, none⟩ = some (.int .i64 i)) :
    Calls Tryd.prog 10 #[.iface 78 (.pointer (some ⟨q, 0, none⟩)), .agg #[.int .i64 (101 + (p : Int)), .slice (some ⟨w.heap.size + 1, 0, none⟩) 1 1]] w6 fun e w' => e = .returned (.bool true) ∧ Below w6.heap.size w6 w' :=
  same_at A p hp q (w.heap.size + 1) i w6 (hS.below b6) ((b6.block q (Array.getElem?_eq_some_iff.1 hq).1).trans hq) hc

theorem number_eq (n m : Int) (m0 : 0 < m) (m1 : m < 2147483648) : (wrap64 (n.tmod m + m)).tmod m = n % m := by
  have h0 := Int.emod_nonneg n (by omega : m ≠ 0)
  have h1 := Int.emod_lt_of_pos n m0
  have ht : n.tmod m = n % m ∨ n.tmod m = n % m - m := by
    rw [Int.tmod_eq_emod]
    split
    · left; omega
    · right; omega
  have hw : wrap64 (n.tmod m + m) = n.tmod m + m := by
    unfold wrap64
    omega
  rw [hw]
  rcases ht with h | h
  · rw [h, Int.tmod_eq_emod_of_nonneg (by omega), Int.add_emod_right, Int.emod_emod]
  · rw [h, Int.sub_add_cancel, Int.tmod_eq_emod_of_nonneg h0, Int.emod_emod]
set_option maxRecDepth 10000 in
set_option maxHeartbeats 1600000 in
theorem links_any (A : Nat → Addr) (kk f t rm : Int) (k0 : -9223372036854775808 ≤ kk) (k1 : kk ≤ 9223372036854775807) (f0 : -9223372036854775808 ≤ f) (f1 : f ≤ 9223372036854775807) (t0 : -9223372036854775808 ≤ t) (t1 : t ≤ 9223372036854775807) (r0 : -9223372036854775808 ≤ rm) (r1 : rm ≤ 9223372036854775807) (w : World) (hS : Sent A w) :
    Calls Tryd.prog 5 #[.int .i64 kk, .int .i64 f, .int .i64 t, .int .i64 rm] w fun e w' => e = .returned (.bool true) ∧ Below w.heap.size w w' := by
  have bd := bdM_3
  have bs := bsM_any
  have HS : Hid (Sent A w) := hS
  clear hS
  go_enter Tryd.func5, Tryd.ntmps5
  go_wp2_with (fail)
  refine (first16_any A w HS.out).mono ?_
  rintro e w1 ⟨rfl, hb1⟩
  go_wp2_with (fail)
  have hr := number_eq rm 64 (by decide) (by decide)
  have hr2 : wrap64 ((wrap64 (rm.tmod 64 + 64)).tmod 64 + 1) = rm % 64 + 1 := by rw [hr]; unfold wrap64; omega
  generalize wrap64 ((wrap64 (rm.tmod 64 + 64)).tmod 64 + 1) = r at *
  generalize (wrap64 (rm.tmod 64 + 64)).tmod 64 = x1 at *
  generalize wrap64 (rm.tmod 64 + 64) = x2 at *
  generalize rm.tmod 64 = x3 at *
  have g1 : 1 ≤ r := by omega
  have g2 : r ≤ 64 := by omega
  clear hr hr2
  refine (new_ok 3 r (by decide) (by decide) g1 g2 w1).mono ?_
  rintro e w2 ⟨rfl, hN, hB⟩
  have hst := stM_new w2 (W.m4 kk 0 f t)
  have hnb : w1.heap.size < w2.heap.size := hN.b.lt
  have hM := msgAt_new w2 (W.m4 kk 0 f t)
  have hba := below_alloc w2 (.cells (mgL (W.m4 kk 0 f t)).toArray 47)
  have hz3 : (w2.alloc (.cells (mgL (W.m4 kk 0 f t)).toArray 47)).heap.size = w2.heap.size + 1 := by simp
  have HL : Hid (Ls w w1.heap.size w2.heap.size 3 (rmN 3 r) 0 (.slice none 0 0) [] (W.m4 kk 0 f t) (w2.alloc (.cells (mgL (W.m4 kk 0 f t)).toArray 47))) :=
    ⟨hN.below hba, hM, by omega, by simp [Value.ownBlock], hb1.trans ((hB.trans (hba.mono hB.size)).mono hb1.size), hb1.size⟩
  clear hN hB hM hba hb1
  go_wp2_with (fail)
  clear hst
  generalize hmb : w2.heap.size = mb at *
  generalize w1.heap.size = nb at *
  generalize World.alloc w2 _ = w3 at *
  refine (class_any kk w3).mono ?_
  rintro e w3 ⟨rfl, rfl⟩
  have hcc := W.cls_cases kk
  generalize hc : W.cls kk = c at *
  have HC : Hid (W.cls kk = c) := hc
  clear hc
  generalize hup : decide (0 ≤ f ∧ f < 3 ∧ t = -1 ∧ (c = 0 ∨ c = 2)) = up at *
  generalize hdn : decide (f = -1 ∧ 0 ≤ t ∧ t < 3 ∧ c = 1) = dn at *
  have HU : Hid (_ ∧ _) := ⟨hup, hdn⟩
  clear hup hdn
  have hl := HL.out.m.ld
  go_upto_region 10 with fail
  go_cut [14] from 44 to 61 (fun v wx => v = .bool up ∧ wx = w3)
  case first =>
    have hh := HU.out.1
    by_cases c1 : 0 ≤ f
    · by_cases c2 : f < 3
      · by_cases c3 : t = -1
        · by_cases c4 : c = 0
          · rw [decide_eq_true (by omega)] at hh
            subst hh
            subst c3
            subst c4
            go_wp2
            go_meet
            case rel => exact ⟨rfl, rfl⟩
          · by_cases c5 : c = 2
            · rw [decide_eq_true (by omega)] at hh
              subst hh
              subst c3
              subst c5
              go_wp2
              go_meet
              case rel => exact ⟨rfl, rfl⟩
            · rw [decide_eq_false (by omega)] at hh
              subst hh
              subst c3
              go_wp2
              go_meet
              case rel => exact ⟨congrArg Value.bool (by simp [c4, c5]), rfl⟩
        · rw [decide_eq_false (by omega)] at hh
          subst hh
          go_wp2
          go_meet
          case rel => exact ⟨rfl, rfl⟩
      · rw [decide_eq_false (by omega)] at hh
        subst hh
        go_wp2
        go_meet
        case rel => exact ⟨rfl, rfl⟩
    · rw [decide_eq_false (by omega)] at hh
      subst hh
      go_wp2
      go_meet
      case rel => exact ⟨rfl, rfl⟩
  case rest =>
    obtain ⟨rfl, rfl⟩ := hcut
    go_upto_region 11 with fail
    go_cut [15] from 62 to 75 (fun v wx => v = .bool dn ∧ wx = wc)
    case first =>
      have hh := HU.out.2
      by_cases c1 : f = -1
      · by_cases c2 : 0 ≤ t
        · by_cases c3 : t < 3
          · by_cases c4 : c = 1
            · rw [decide_eq_true (by omega)] at hh
              subst hh
              subst c1
              subst c4
              go_wp2
              go_meet
              case rel => exact ⟨rfl, rfl⟩
            · rw [decide_eq_false (by omega)] at hh
              subst hh
              subst c1
              go_wp2
              go_meet
              case rel => exact ⟨congrArg Value.bool (by simp [c4]), rfl⟩
          · rw [decide_eq_false (by omega)] at hh
            subst hh
            subst c1
            go_wp2
            go_meet
            case rel => exact ⟨rfl, rfl⟩
        · rw [decide_eq_false (by omega)] at hh
          subst hh
          subst c1
          go_wp2
          go_meet
          case rel => exact ⟨rfl, rfl⟩
      · rw [decide_eq_false (by omega)] at hh
        subst hh
        go_wp2
        go_meet
        case rel => exact ⟨rfl, rfl⟩
    case rest =>
      obtain ⟨rfl, rfl⟩ := hcut
      have h64 := rmN_ok 3 r (by omega) g2
      by_cases hc1 : c = -1
      · subst hc1
        have ad : W.adm 3 (rmN 3 r) (W.m4 kk 0 f t) = some 1 := by unfold W.adm; rw [show W.cls (W.m4 kk 0 f t).k = -1 from HC.out, if_pos rfl]
        have hk := W.cls_out kk HC.out
        go_wp2_with (fail)
        refine (send1_bad A (by decide) h64 (W.m4 kk 0 f t) HL.out.n (mb + 1) hz3 (HS.out.below HL.out.b) 1 ad).mono ?_
        rintro e w4 ⟨⟨q, rfl, hq⟩, hB4⟩
        have hb4 := HL.out.b.trans (hB4.mono HL.out.b.size)
        have pl : ∀ w, Calls Tryd.prog 26 #[.int .i64 102, .int .i64 0] w _ := fun w => placed_any 1 0 w
        have HQ : Hid (_ ∧ _ ∧ _ ∧ _) := ⟨pl, hq, hb4, HS.out.below hb4⟩
        clear pl hq hb4 hB4
        go_wp2_with (fail)
        refine (HQ.out.1 _).mono ?_
        rintro e w6 ⟨rfl, b6, hc6, hl6⟩
        have sm := same_pl A 1 (by decide) q 0 w4 w6 HQ.out.2.2.2 HQ.out.2.1 b6 hc6
        have HS2 : Hid (Calls _ _ _ _ _ ∧ _) := ⟨sm, HQ.out.2.2.1.trans (b6.mono HQ.out.2.2.1.size)⟩
        clear sm hc6 hl6 b6 HQ
        go_wp2_with (fail)
        refine HS2.out.1.mono ?_
        rintro e w7 ⟨rfl, b7⟩
        have HF : Hid (_) := HS2.out.2.trans (b7.mono HS2.out.2.size)
        clear b7 HS2
        rcases hk with hk | hk
        · go_wp2
          go_ret
          exact ⟨rfl, HF.out⟩
        · have hk' : ¬ kk < 1 := by omega
          go_wp2
          go_ret
          exact ⟨rfl, HF.out⟩
      · have c0 : 0 ≤ c := by omega
        have hE : W.endB 3 f t c = (up || dn) := by
          rw [← HU.out.1, ← HU.out.2]
          unfold W.endB
          by_cases q1 : c = 0 ∨ c = 2
          · rw [if_pos q1]
            by_cases q2 : t = -1 ∧ 0 ≤ f ∧ f < 3
            · rw [decide_eq_true q2, decide_eq_true (by omega), Bool.true_or]
            · rw [decide_eq_false q2, decide_eq_false (by omega), decide_eq_false (by omega), Bool.or_false]
          · rw [if_neg q1]
            by_cases q3 : c = 1
            · rw [if_pos q3]
              by_cases q2 : f = -1 ∧ 0 ≤ t ∧ t < 3
              · rw [decide_eq_true q2, decide_eq_true (p := f = -1 ∧ 0 ≤ t ∧ t < 3 ∧ c = 1) (by omega), Bool.or_true]
              · rw [decide_eq_false q2, decide_eq_false (by omega), decide_eq_false (by omega), Bool.or_false]
            · omega
        by_cases hud : (up || dn) = true
        · rw [hud] at hE
          have hk12 : W.lk 3 (W.m4 kk 0 f t) < 12 := W.lk_lt 3 (by decide) _ (by rw [show W.cls (W.m4 kk 0 f t).k = c from HC.out]; exact hE)
          have hrg := W.endH_rg _ _ _ _ hE
          have hlk : W.lk 3 (W.m4 kk 0 f t) = c.toNat * 4 + (W.endH 3 f t c).toNat := by
            unfold W.lk
            rw [show W.cls (W.m4 kk 0 f t).k = c from HC.out]
            rfl
          have hrl : rmN 3 r (W.lk 3 (W.m4 kk 0 f t)) = r := by
            rw [hlk]
            unfold rmN
            rw [if_pos (by omega)]
          have adn : ∀ R : Nat → Int, R (W.lk 3 (W.m4 kk 0 f t)) ≠ 0 → W.adm 3 R (W.m4 kk 0 f t) = none := fun R h => by
            unfold W.adm
            rw [show W.cls (W.m4 kk 0 f t).k = c from HC.out, if_neg hc1, show W.endB 3 (W.m4 kk 0 f t).f (W.m4 kk 0 f t).t c = true from hE, if_neg (by simp [W.m4]), if_neg h]
          have ad6 : ∀ R : Nat → Int, R (W.lk 3 (W.m4 kk 0 f t)) = 0 → W.adm 3 R (W.m4 kk 0 f t) = some 6 := fun R h => by
            unfold W.adm
            rw [show W.cls (W.m4 kk 0 f t).k = c from HC.out, if_neg hc1, show W.endB 3 (W.m4 kk 0 f t).f (W.m4 kk 0 f t).t c = true from hE, if_neg (by simp [W.m4]), if_pos h]
          have hdec : ∀ R : Nat → Int, W.dec 3 R (W.m4 kk 0 f t) = updI R (W.lk 3 (W.m4 kk 0 f t)) (R (W.lk 3 (W.m4 kk 0 f t)) - 1) := fun R => rfl
          have hrv : ∀ R : Nat → Int, roomV 3 R f t c = R (W.lk 3 (W.m4 kk 0 f t)) := fun R => by
            unfold roomV
            rw [hE, hlk]
            rfl
          generalize W.lk 3 (W.m4 kk 0 f t) = lk at *
          have HK : Hid (_ ∧ _ ∧ _ ∧ _ ∧ _ ∧ _) := ⟨hrl, adn, ad6, hdec, hrv, hk12⟩
          have hok : ∀ j : Nat, (j : Int) ≤ r → W.Rok (updI (rmN 3 r) lk (r - j)) := fun j hj i hi => by
            unfold updI
            by_cases e : i = lk
            · rw [if_pos e]; omega
            · rw [if_neg e]; exact h64 i hi
          have HO : Hid (_ ∧ _) := ⟨hok, h64⟩
          have hud2 : up = true ∨ up = false ∧ dn = true := by cases up <;> simp_all
          clear hrl adn ad6 hdec hrv hok h64 hlk hrg hE hk12 hud
          go_wp2_with (fail)
          refine (send1_ok (by decide) HO.out.2 (by decide) (by decide) (by decide) (W.m4 kk 0 f t) HL.out.n (mb + 1) hz3 (HK.out.2.1 _ (by rw [HK.out.1]; omega))).mono ?_
          rintro e w4 ⟨rfl, f4, hN4, hU4⟩
          have hS4 := HL.out.up hN4 hU4
          rw [HK.out.2.2.2.1, HK.out.1] at hS4
          have HL4 : Hid (_) := hS4
          clear hN4 hU4 hS4 hl
          rcases hud2 with hu | ⟨hu, hd⟩
          all_goals
            subst hu
            (try subst hd)
            go_wp2_with (fail)
            refine (room_any HL4.out.n (by decide) f t c).mono ?_
            rintro e w5 ⟨rfl, rfl⟩
            rw [HK.out.2.2.2.2.1, updI_same]
            go_wp2
            go_loopw [17] (fun i wr => ∃ j : Nat, 1 ≤ j ∧ (j : Int) ≤ r ∧ i = .int .i64 j ∧ ∃ fj Lj, Ls w nb mb 3 (updI (rmN 3 r) lk (r - j)) j fj Lj (W.m4 kk 0 f t) wr ∧ Lj.length = j) (fun i _ => 64 - (intOf i).toNat)
            case atStart => exact ⟨1, by omega, by omega, rfl, f4, _, HL4.out, rfl⟩
            case round =>
              obtain ⟨j, j1, hjr, rfl, fj, Lj, hLj, hlen⟩ := hrel
              have HJ : Hid (_ ∧ _) := ⟨hLj, hlen⟩
              have hl := hLj.m.ld
              clear hLj hlen
              by_cases hlt : (j : Int) < r
              · go_wp2_with (fail)
                refine (send1_ok (by decide) (HO.out.1 j (by omega)) (by omega) (by omega) (by have := HJ.out.2; omega) (W.m4 kk 0 f t) HJ.out.1.n _ rfl (HK.out.2.1 _ (by rw [updI_same]; omega))).mono ?_
                rintro e w6 ⟨rfl, f6, hN6, hU6⟩
                have hS6 := HJ.out.1.up hN6 hU6
                rw [HK.out.2.2.2.1, updI_same, updI_twice, show r - (j : Int) - 1 = r - ((j + 1 : Nat) : Int) by omega, show (j : Int) + 1 = ((j + 1 : Nat) : Int) by omega] at hS6
                have hl6 : (Lj ++ [⟨(j : Int), W.m4 kk 0 f t⟩] : List W.Fl).length = j + 1 := by rw [List.length_append, HJ.out.2]; rfl
                have H6 : Hid (_ ∧ _) := ⟨hS6, hl6⟩
                clear hN6 hU6 hS6 hl6 hl HJ
                go_wp2
                go_roundw
                case rel => exact ⟨j + 1, by omega, by omega, by go_num, _, _, H6.out.1, H6.out.2⟩
                case measure => simp [intOf]; omega
              · have hjr' : (j : Int) = r := by omega
                have HR : Hid (r = j) := hjr'.symm
                clear hjr'
                go_wp2_with (fail)
                refine (send1_bad A (by decide) (HO.out.1 j (by omega)) (W.m4 kk 0 f t) HJ.out.1.n _ rfl (HS.out.below HJ.out.1.b) 6 (HK.out.2.2.1 _ (by rw [updI_same]; omega))).mono ?_
                rintro e w6 ⟨⟨q, rfl, hq⟩, hB6⟩
                have hb6 := HJ.out.1.b.trans (hB6.mono HJ.out.1.b.size)
                have pl : ∀ w, Calls Tryd.prog 26 #[.int .i64 107, .int .i64 0] w _ := fun w => placed_any 6 0 w
                have HQ : Hid (_ ∧ _ ∧ _ ∧ _) := ⟨pl, hq, HS.out.below hb6, HJ.out.1.below hB6⟩
                clear pl hq hb6 hB6
                go_wp2_with (fail)
                refine (HQ.out.1 _).mono ?_
                rintro e w7 ⟨rfl, b7, hc7, hl7⟩
                have sm := same_pl A 6 (by decide) q 0 w6 w7 HQ.out.2.2.1 HQ.out.2.1 b7 hc7
                have HS2 : Hid (Calls _ _ _ _ _ ∧ _) := ⟨sm, HQ.out.2.2.2.below b7⟩
                clear sm hc7 hl7 b7 HQ
                go_wp2_with (fail)
                refine HS2.out.1.mono ?_
                rintro e w8 ⟨rfl, b8⟩
                have HF : Hid (_) := HS2.out.2.below b8
                clear b8 HS2
                go_wp2_with (fail)
                refine (len_any HF.out.n).mono ?_
                rintro e w9 ⟨rfl, rfl⟩
                rw [HJ.out.2]
                have hrj := HR.out
                subst hrj
                go_wp2
                go_ret
                exact ⟨rfl, HF.out.b⟩
        · have hu : up = false := by cases up <;> simp_all
          have hd : dn = false := by cases dn <;> simp_all
          subst hu hd
          have ad : W.adm 3 (rmN 3 r) (W.m4 kk 0 f t) = some 2 := by
            unfold W.adm
            rw [show W.cls (W.m4 kk 0 f t).k = c from HC.out, if_neg hc1, if_pos (Or.inl (show W.endB 3 (W.m4 kk 0 f t).f (W.m4 kk 0 f t).t c = false from hE))]
          have HE : Hid (W.endB 3 f t c = false) := hE
          clear hE hud
          go_wp2_with (fail)
          refine (send1_bad A (by decide) h64 (W.m4 kk 0 f t) HL.out.n (mb + 1) hz3 (HS.out.below HL.out.b) 2 ad).mono ?_
          rintro e w4 ⟨⟨q, rfl, hq⟩, hB4⟩
          have hb4 := HL.out.b.trans (hB4.mono HL.out.b.size)
          have pl : ∀ w, Calls Tryd.prog 26 #[.int .i64 103, .int .i64 0] w _ := fun w => placed_any 2 0 w
          have HQ : Hid (_ ∧ _ ∧ _ ∧ _ ∧ _) := ⟨pl, hq, hb4, HS.out.below hb4, HL.out.below hB4⟩
          clear pl hq hb4 hB4
          go_wp2_with (fail)
          refine (HQ.out.1 _).mono ?_
          rintro e w6 ⟨rfl, b6, hc6, hl6⟩
          have sm := same_pl A 2 (by decide) q 0 w4 w6 HQ.out.2.2.2.1 HQ.out.2.1 b6 hc6
          have HS2 : Hid (Calls _ _ _ _ _ ∧ _) := ⟨sm, HQ.out.2.2.2.2.below b6⟩
          clear sm hc6 hl6 b6 HQ
          go_wp2_with (fail)
          refine HS2.out.1.mono ?_
          rintro e w7 ⟨rfl, b7⟩
          have HF : Hid (_) := HS2.out.2.below b7
          clear b7 HS2
          go_wp2_with (fail)
          refine (room_any HF.out.n (by decide) f t c).mono ?_
          rintro e w8 ⟨rfl, rfl⟩
          rw [show roomV 3 (rmN 3 r) f t c = 0 by unfold roomV; rw [HE.out]; rfl]
          go_wp2
          go_ret
          exact ⟨rfl, HF.out.b⟩
end Go.Proofs.YtaioioilfanpeaaDoor
