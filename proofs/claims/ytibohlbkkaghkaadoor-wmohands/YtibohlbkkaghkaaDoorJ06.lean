/- Texts in one: WmoR. -/
import Derived.Test.YtibohlbkkaghkaaDoorJ05
/- wmo: parted. -/
namespace Go.Proofs.YtibohlbkkaghkaaDoor
open Go.ChangeShapes Go.WideShapes Go.ChangeAt Go.RowKit Go.Maps
set_option linter.unusedVariables false
set_option linter.unusedSimpArgs false

namespace W
/-- The last writes behind k bytes of a write. -/
def wrtB (z : StR) (p : Int) (L : Int → Rc) : Nat → (Int → Rc)
  | 0 => L
  | k + 1 => updR (wrtB z p L k) (z.o.ad + k) ((wrtB z p L k (z.o.ad + k)).with' z.ha p)
/-- The last writes behind p steps. -/
def wrt (q : Nat → StR) : Nat → (Int → Rc)
  | 0 => fun _ => ⟨0, 0, 0⟩
  | p + 1 => bif wrs (q p).o.k then wrtB (q p) (p : Int) (wrt q p) (q p).o.sz.toNat else wrt q p
/-- Is step p no Sc that was parted from its Lr? -/
def okP (q : Nat → StR) (p : Nat) : Prop := 0 < (q p).lr → ovB (wrt q p) (q (q p).lr.toNat) 4 = false
end W
/-- Steps and a map beside them. -/
structure Pr (sb M : Nat) (q : Nat → StR) (c : Nat) (L : Int → W.Rc) (w0 w : World) : Prop where
  m : Mr w0.heap.size c L w
  b : Below w0.heap.size w0 w
theorem Pr.below {sb M : Nat} {q : Nat → StR} {c : Nat} {L : Int → W.Rc} {w0 w w' : World} (h : Pr sb M q c L w0 w) (hb : Below w.heap.size w w') : Pr sb M q c L w0 w' := ⟨h.m.below hb, h.b.trans (hb.mono h.b.size)⟩
theorem Pr.put {sb M : Nat} {q : Nat → StR} {c : Nat} {L : Int → W.Rc} {w0 w : World} (h : Pr sb M q c L w0 w) (hc : c < 100000) (a : Int) (v : W.Rc) (h0 : 0 ≤ a) (h1 : a < 4294967296) : ∃ w', (Instr.mapUpdate 90 (.map (some w0.heap.size)) (.int .u32 a) (rcV v)).run Tryd.prog w = .ok () w' ∧ Pr sb M q (c + 1) (updR L a v) w0 w' := by
  obtain ⟨w', hr, hM, hg⟩ := h.m.put hc a v h0 h1
  exact ⟨w', hr, hM, Below.grown h.b hg h.b.size (fun d e => by cases e; exact Nat.le_refl _)⟩
set_option maxRecDepth 10000 in
set_option maxHeartbeats 3200000 in
theorem parted_any (sb M : Nat) (q : Nat → StR) (m : Nat) (hm : m ≤ M) (w : World) (hS : Sb2 sb M q w) (hM : M ≤ 5000) (hB : ∀ p, p < M → W.Byt (q p).o) (hl : ∀ p, p < M → 0 ≤ (q p).lr ∧ (q p).lr < (M : Int)) (h4 : ∀ p, p < M → 0 < (q p).lr → (q (q p).lr.toNat).o.ad + 4 ≤ 4294967296) (hok : ∀ p, p < m → W.okP q p) (hbad : m < M → ¬ W.okP q m) :
    Calls Tryd.prog 30 #[.slice (some ⟨sb, 0, none⟩) M M] w fun e w' => e = .returned (.int .i64 (if m < M then (m : Int) else 0)) ∧ Below w.heap.size w w' := by
  have hmm := @run_makeMap Tryd.prog
  have sl := hS.b.lt
  obtain ⟨R, hR⟩ : ∃ R : Int, R = if m < M then (m : Int) else 0 := ⟨_, rfl⟩
  rw [← hR]
  have HR : Hid _ := hR
  clear hR
  have P0 : Pr sb M q 0 (fun _ => ⟨0, 0, 0⟩) w (w.alloc (.map #[] 0)) := ⟨Mr.made w, (Below.refl _ _).alloc (Nat.le_refl _) _⟩
  have HH : Hid (_ ∧ _ ∧ _ ∧ _ ∧ _ ∧ _ ∧ _) := ⟨hS, hB, hl, h4, hok, hbad, P0⟩
  clear hS hB hl h4 hok hbad P0
  go_enter Tryd.func30, Tryd.ntmps30
  go_wp2
  go_loopw [11] (fun i wr => ∃ p : Nat, p ≤ m ∧ i = .int .i64 (p : Int) ∧ ∃ c, c ≤ 4 * p ∧ Pr sb M q c (W.wrt q p) w wr) (fun i _ => M - (intOf i).toNat)
  case atStart => exact ⟨0, by omega, rfl, 0, by omega, HH.out.2.2.2.2.2.2⟩
  case round =>
    clear hmm
    obtain ⟨p, hp, rfl, c, hc, hP⟩ := hrel
    by_cases hlt : p < M
    · have hpM : (p : Int) < (M : Int) := by omega
      have hS := HH.out.1.below hP.b
      have slr := hS.b.lt
      have d0 := hS.cell p 0 hlt (by decide) (.int .i64 (q p).o.k) rfl
      rw [Nat.add_zero] at d0
      have d1 := hS.cell p 1 hlt (by decide) (.int .i64 (q p).o.sz) rfl
      have d14 := hS.cell p 14 hlt (by decide) (.int .i64 (q p).lr) rfl
      have lrb := HH.out.2.2.1 p hlt
      obtain ⟨lr, hlr⟩ := Int.eq_ofNat_of_zero_le lrb.1
      rw [hlr] at d14 lrb
      have hd : W.okP q p ∨ ¬ W.okP q p := Classical.em _
      have eO : W.okP q p ↔ ((0 : Int) < (lr : Int) → W.ovB (W.wrt q p) (q lr) 4 = false) := by
        unfold W.okP
        rw [hlr, Int.toNat_natCast]
      by_cases l0 : (0 : Int) < (lr : Int)
      · have lrM : lr < M := by omega
        have ov := overwritten_any sb M q w.heap.size c (W.wrt q p) lr wr hS hM hP.m lrM (HH.out.2.1 lr lrM).a0 (by have := HH.out.2.2.2.1 p hlt (by rw [hlr]; exact l0); rw [hlr, Int.toNat_natCast] at this; exact this)
        have lrMi : (lr : Int) < (M : Int) := by omega
        have HQ : Hid (Calls _ _ _ _ _ ∧ _ ∧ _) := ⟨ov, eO.1, eO.2⟩
        have PW : Hid _ := hP
        clear ov hP hS eO d0 d1 hd
        cases hov : W.ovB (W.wrt q p) (q lr) 4
        · rw [hov] at HQ
          go_wp2_with (fail)
          refine HQ.out.1.mono ?_
          rintro e w4 ⟨rfl, b4⟩
          have PX : Hid _ := PW.out.below b4
          clear b4 PW d14 slr
          have hpm : p < m := by
            by_cases e : p < m
            · exact e
            · obtain rfl : p = m := by omega
              exact absurd (HQ.out.2.2 (fun _ => by first | rfl | trivial)) (HH.out.2.2.2.2.2.1 hlt)
          have hSx := HH.out.1.below PX.out.b
          have slx := hSx.b.lt
          have e0 := hSx.cell p 0 hlt (by decide) (.int .i64 (q p).o.k) rfl
          rw [Nat.add_zero] at e0
          have e1 := hSx.cell p 1 hlt (by decide) (.int .i64 (q p).o.sz) rfl
          have hwr := writes_any sb (p * 19) (q p).o.k w4 slx e0
          have eW : W.wrt q (p + 1) = bif W.wrs (q p).o.k then W.wrtB (q p) (p : Int) (W.wrt q p) (q p).o.sz.toNat else W.wrt q p := rfl
          have byt := HH.out.2.1 p hlt
          have HWr : Hid (Calls _ _ _ _ _ ∧ _ ∧ _ ∧ _) := ⟨hwr, eW, hSx, byt⟩
          clear hwr eW hSx byt e0
          cases hwk : W.wrs (q p).o.k
          · rw [hwk] at HWr
            go_wp2_with (fail)
            refine HWr.out.1.mono ?_
            rintro e w5 ⟨rfl, rfl⟩
            clear e1
            go_wp2
            go_roundw
            case rel => exact ⟨p + 1, by omega, by go_num, c, by omega, by rw [HWr.out.2.1]; exact PX.out⟩
            case measure => simp [intOf]; omega
          · rw [hwk] at HWr
            obtain ⟨s0, s4, ad0, ad1⟩ := HWr.out.2.2.2
            obtain ⟨SZ, hSZ⟩ := Int.eq_ofNat_of_zero_le s0
            rw [hSZ] at e1
            have ez : (q p).o.sz.toNat = SZ := by omega
            have ad2 : (q p).o.ad + (SZ : Int) ≤ 4294967296 := by omega
            have sz4 : SZ ≤ 4 := by omega
            clear ad1 s0 s4
            go_wp2_with (fail)
            refine HWr.out.1.mono ?_
            rintro e w5 ⟨rfl, rfl⟩
            go_wp2
            go_loopw [43] (fun t wy => ∃ k : Nat, k ≤ SZ ∧ t = .int .i64 (k : Int) ∧ ∃ c', c' ≤ 4 * p + k ∧ Pr sb M q c' (W.wrtB (q p) (p : Int) (W.wrt q p) k) w wy) (fun t _ => SZ - (intOf t).toNat)
            case atStart => exact ⟨0, by omega, rfl, c, by omega, PX.out⟩
            case round =>
              clear e1 slx
              obtain ⟨k, hk, rfl, c', hc', hPk⟩ := hrel
              by_cases hkl : k < SZ
              · have hks : (k : Int) < (SZ : Int) := by omega
                have hSk := HH.out.1.below hPk.b
                have slk := hSk.b.lt
                have f2 := hSk.cell p 2 hlt (by decide) (.int .u32 (q p).o.ad) rfl
                have f13 := hSk.cell p 13 hlt (by decide) (.int .i64 (q p).ha) rfl
                have lk := (hPk.below (Below.refl _ _).drew).m.look ((q p).o.ad + k) (by omega) (by omega)
                have wi := fun w' => with_any (W.wrtB (q p) (p : Int) (W.wrt q p) k ((q p).o.ad + k)) (q p).ha (p : Int) w'
                have eK : W.wrtB (q p) (p : Int) (W.wrt q p) (k + 1) = updR (W.wrtB (q p) (p : Int) (W.wrt q p) k) ((q p).o.ad + k) ((W.wrtB (q p) (p : Int) (W.wrt q p) k ((q p).o.ad + k)).with' (q p).ha p) := rfl
                have pu := fun w' (hb : Below wr.heap.size wr w') => (hPk.below hb).put (by omega) ((q p).o.ad + k) ((W.wrtB (q p) (p : Int) (W.wrt q p) k ((q p).o.ad + k)).with' (q p).ha p) (by omega) (by omega)
                have HK : Hid (_ ∧ _ ∧ _) := ⟨wi, pu, eK⟩
                have adk : (q p).o.ad + (k : Int) < 4294967296 := by omega
                clear wi pu eK hSk hPk
                generalize hLL : W.wrtB (q p) (p : Int) (W.wrt q p) k = LL at *
                generalize hAD : (q p).o.ad = AD at *
                generalize hHA : (q p).ha = HA at *
                generalize LL (AD + k) = RC at *
                generalize hRW : RC.with' HA p = RW at *
                generalize hRV : rcV RC = RV at *
                generalize hWV : rcV RW = WV at *
                clear hLL hRW hRV hWV hAD hHA
                go_wp2_with (fail)
                go_region_with ((go_at_call 45; refine (HK.out.1 _).mono ?_; rintro e w6 ⟨rfl, b6⟩; (obtain ⟨w7, hr7, hP7⟩ := HK.out.2.1 w6 ((Below.refl _ _).drew.trans b6)); have HP7 : Hid _ := hP7; clear hP7 b6))
                all_goals
                  have eK := HK.out.2.2
                  have HZ : Hid (_ ∧ _) := ⟨HP7.out, eK⟩
                  clear HP7 HK hr7 lk f2 f13 eK
                  go_wp2
                  go_roundw
                  case rel => exact ⟨k + 1, by omega, by go_num, c' + 1, by omega, by rw [HZ.out.2]; exact HZ.out.1⟩
                  case measure => simp [intOf]; omega
              · obtain rfl : k = SZ := by omega
                have hks : ¬ (k : Int) < (k : Int) := by omega
                have HZ : Hid _ := hPk
                clear hPk
                go_wp2
                go_roundw
                case rel => exact ⟨p + 1, by omega, by go_num, c', by omega, by rw [HWr.out.2.1, ez]; exact HZ.out⟩
                case measure => simp [intOf]; omega
        · have hpm : Hid (p = m) := by
            show p = m
            by_cases e : p < m
            · have := HQ.out.2.1 (HH.out.2.2.2.2.1 p e) l0
              rw [hov] at this
              cases this
            · omega
          rw [hov] at HQ
          go_wp2_with (fail)
          refine HQ.out.1.mono ?_
          rintro e w4 ⟨rfl, b4⟩
          have b5 := PW.out.b.trans (b4.mono PW.out.b.size)
          clear b4 PW HQ
          go_wp2
          go_ret
          refine ⟨?_, b5⟩
          rw [HR.out, if_pos (by have := hpm.out; omega), ← hpm.out]
          rfl
      · have HQ : Hid (True ∧ _ ∧ _) := ⟨trivial, eO.1, eO.2⟩
        have PX : Hid _ := hP
        clear hP hS eO d0 d1 hd
        have hpm : p < m := by
          by_cases e : p < m
          · exact e
          · obtain rfl : p = m := by omega
            exact absurd (HQ.out.2.2 (fun h => absurd h l0)) (HH.out.2.2.2.2.2.1 hlt)
        have hSx := HH.out.1.below PX.out.b
        have slx := hSx.b.lt
        have e0 := hSx.cell p 0 hlt (by decide) (.int .i64 (q p).o.k) rfl
        rw [Nat.add_zero] at e0
        have e1 := hSx.cell p 1 hlt (by decide) (.int .i64 (q p).o.sz) rfl
        have hwr := writes_any sb (p * 19) (q p).o.k wr slx e0
        have eW : W.wrt q (p + 1) = bif W.wrs (q p).o.k then W.wrtB (q p) (p : Int) (W.wrt q p) (q p).o.sz.toNat else W.wrt q p := rfl
        have byt := HH.out.2.1 p hlt
        have HWr : Hid (Calls _ _ _ _ _ ∧ _ ∧ _ ∧ _) := ⟨hwr, eW, hSx, byt⟩
        clear hwr eW hSx byt e0
        cases hwk : W.wrs (q p).o.k
        · rw [hwk] at HWr
          go_wp2_with (fail)
          refine HWr.out.1.mono ?_
          rintro e w5 ⟨rfl, rfl⟩
          clear e1
          go_wp2
          go_roundw
          case rel => exact ⟨p + 1, by omega, by go_num, c, by omega, by rw [HWr.out.2.1]; exact PX.out⟩
          case measure => simp [intOf]; omega
        · rw [hwk] at HWr
          obtain ⟨s0, s4, ad0, ad1⟩ := HWr.out.2.2.2
          obtain ⟨SZ, hSZ⟩ := Int.eq_ofNat_of_zero_le s0
          rw [hSZ] at e1
          have ez : (q p).o.sz.toNat = SZ := by omega
          have ad2 : (q p).o.ad + (SZ : Int) ≤ 4294967296 := by omega
          have sz4 : SZ ≤ 4 := by omega
          clear ad1 s0 s4
          go_wp2_with (fail)
          refine HWr.out.1.mono ?_
          rintro e w5 ⟨rfl, rfl⟩
          go_wp2
          go_loopw [43] (fun t wy => ∃ k : Nat, k ≤ SZ ∧ t = .int .i64 (k : Int) ∧ ∃ c', c' ≤ 4 * p + k ∧ Pr sb M q c' (W.wrtB (q p) (p : Int) (W.wrt q p) k) w wy) (fun t _ => SZ - (intOf t).toNat)
          case atStart => exact ⟨0, by omega, rfl, c, by omega, PX.out⟩
          case round =>
            clear e1 slx
            obtain ⟨k, hk, rfl, c', hc', hPk⟩ := hrel
            by_cases hkl : k < SZ
            · have hks : (k : Int) < (SZ : Int) := by omega
              have hSk := HH.out.1.below hPk.b
              have slk := hSk.b.lt
              have f2 := hSk.cell p 2 hlt (by decide) (.int .u32 (q p).o.ad) rfl
              have f13 := hSk.cell p 13 hlt (by decide) (.int .i64 (q p).ha) rfl
              have lk := (hPk.below (Below.refl _ _).drew).m.look ((q p).o.ad + k) (by omega) (by omega)
              have wi := fun w' => with_any (W.wrtB (q p) (p : Int) (W.wrt q p) k ((q p).o.ad + k)) (q p).ha (p : Int) w'
              have eK : W.wrtB (q p) (p : Int) (W.wrt q p) (k + 1) = updR (W.wrtB (q p) (p : Int) (W.wrt q p) k) ((q p).o.ad + k) ((W.wrtB (q p) (p : Int) (W.wrt q p) k ((q p).o.ad + k)).with' (q p).ha p) := rfl
              have pu := fun w' (hb : Below wr.heap.size wr w') => (hPk.below hb).put (by omega) ((q p).o.ad + k) ((W.wrtB (q p) (p : Int) (W.wrt q p) k ((q p).o.ad + k)).with' (q p).ha p) (by omega) (by omega)
              have HK : Hid (_ ∧ _ ∧ _) := ⟨wi, pu, eK⟩
              have adk : (q p).o.ad + (k : Int) < 4294967296 := by omega
              clear wi pu eK hSk hPk
              generalize hLL : W.wrtB (q p) (p : Int) (W.wrt q p) k = LL at *
              generalize hAD : (q p).o.ad = AD at *
              generalize hHA : (q p).ha = HA at *
              generalize LL (AD + k) = RC at *
              generalize hRW : RC.with' HA p = RW at *
              generalize hRV : rcV RC = RV at *
              generalize hWV : rcV RW = WV at *
              clear hLL hRW hRV hWV hAD hHA
              go_wp2_with (fail)
              go_region_with ((go_at_call 45; refine (HK.out.1 _).mono ?_; rintro e w6 ⟨rfl, b6⟩; (obtain ⟨w7, hr7, hP7⟩ := HK.out.2.1 w6 ((Below.refl _ _).drew.trans b6)); have HP7 : Hid _ := hP7; clear hP7 b6))
              all_goals
                have eK := HK.out.2.2
                have HZ : Hid (_ ∧ _) := ⟨HP7.out, eK⟩
                clear HP7 HK hr7 lk f2 f13 eK
                go_wp2
                go_roundw
                case rel => exact ⟨k + 1, by omega, by go_num, c' + 1, by omega, by rw [HZ.out.2]; exact HZ.out.1⟩
                case measure => simp [intOf]; omega
            · obtain rfl : k = SZ := by omega
              have hks : ¬ (k : Int) < (k : Int) := by omega
              have HZ : Hid _ := hPk
              clear hPk
              go_wp2
              go_roundw
              case rel => exact ⟨p + 1, by omega, by go_num, c', by omega, by rw [HWr.out.2.1, ez]; exact HZ.out⟩
              case measure => simp [intOf]; omega
    · have hpM : ¬ (p : Int) < (M : Int) := by omega
      have e : ¬ m < M := by omega
      have b3 := hP.b
      clear hP
      go_wp2
      go_ret
      refine ⟨?_, b3⟩
      rw [HR.out, if_neg e]
      rfl
end Go.Proofs.YtibohlbkkaghkaaDoor
