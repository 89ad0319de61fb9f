/- net: Send, where all go: the walk. -/
import Derived.Test.YtaioioilfanpeaaDoorNetF
namespace Go.Proofs.YtaioioilfanpeaaDoor
open Go.ChangeShapes Go.WideShapes Go.ChangeAt Go.RowKit
set_option linter.unusedVariables false
set_option linter.unusedSimpArgs false
attribute [local go_sem ↓] ldM_eq stM_eq ldR_eq stR_eq bdF_eq bsF_eq

set_option maxRecDepth 100000 in
set_option maxHeartbeats 1600000 in
theorem send_ok (n0 nb : Nat) (h : Int) (h4 : h ≤ 4) (R : Nat → Int) (hR : W.Rok R) (nx : Int) (x0 : 0 ≤ nx) (x1 : nx ≤ 1000000) (fv : Value) (L : List W.Fl) (s : W.Sl) (ms : List W.Mg) (hL : L.length + ms.length ≤ 8192) (w : World) (hN : Nt n0 nb h R nx fv L w) (hM : Ms s ms w) (hap : ∀ b o, s.a = some ⟨b, o, none⟩ → b ≠ nb ∧ fv.ownBlock ≠ some b) (he : W.ers h R ms 0 = none) :
    Calls Tryd.prog 11 #[.pointer (some ⟨nb, 0, none⟩), slV s] w fun e w' => e = .returned .nilIface ∧ ∃ fv', Nt n0 nb h (W.decs h R ms) (nx + ms.length) fv' (L ++ W.fls nx ms) w' ∧ Up nb fv fv' w w' := by
  obtain ⟨a, n, c⟩ := s
  obtain ⟨hn, hm, hnc, hat⟩ := hM
  dsimp only at hn hm hnc hat hap
  have hlR := ldR_at hN.rng
  have hsR := stR_new w R
  have HN : Hid (Nt n0 nb h R nx fv L w) := hN
  have HM : Hid (0 < n → ∃ b o, a = some ⟨b, o, none⟩ ∧ b < w.heap.size ∧ ∀ j x, ms[j]? = some x → w.rangeAt b (o + j * 11) (mgL x)) := hat
  have HP : Hid (∀ b o, a = some ⟨b, o, none⟩ → b ≠ nb ∧ fv.ownBlock ≠ some b) := hap
  have HA : Hid (_) := he
  have HR : Hid (W.Rok R) := hR
  have hlen : Hid (n = ms.length) := hn
  have hL' : L.length + n ≤ 8192 := by omega
  clear hat hap hN he hR hn hL
  unfold slV
  go_enter Tryd.func11, Tryd.ntmps11
  go_wp2
  have hb0 := bc_rooms w R
  have hw0 := below_alloc w (.cells (rmL R).toArray 70)
  generalize hlb : w.heap.size = lb at *
  generalize World.alloc w _ = W1 at *
  go_loopw [17] (fun i wr => ∃ j : Nat, j ≤ n ∧ i = .int .i64 j ∧ Bc lb 12 (rmF (W.decs h R (ms.take j))) wr ∧ Below lb w wr) (fun i _ => n - (intOf i).toNat)
  case atStart => exact ⟨0, by omega, rfl, hb0, hw0⟩
  case round =>
    obtain ⟨j, hj, rfl, hb, hw⟩ := hrel
    clear hb0 hw0
    have hlz : lb ≤ wr.heap.size := by have := hw.size; omega
    by_cases hlt : j < n
    · have hjn : (j : Int) < n := by omega
      have hjl : j < ms.length := by have := hlen.out; omega
      obtain ⟨mb, o, rfl, hmb, hmc⟩ := HM.out (by omega)
      obtain ⟨x, hx⟩ : ∃ x, ms[j]? = some x := ⟨_, List.getElem?_eq_getElem hjl⟩
      have hr := range_below (hmc j x hx) (hlb.symm ▸ hw) (hlb.symm ▸ hmb)
      have l1 := ldM_at hr
      have l2 := stM_new wr x
      have l3 := ldM_at (range_new wr (mgL x) 47)
      have hba := below_alloc wr (.cells (mgL x).toArray 47)
      have h0' : (wr.alloc (.cells (mgL x).toArray 47)).cell? ⟨nb, 0, none⟩ = some (.int .i64 h) := (hba.cell (p := ⟨nb, 0, none⟩) (Nat.lt_of_lt_of_le HN.out.b.lt hw.size)).trans ((hw.cell (p := ⟨nb, 0, none⟩) (hlb ▸ HN.out.b.lt)).trans HN.out.c0)
      have HQ : Hid (_ ∧ _) := ⟨h0', hb.below hba⟩
      have HX : Hid (ms[j]? = some x) := hx
      have HB : Hid (_ ∧ _) := ⟨hw, hba⟩
      have haj : W.adm h (W.decs h R (ms.take j)) x = none := W.ers_at ms R 0 j x HA.out HX.out
      have hRj : W.Rok (W.decs h R (ms.take j)) := W.decs_ok h4 _ R 0 HR.out (W.ers_take ms R 0 j HA.out)
      have HH : Hid (_ ∧ _) := ⟨haj, hRj⟩
      clear h0' hba hr hx hb hw hmc hmb haj hRj
      go_wp2_with (first
        | (go_at_call 30; refine (admit_yes nb lb h h4 x _ HH.out.2 HH.out.1 _ HQ.out.1 HQ.out.2).mono ?_; rintro e w' ⟨rfl, hb', hg'⟩))
      have hb2 : Bc lb 12 (rmF (W.decs h R (ms.take (j + 1)))) w' := by
        rw [List.take_succ_eq_append_getElem hjl, W.decs_app, show ms[j] = x from Option.some.inj ((List.getElem?_eq_getElem hjl).symm.trans HX.out)]
        exact hb'
      have hw2 : Below lb w w' := (HB.out.1.trans (HB.out.2.mono hlz)).grown hg' (Nat.le_trans hlz HB.out.2.size) (fun b e => by cases e; exact Nat.le_refl _)
      clear hb' hg' HH HQ HB l1 l2 l3
      go_roundw
      case rel => exact ⟨j + 1, by omega, by go_num, hb2, hw2⟩
      case measure => simp [intOf]; omega
    · obtain rfl : j = n := by omega
      rw [show ms.take j = ms from List.take_of_length_le (by have := hlen.out; omega)] at hb
      have hN1 : Nt n0 nb h R nx fv L wr := HN.out.below (hlb.symm ▸ hw)
      have l4 := ldR_at hb.rng
      have l5 := hN1.stR (W.decs h R ms)
      have l6 := hN1.setR (W.decs h R ms)
      have hup : Up nb fv fv w (wr.setCells nb 1 (rmL (W.decs h R ms))) := (Up.of_below (hlb.symm ▸ hw)).trans l6.2
      have HU : Hid (_ ∧ _) := ⟨l6.1, hup⟩
      clear l6 hN1 hb hw hup
      go_wp2
      clear l4 l5
      generalize World.setCells wr nb 1 _ = W2 at *
      go_loopw [39] (fun i wx => ∃ k : Nat, k ≤ j ∧ i = .int .i64 k ∧ ∃ fk, Nt n0 nb h (W.decs h R ms) (nx + k) fk (L ++ W.fls nx (ms.take k)) wx ∧ Up nb fv fk w wx) (fun i _ => j - (intOf i).toNat)
      case atStart => exact ⟨0, by omega, rfl, fv, by simpa [W.fls] using HU.out.1, HU.out.2⟩
      case round =>
        obtain ⟨k, hk, rfl, fk, hN3, hU3⟩ := hrel
        clear HU
        by_cases hlt2 : k < j
        · have hkn : (k : Int) < j := by omega
          have hkl : k < ms.length := by have := hlen.out; omega
          obtain ⟨mb, o, rfl, hmb, hmc⟩ := HM.out (by omega)
          obtain ⟨x, hx⟩ : ∃ x, ms[k]? = some x := ⟨_, List.getElem?_eq_getElem hkl⟩
          obtain ⟨hp1, hp2⟩ := HP.out mb o rfl
          have l1 := ldM_at (range_block (hmc k x hx) (hU3.other (hlb.symm ▸ hmb) hp1 hp2).1)
          have l2 := stM_new wr x
          have HX : Hid (ms[k]? = some x) := hx
          have HZ : Hid (_ ∧ _) := ⟨hN3, hU3⟩
          clear hx hmb hmc hp1 hp2 hN3 hU3
          go_wp2
          have hba := below_alloc wr (.cells (mgL x).toArray 47)
          have hN4 := HZ.out.1.below hba
          have hU4 := HZ.out.2.trans (Up.of_below hba)
          have l3 := range_new wr (mgL x) 47
          have hm4 : wr.heap.size < (wr.alloc (.cells (mgL x).toArray 47)).heap.size := by simp
          clear HZ hba
          generalize hmm : wr.heap.size = m4 at *
          generalize World.alloc wr _ = W4 at *
          obtain ⟨ti, hi, hzz⟩ := Option.map_eq_some_iff.1 infoFl
          simp only [Prod.mk.injEq] at hzz
          obtain ⟨hz0, hz1, hz2⟩ := hzz
          have m0 := ldM_at l3
          have m1 := ldM_at (w := W4.drew) l3
          have m2 := fun o => ldM_at (range_below l3 (below_alloc W4 o) hm4)
          have m3 := fun o => ldM_at (w := (W4.alloc o).drew) (range_below l3 (below_alloc W4 o).drew hm4)
          have m5 := fun o => ldM_at (w := W4.drew.alloc o) (range_below (w := W4.drew) l3 (below_alloc W4.drew o) hm4)
          have a0 := hN4.cF
          have a1 : W4.drew.cell? ⟨nb, 14, none⟩ = some fk := hN4.cF
          have a2 := fun o => (hN4.below (below_alloc W4 o)).cF
          have a3 : ∀ o, (W4.alloc o).drew.cell? ⟨nb, 14, none⟩ = some fk := fun o => (hN4.below (below_alloc W4 o)).cF
          have a4 : ∀ o, (W4.drew.alloc o).cell? ⟨nb, 14, none⟩ = some fk := fun o => (hN4.below (below_alloc W4 o)).cF
          have b0 := hN4.cN
          have b1 : W4.drew.cell? ⟨nb, 13, none⟩ = some (.int .i64 (nx + k)) := hN4.cN
          have b2 := fun o => (hN4.below (below_alloc W4 o)).cN
          have b3 : ∀ o, (W4.alloc o).drew.cell? ⟨nb, 13, none⟩ = some (.int .i64 (nx + k)) := fun o => (hN4.below (below_alloc W4 o)).cN
          have b4 : ∀ o, (W4.drew.alloc o).cell? ⟨nb, 13, none⟩ = some (.int .i64 (nx + k)) := fun o => (hN4.below (below_alloc W4 o)).cN
          have hbd := fun w => bdF_any (nx + k) x w
          have hbs := fun w => bsF_any ⟨nx + k, x⟩ w
          have hll : (L ++ W.fls nx (ms.take k)).length ≤ 8192 := by rw [List.length_append, W.fls_len, List.length_take]; omega
          have HO : Hid (_) := hN4.o
          have HZ : Hid (_ ∧ _) := ⟨hN4, hU4⟩
          clear hN4 hU4 l3
          generalize hq : (L ++ W.fls nx (ms.take k)).length = N at *
          generalize hxs : flX (L ++ W.fls nx (ms.take k)) = XS at *
          have HQ : Hid (_ ∧ _) := ⟨hq, hxs⟩
          clear hq hxs
          go_region_law (first
            | ((refine step_lies _ 55 47 54 _ n0 66 ti (.agg zFl) 12 64 Tryd.underlying56 hi hz0 hz1 hz2 rfl (by decide) fk N XS ?a1 ?a3 ⟨W4.heap.size, 0, none⟩ 1 1 (flL ⟨nx + k, x⟩) ?a2 rfl ?a4 ?a5 (by decide) ?a6 ?a7 ?a8 ?_
                case a1 => rfl
                case a2 => rfl
                case a3 => exact own_below HO.out ((Below.refl _ _).drew.alloc (Nat.le_refl _) _)
                case a4 => exact World.news_of_block (cs := (flL ⟨nx + k, x⟩).toArray) (heap_alloc_last W4.drew _)
                case a5 => exact oneF _
                case a6 => unfold maxLen; omega
                case a7 => omega
                case a8 => (have := HZ.out.1.b.lt; have := HZ.out.1.n0; simp; omega)
                intro g cap w6 hown6 hg6 hat6 hlt6
                have g6 := gtrans (gtrans (gdrew W4 fk.ownBlock) (galloc W4.drew (.cells (flL ⟨nx + k, x⟩).toArray 66) _)) hg6
                have B6 := HZ.out.1.b.grown g6 (fun e => HZ.out.1.ne e.symm)
                have c6 : w6.cell? ⟨nb, 14, none⟩ = some fk := B6.c 14 (by decide)
                have f6 : w6.frozen? ⟨nb, 14, none⟩ = false := B6.fz 14))
            | (fail))
          all_goals
            have N6 := HZ.out.1.app (fv' := .slice (some ⟨g, 0, none⟩) (N + 1) cap) ⟨nx + k, x⟩ g6 (by rw [HQ.out.1, HQ.out.2]; exact hown6) (by
              rcases hat6 with e | e
              · exact Or.inl e.symm
              · exact Or.inr ⟨g, rfl, by rw [e]; first | (simp; done) | (simp; omega)⟩)
            clear hown6 hg6 hat6 g6 B6 a0 a1 a2 a3 a4 b0 b1 b2 b3 b4 m0 m1 m2 m3 m5 hbd hbs
            have hU7 := HZ.out.2.trans N6.2
            have N7 := N6.1
            clear N6 HZ c6 f6
            generalize World.setCell w6 _ _ = W7 at *
            clear HQ HO
            have c13 := N7.cN
            have f13 := N7.b.fz 13
            have N8 := N7.next (nx + k + 1)
            have HZ8 : Hid (_ ∧ _) := ⟨N8.1, hU7.trans N8.2⟩
            clear N7 N8 hU7
            go_wp2
            clear c13 f13
            go_roundw
            case rel =>
              refine ⟨k + 1, by omega, by go_num, _, ?_, HZ8.out.2⟩
              have e1 : ms.take (k + 1) = ms.take k ++ [x] := by
                rw [List.take_succ_eq_append_getElem hkl, show ms[k] = x from Option.some.inj ((List.getElem?_eq_getElem hkl).symm.trans HX.out)]
              have e2 : nx + ((k + 1 : Nat) : Int) = nx + k + 1 := by omega
              have e3 : ((ms.take k).length : Int) = k := by rw [List.length_take]; omega
              rw [e1, W.fls_app, e2, e3, ← List.append_assoc]
              exact HZ8.out.1
            case measure => simp [intOf]; omega
        · obtain rfl : k = j := by omega
          rw [show ms.take k = ms from List.take_of_length_le (by have := hlen.out; omega)] at hN3
          have HZ : Hid (_ ∧ _) := ⟨hN3, hU3⟩
          clear hN3 hU3
          go_wp2
          go_ret
          exact ⟨rfl, fk, by rw [← hlen.out]; exact HZ.out.1, HZ.out.2⟩
end Go.Proofs.YtaioioilfanpeaaDoor
