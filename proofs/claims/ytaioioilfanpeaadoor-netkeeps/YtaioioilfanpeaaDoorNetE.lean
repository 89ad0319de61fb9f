/- net: Send, where one can't go. -/
import Derived.Test.YtaioioilfanpeaaDoorNetD
import Derived.Deep.RegionLaw
namespace Go.Proofs.YtaioioilfanpeaaDoor
open Go.ChangeShapes Go.WideShapes Go.ChangeAt Go.RowKit
set_option linter.unusedVariables false
set_option linter.unusedSimpArgs false
attribute [local go_sem ↓] ldM_eq stM_eq ldR_eq stR_eq

def rmL (R : Nat → Int) : List Value := [rmF R 0, rmF R 1, rmF R 2, rmF R 3, rmF R 4, rmF R 5, rmF R 6, rmF R 7, rmF R 8, rmF R 9, rmF R 10, rmF R 11]
theorem rmL_get (R : Nat → Int) (j : Nat) (v : Value) (h : (rmL R)[j]? = some v) : j < 12 ∧ v = rmF R j := by
  match j, h with
  | 0, h | 1, h | 2, h | 3, h | 4, h | 5, h | 6, h | 7, h | 8, h | 9, h | 10, h | 11, h => exact ⟨by omega, (Option.some.inj h).symm⟩
  | j + 12, h => simp [rmL] at h
theorem oneR (R : Nat → Int) : ∀ u ∈ rmL R, u.oneCell' = true := by intro u hu; simp [rmL, rmF] at hu; rcases hu with h | h | h | h | h | h | h | h | h | h | h | h <;> subst h <;> rfl
theorem ldR_at {w : World} {b o : Nat} {R : Nat → Int} (h : w.rangeAt b o (rmL R)) : (ldR ⟨b, o, none⟩).run Tryd.prog w = .ok (.agg (rmL R).toArray) w := run_loadVar_mid w b o _ _ _ h Tryd.underlying70 rfl (by kernel_rfl)
theorem stR_new (w : World) (R : Nat → Int) (Z : Array Value) (hz : Z.size = 12) : (stR ⟨w.heap.size, 0, none⟩ (.agg (rmL R).toArray)).run Tryd.prog (w.alloc (.cells Z 70)) = .ok () (w.alloc (.cells (rmL R).toArray 70)) := by
  have := run_storeVar_new (P := Tryd.prog) w 70 Z (rmL R).toArray (by kernel_rfl) (by rw [hz]; rfl) (by simpa using oneR R)
  exact this
theorem Nt.rng {n0 nb : Nat} {h : Int} {R : Nat → Int} {nx : Int} {fv : Value} {L : List W.Fl} {w : World} (H : Nt n0 nb h R nx fv L w) : w.rangeAt nb 1 (rmL R) := fun j v hv => by
  obtain ⟨hj, rfl⟩ := rmL_get R j v hv
  exact H.cR j hj
theorem bc_rooms (w : World) (R : Nat → Int) : Bc w.heap.size 12 (rmF R) (w.alloc (.cells (rmL R).toArray 70)) :=
  bc_row (heap_alloc_last w _) (fun j hj => by
    match j, hj with
    | 0, _ | 1, _ | 2, _ | 3, _ | 4, _ | 5, _ | 6, _ | 7, _ | 8, _ | 9, _ | 10, _ | 11, _ => rfl)

set_option maxRecDepth 100000 in
set_option maxHeartbeats 1600000 in
theorem send_bad (A : Nat → Addr) (n0 nb : Nat) (h : Int) (h4 : h ≤ 4) (R : Nat → Int) (hR : W.Rok R) (nx : Int) (fv : Value) (L : List W.Fl) (s : W.Sl) (ms : List W.Mg) (k p : Nat) (w : World) (hN : Nt n0 nb h R nx fv L w) (hM : Ms s ms w) (hS : Sent A w) (he : W.ers h R ms 0 = some (k, p)) :
    Calls Tryd.prog 11 #[.pointer (some ⟨nb, 0, none⟩), slV s] w fun e w' => (∃ q, e = .returned (.iface 78 (.pointer (some ⟨q, 0, none⟩))) ∧ w'.heap[q]? = some (.cells #[.int .i64 (k : Int), ptr A (perm p)] 80)) ∧ Below w.heap.size w w' := by
  obtain ⟨j0, m0, rfl, hj0, ha0, hpre⟩ := W.ers_some ms R 0 k p he
  obtain ⟨a, n, c⟩ := s
  obtain ⟨hn, hm, hnc, hat⟩ := hM
  dsimp only at hn hm hnc hat
  have hj0' : j0 < ms.length := (List.getElem?_eq_some_iff.1 hj0).1
  obtain ⟨mb, o, rfl, hmb, hmc⟩ := hat (by omega)
  have hlR := ldR_at hN.rng
  have hsR := stR_new w R
  have HN : Hid (_ ∧ _) := ⟨hN, hS⟩
  have HM : Hid (∀ j x, ms[j]? = some x → w.rangeAt mb (o + j * 11) (mgL x)) := hmc
  have HA : Hid (_ ∧ _) := ⟨ha0, hpre⟩
  have HJ : Hid (ms[j0]? = some m0) := hj0
  have HR : Hid (W.Rok R) := hR
  have h0n : 0 < n := by omega
  have hlen : Hid (n = ms.length) := hn
  have hj0n : j0 < n := by omega
  clear hat hmc hN hS he ha0 hpre hj0 hR hn hj0'
  rw [Nat.zero_add]
  unfold slV
  go_enter Tryd.func11, Tryd.ntmps11
  go_wp2
  have hb0 := bc_rooms w R
  have hw0 := below_alloc w (.cells (rmL R).toArray 70)
  generalize hlb : w.heap.size = lb at *
  generalize World.alloc w _ = W1 at *
  go_loopw [17] (fun i wr => ∃ j : Nat, j ≤ j0 ∧ i = .int .i64 j ∧ Bc lb 12 (rmF (W.decs h R (ms.take j))) wr ∧ Below lb w wr) (fun i _ => n - (intOf i).toNat)
  case atStart => exact ⟨0, by omega, rfl, hb0, hw0⟩
  case round =>
    obtain ⟨j, hj, rfl, hb, hw⟩ := hrel
    clear hb0 hw0
    have hjn : (j : Int) < n := by omega
    have hjl : j < ms.length := by have := hlen.out; omega
    obtain ⟨x, hx⟩ : ∃ x, ms[j]? = some x := ⟨_, List.getElem?_eq_getElem hjl⟩
    have hr := range_below (HM.out j x hx) (hlb.symm ▸ hw) (hlb.symm ▸ hmb)
    have l1 := ldM_at hr
    have l2 := stM_new wr x
    have l3 := ldM_at (range_new wr (mgL x) 47)
    have hba := below_alloc wr (.cells (mgL x).toArray 47)
    have h0' : (wr.alloc (.cells (mgL x).toArray 47)).cell? ⟨nb, 0, none⟩ = some (.int .i64 h) := (hba.cell (p := ⟨nb, 0, none⟩) (Nat.lt_of_lt_of_le HN.out.1.b.lt hw.size)).trans ((hw.cell (p := ⟨nb, 0, none⟩) (hlb ▸ HN.out.1.b.lt)).trans HN.out.1.c0)
    have HQ : Hid (_ ∧ _ ∧ _) := ⟨h0', hb.below hba, (HN.out.2.below (hlb ▸ hw)).below hba⟩
    have HX : Hid (ms[j]? = some x) := hx
    have HB : Hid (_ ∧ _) := ⟨hw, hba⟩
    have hlz : lb ≤ wr.heap.size := by have := hw.size; omega
    clear h0' hba hr hx hb hw
    by_cases hlt : j < j0
    · have haj : W.adm h (W.decs h R (ms.take j)) x = none := by
        have := W.ers_at (ms.take j0) R 0 j x HA.out.2 (by rw [List.getElem?_take_of_lt hlt]; exact HX.out)
        rwa [List.take_take, Nat.min_eq_left (by omega)] at this
      have hRj : W.Rok (W.decs h R (ms.take j)) := W.decs_ok h4 _ R 0 HR.out (by
        have := W.ers_take (ms.take j0) R 0 j HA.out.2
        rwa [List.take_take, Nat.min_eq_left (by omega)] at this)
      have HH : Hid (_ ∧ _) := ⟨haj, hRj⟩
      clear haj hRj
      go_wp2_with (first
        | (go_at_call 30; refine (admit_yes nb lb h h4 x _ HH.out.2 HH.out.1 _ HQ.out.1 HQ.out.2.1).mono ?_; rintro e w' ⟨rfl, hb', hg'⟩))
      have hb2 : Bc lb 12 (rmF (W.decs h R (ms.take (j + 1)))) w' := by
        rw [List.take_succ_eq_append_getElem hjl, W.decs_app, show ms[j] = x from Option.some.inj ((List.getElem?_eq_getElem hjl).symm.trans HX.out)]
        exact hb'
      have hw2 : Below lb w w' := (HB.out.1.trans (HB.out.2.mono hlz)).grown hg' (Nat.le_trans hlz HB.out.2.size) (fun b e => by cases e; exact Nat.le_refl _)
      clear hb' hg' HH HQ HB l1 l2 l3
      go_roundw
      case rel => exact ⟨j + 1, by omega, by go_num, hb2, hw2⟩
      case measure => simp [intOf]; omega
    · obtain rfl : j = j0 := by omega
      have HE : Hid (x = m0) := Option.some.inj (HX.out.symm.trans HJ.out)
      go_wp2_with (first
        | (go_at_call 30; refine (admit_no A nb lb h h4 x _ (W.decs_ok h4 _ R 0 HR.out HA.out.2) p (by rw [HE.out]; exact HA.out.1) _ HQ.out.1 HQ.out.2.1 HQ.out.2.2).mono ?_; rintro e w' ⟨rfl, hb'⟩; unfold ptr))
      go_ret
      refine ⟨⟨w'.heap.size, rfl, heap_alloc_last _ _⟩, ?_⟩
      rw [hlb]
      exact (HB.out.1.trans ((HB.out.2.trans (hb'.mono HB.out.2.size)).mono hlz)).alloc (Nat.le_trans hlz (Nat.le_trans HB.out.2.size hb'.size)) _
end Go.Proofs.YtaioioilfanpeaaDoor
