/- cache: Put, Len, Victim. -/
import Derived.Test.YtlindkhmjkionaaDoorCacF
namespace Go.Proofs.YtlindkhmjkionaaDoor
open Go.ChangeShapes Go.WideShapes Go.ChangeAt Go.RowKit
set_option linter.unusedVariables false
set_option linter.unusedSimpArgs false
attribute [local go_sem ↓] ldE_eq stE_eq bdE_eq bsE_eq
variable {n0 cb sb K : Nat} {ways : Int} {sv sv' sv'' : Nat → Value} {S S' : Nat → List W.En} {w w' w'' : World}

theorem Sent.at_ {A : Nat → Addr} (h : Sent A w) (j : Nat) (hj : j < 11) : w.cell? ⟨j, 0, none⟩ = some (.iface 121 (.pointer (some (A j)))) := h.cell j hj
/-- What Put answers: 0 none, 1 ErrRange, 2 ErrKind, 3 ErrFull. -/
def W.pt (K : Nat) (ways : Int) (S : Nat → List W.En) (e : W.En) : Nat := if e.l < 0 then 1 else if e.s < 1 ∨ 4 < e.s then 2 else if W.room K ways S e.l = false then 3 else 0

set_option maxRecDepth 10000 in
set_option maxHeartbeats 1600000 in
theorem put_err (A : Nat → Addr) (H : Ct n0 cb sb K ways sv S w) (hK : 0 < K) (hS : ∀ i, i < K → (S i).length ≤ 4096) (hA : Sent A w) (e : W.En) (k : Nat) (hk : W.pt K ways S e = k) (hk0 : k ≠ 0) :
    Calls Tryd.prog 10 #[.pointer (some ⟨cb, 0, none⟩), enV e] w fun r w' => r = .returned (errV A k) ∧ Below w.heap.size w w' := by
  have hba := below_alloc w (.cells (enL e).toArray 37)
  have hA1 := hA.below hba
  have HR : Hid (Calls _ _ _ _ _) := room_any (H.below hba) hK hS e.l
  have HA : Hid (Sent A w) := hA
  have HB : Hid (Below w.heap.size w (w.alloc (.cells (enL e).toArray 37))) := hba
  have HSE : Hid (Sent A (w.alloc (.cells (enL e).toArray 37))) := hA1
  clear H hA
  unfold W.pt at hk
  have c0 := hA1.at_ 0 (by omega)
  have c1 := hA1.at_ 1 (by omega)
  unfold enL at c0 c1
  by_cases h1 : e.l < 0
  · rw [if_pos h1] at hk
    subst hk
    clear HR hA1 c1 hba HSE
    unfold enV enL errV
    unfold enL at HB
    go_enter Tryd.func10, Tryd.ntmps10
    go_wp2
    go_ret
    exact ⟨rfl, HB.out⟩
  · rw [if_neg h1] at hk
    by_cases h2 : e.s < 1 ∨ 4 < e.s
    · rw [if_pos h2] at hk
      subst hk
      clear HR hA1 c0 hba HSE
      unfold enV enL errV
      unfold enL at HB
      have h2' : e.s < 1 ∨ ¬ e.s < 1 ∧ 4 < e.s := by omega
      clear h2
      rcases h2' with h2 | ⟨h2, h3⟩
      all_goals
        go_enter Tryd.func10, Tryd.ntmps10
        go_wp2
        go_ret
        exact ⟨rfl, HB.out⟩
    · rw [if_neg h2] at hk
      cases hq : W.room K ways S e.l
      · rw [hq, if_pos rfl] at hk
        subst hk
        rw [hq] at HR
        have h2a : ¬ e.s < 1 := by omega
        have h2b : ¬ 4 < e.s := by omega
        clear hA1 c0 c1 hba hq h2
        unfold enV
        unfold errV
        unfold enL at HB HR HSE ⊢
        go_enter Tryd.func10, Tryd.ntmps10
        go_wp2_with (fail)
        refine HR.out.mono ?_
        rintro r w1 ⟨rfl, hb1⟩
        have c2 := (HSE.out.below hb1).at_ 2 (by omega)
        have hb := HB.out.trans (hb1.mono HB.out.size)
        clear hb1
        go_wp2
        go_ret
        exact ⟨rfl, hb⟩
      · rw [hq, if_neg (by simp)] at hk
        exact absurd hk.symm hk0

set_option maxRecDepth 10000 in
set_option maxHeartbeats 1600000 in
theorem put_ok (H : Ct n0 cb sb K ways sv S w) (hK : 0 < K) (hS : ∀ i, i < K → (S i).length ≤ 4096) (e : W.En) (hk : W.pt K ways S e = 0) :
    Calls Tryd.prog 10 #[.pointer (some ⟨cb, 0, none⟩), enV e] w fun r w' => r = .returned .nilIface ∧ ∃ sv', Ct n0 cb sb K ways sv' (W.updS S (W.ix K e.l) (W.lst (S (W.ix K e.l)) e)) w' ∧ Cu sb K sv sv' w w' := by
  have hba := below_alloc w (.cells (enL e).toArray 37)
  have HR : Hid (Calls _ _ _ _ _) := room_any (H.below hba) hK hS e.l
  have HC : Hid (Ct n0 cb sb K ways sv S w) := H
  have HB : Hid (Below w.heap.size w (w.alloc (.cells (enL e).toArray 37))) := hba
  have HE : Hid (EnAt w.heap.size e (w.alloc (.cells (enL e).toArray 37))) := enAt_new w e
  have HS : Hid (∀ i, i < K → (S i).length ≤ 4096) := hS
  clear H hba hS
  unfold W.pt at hk
  by_cases h1 : e.l < 0
  · rw [if_pos h1] at hk; exact absurd hk (by decide)
  · rw [if_neg h1] at hk
    by_cases h2 : e.s < 1 ∨ 4 < e.s
    · rw [if_pos h2] at hk; exact absurd hk (by decide)
    · rw [if_neg h2] at hk
      cases hq : W.room K ways S e.l
      · rw [hq, if_pos rfl] at hk; exact absurd hk (by decide)
      · rw [hq] at HR
        have h2a : ¬ e.s < 1 := by omega
        have h2b : ¬ 4 < e.s := by omega
        have HX : Hid (0 ≤ e.l) := by show 0 ≤ e.l; omega
        have hv : Hid (enV e = .agg (enL e).toArray) := rfl
        have HL : Hid ((∀ w', Ct n0 cb sb K ways sv S w' → Calls Tryd.prog 31 #[.pointer (some ⟨cb, 0, none⟩), enV e] w' fun r w'' => r = .returned (.tuple #[]) ∧ ∃ sv', Ct n0 cb sb K ways sv' (W.updS S (W.ix K e.l) (W.lst (S (W.ix K e.l)) e)) w'' ∧ Cu sb K sv sv' w' w'')) := fun w' H' => last_any H' hK HS.out e HX.out
        clear hq h2 hk
        generalize W.updS S (W.ix K e.l) (W.lst (S (W.ix K e.l)) e) = S2 at *
        have HLD : Hid (∀ w', EnAt w.heap.size e w' → (ldE ⟨w.heap.size, 0, none⟩).run Tryd.prog w' = .ok (enV e) w') := fun w' h => h.ld
        unfold enV enL at HLD HL ⊢
        unfold enL at HB HR HE
        go_enter Tryd.func10, Tryd.ntmps10
        go_wp2_with (fail)
        refine HR.out.mono ?_
        rintro r w1 ⟨rfl, hb1⟩
        have hld := HLD.out w1 (EnAt.below HE.out hb1)
        have hb := HB.out.trans (hb1.mono HB.out.size)
        clear hb1 HR
        go_wp2_with (fail)
        refine (HL.out w1 (HC.out.below hb)).mono ?_
        rintro r w2 ⟨rfl, sv2, hC2, hU2⟩
        have HQ : Hid (_ ∧ _) := ⟨hC2, (Cu.of_below hb).trans hU2⟩
        clear hC2 hU2 hld
        go_wp2
        go_ret
        exact ⟨rfl, sv2, HQ.out.1, HQ.out.2⟩

/-- How many there are in the first sets. -/
def W.sm (S : Nat → List W.En) : Nat → Nat
  | 0 => 0
  | k + 1 => W.sm S k + (S k).length
theorem W.sm_le (hS : ∀ i, i < K → (S i).length ≤ 4096) : ∀ k, k ≤ K → W.sm S k ≤ k * 4096
  | 0, _ => by simp [W.sm]
  | k + 1, h => by
    have := W.sm_le hS k (by omega)
    have := hS k (by omega)
    unfold W.sm
    omega
set_option maxRecDepth 10000 in
set_option maxHeartbeats 1600000 in
theorem len_any (H : Ct n0 cb sb K ways sv S w) (hK : K ≤ 64) (hS : ∀ i, i < K → (S i).length ≤ 4096) :
    Calls Tryd.prog 24 #[.pointer (some ⟨cb, 0, none⟩)] w fun e w' => e = .returned (.int .i64 (W.sm S K)) ∧ w = w' := by
  have c1 := H.c1
  have HH : Hid (Ct n0 cb sb K ways sv S w) := H
  have HS : Hid (∀ i, i < K → (S i).length ≤ 4096) := hS
  clear H hS
  go_enter Tryd.func24, Tryd.ntmps24
  go_wp2
  go_loopw [3, 11] (fun n i wr => ∃ k : Nat, k ≤ K ∧ i = .int .i64 k ∧ n = .int .i64 (W.sm S k) ∧ w = wr) (fun _ i _ => K - (intOf i).toNat)
  case atStart => exact ⟨0, by omega, rfl, rfl, rfl⟩
  case round =>
    obtain ⟨k, hk, rfl, rfl, rfl⟩ := hrel
    by_cases h : k < K
    · have hkK : (k : Int) < K := by omega
      have ck := HH.out.s.c k h
      have hb := W.sm_le HS.out k hk
      have hn := HS.out k h
      obtain ⟨g, a, cap, hv, hcap, _, _⟩ := HH.out.rw_ h
      rw [hv] at ck
      have hs : W.sm S (k + 1) = W.sm S k + (S k).length := rfl
      have HSM : Hid (_) := hs
      clear hs hv
      generalize (S k).length = len at *
      generalize W.sm S k = m at *
      go_wp2
      go_roundw
      case rel => exact ⟨k + 1, by omega, by go_num, by rw [HSM.out]; go_num, by first | rfl | trivial⟩
      case measure => simp [intOf]; omega
    · obtain rfl : k = K := by omega
      go_wp2
      go_ret
      exact ⟨rfl, rfl⟩
end Go.Proofs.YtlindkhmjkionaaDoor
