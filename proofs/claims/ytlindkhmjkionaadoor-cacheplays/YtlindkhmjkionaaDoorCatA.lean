/- cache: Grow, Concat. -/
import Derived.Test.YtlindkhmjkionaaDoorCacI
import Derived.Test.YtlindkhmjkionaaDoorCacC
import Derived.Deep.DeepAppendRoom
import Derived.Lib.AppendZeros
namespace Go.Proofs.YtlindkhmjkionaaDoor
open Go.ChangeShapes Go.WideShapes Go.ChangeAt Go.RowKit
set_option linter.unusedVariables false
set_option linter.unusedSimpArgs false
attribute [local go_sem ↓] ldE_eq stE_eq bdE_eq bsE_eq
variable {n0 cb sb K : Nat} {ways : Int} {sv sv' sv'' : Nat → Value} {S S' : Nat → List W.En} {w w' w'' : World}

theorem grow_0 (w : World) : Calls Tryd.prog 47 #[.slice none 0 0, .int .i64 0] w fun e w' => e = .returned (.slice none 0 0) ∧ w = w' := by
  go_enter Tryd.func47, Tryd.ntmps47
  go_wp2
  go_ret
  exact ⟨rfl, rfl⟩
theorem intKind : Tryd.prog.underlying 3 = some (.int .i64) := by kernel_rfl
set_option maxRecDepth 10000 in
set_option maxHeartbeats 1600000 in
theorem grow_n (n : Nat) (h0 : 0 < n) (h1 : n ≤ 60000) (w : World) : Calls Tryd.prog 47 #[.slice none 0 0, .int .i64 n] w fun e w' => ∃ c, e = .returned (.slice (some ⟨w.heap.size, 0, none⟩) 0 c) ∧ n ≤ c ∧ w'.ownsRow w.heap.size 37 6 (.slice (some ⟨w.heap.size, 0, none⟩) 0 c) 0 [] ∧ Below w.heap.size w w' := by
  obtain ⟨ti, hti, hzz⟩ := Option.map_eq_some_iff.1 infoEn
  simp only [Prod.mk.injEq] at hzz
  obtain ⟨hz0, hz1, hz2⟩ := hzz
  have hr := fun ty => Lib.run_append_nil_zeros (P := Tryd.prog) w 57 3 ty 37 ti _ .i64 .i64 Tryd.underlying57 intKind hti hz0 n h0 (by rw [hz1]; decide) (by omega) (by rw [hz2]; omega)
  have hge := grownCap_ge w n 0 37
  have hle := grownCap_le_maxLen w n 0 37 (by unfold maxLen; omega)
  generalize grownCap w n 0 37 = c at *
  have hown : (w.drew.alloc (.cells (Builtin.zeroCells (Value.agg zEn).cells n ++ Builtin.zeroCells (Value.agg zEn).cells (c - n)) 37)).ownsRow w.heap.size 37 6 (.slice (some ⟨w.heap.size, 0, none⟩) 0 c) 0 [] := by
    refine World.ownsRow_made w.drew _ c (Nat.le_refl _) hle ?_
    rw [Array.size_append, size_zeroCells, size_zeroCells]
    show n * 6 + (c - n) * 6 = c * 6
    omega
  have hb : Below w.heap.size w (w.drew.alloc (.cells (Builtin.zeroCells (Value.agg zEn).cells n ++ Builtin.zeroCells (Value.agg zEn).cells (c - n)) 37)) := (Below.refl _ _).drew.alloc (Nat.le_refl _) _
  have HF : Hid (_ ∧ _) := ⟨hown, hb⟩
  have HR : Hid (_) := hr
  have hc64 : (n : Int) ≤ c := by omega
  unfold maxLen at hle
  clear hown hb hr
  go_enter Tryd.func47, Tryd.ntmps47
  go_wp2_with (at_builtin; refine Lib.wpList_append_run _ rfl _ _ _ _ rfl _ _ rfl rfl _ _ (HR.out _) ?_)
  go_ret
  exact ⟨c, rfl, hge, HF.out.1, HF.out.2⟩

/-- All that stand in the first sets. -/
def W.cat (S : Nat → List W.En) : Nat → List W.En
  | 0 => []
  | k + 1 => W.cat S k ++ S k
theorem W.cat_len (S : Nat → List W.En) : ∀ k, (W.cat S k).length = W.sm S k
  | 0 => rfl
  | k + 1 => by unfold W.cat W.sm; rw [List.length_append, W.cat_len S k]
theorem W.sm_step (S : Nat → List W.En) (k : Nat) : W.sm S (k + 1) = W.sm S k + (S k).length := rfl
theorem W.sm_mono (S : Nat → List W.En) (k j : Nat) (h : k ≤ j) : W.sm S k ≤ W.sm S j := by
  induction j with
  | zero => rw [Nat.le_zero.1 h]; exact Nat.le_refl _
  | succ j ih =>
    by_cases e : k = j + 1
    · rw [e]; exact Nat.le_refl _
    · have := ih (by omega)
      rw [W.sm_step]
      omega
theorem append_nilE (t ty : TypeId) (w : World) (ht : Tryd.prog.underlying t = some (.slice 37)) (a : Option Addr) (n cap : Nat) (hc : n ≤ cap) (b : Option Addr) (c : Nat) : (Builtin.append_ #[t, t] ty #[.slice a n cap, .slice b 0 c]).run Tryd.prog w = .ok (.slice a n cap) w := by
  obtain ⟨i, hi, hzz⟩ := Option.map_eq_some_iff.1 infoEn
  cases b <;> cases a <;> simp [Builtin.append_, run_underlying ht, sizeOf, typeInfo, hi, Builtin.lenOf, hc, Builtin.firstCells, storeCells, loadCells, loadCellsFrom]

set_option maxRecDepth 10000 in
set_option maxHeartbeats 1600000 in
theorem concat_any (H : Ct n0 cb sb K ways sv S w) (hK : K ≤ 64) (hS : ∀ i, i < K → (S i).length ≤ 8) :
    Calls Tryd.prog 38 #[.slice (some ⟨sb, 0, none⟩) K K] w fun e w' => ∃ v, e = .returned v ∧ w'.ownsRow w.heap.size 37 6 v (W.sm S K) (enX (W.cat S K)) ∧ (W.sm S K = 0 → v = .slice none 0 0) ∧ Below w.heap.size w w' := by
  have HH : Hid (Ct n0 cb sb K ways sv S w) := H
  have HS : Hid (∀ i, i < K → (S i).length ≤ 8) := hS
  have hsm : ∀ k, k ≤ K → W.sm S k ≤ k * 8 := fun k hk => by
    induction k with
    | zero => exact Nat.le_refl _
    | succ k ih =>
      have h1 := ih (by omega)
      have h2 := hS k (by omega)
      rw [W.sm_step]
      omega
  have HSM : Hid (_) := hsm
  obtain ⟨ti, hti, hzz⟩ := Option.map_eq_some_iff.1 infoEn
  simp only [Prod.mk.injEq] at hzz
  obtain ⟨hz0, hz1, hz2⟩ := hzz
  clear H hS hsm
  go_enter Tryd.func38, Tryd.ntmps38
  go_wp2
  go_loopw [3, 11] (fun n i wr => ∃ k : Nat, k ≤ K ∧ i = .int .i64 k ∧ n = .int .i64 (W.sm S k) ∧ w = wr) (fun _ i _ => K - (intOf i).toNat)
  case atStart => exact ⟨0, by omega, rfl, rfl, rfl⟩
  case round =>
    obtain ⟨k, hk, rfl, rfl, rfl⟩ := hrel
    by_cases h : k < K
    · have hkK : (k : Int) < K := by omega
      have ck := HH.out.s.c k h
      have hb := HSM.out k hk
      have hn := HS.out k h
      obtain ⟨g, a, cap, hv, hcap, _, _⟩ := HH.out.rw_ h
      rw [hv] at ck
      have HST : Hid (W.sm S (k + 1) = W.sm S k + (S k).length) := W.sm_step S k
      clear hv
      generalize (S k).length = len at *
      generalize W.sm S k = m at *
      have hm0 : (0 : Int) ≤ (m : Int) + (len : Int) := by omega
      go_wp2
      go_roundw
      case rel => exact ⟨k + 1, by omega, by go_num, by rw [HST.out]; go_num, by first | rfl | trivial⟩
      case measure => simp [intOf]; omega
    · obtain rfl : k = K := by omega
      have hgr : Calls Tryd.prog 47 #[.slice none 0 0, .int .i64 (W.sm S k)] w fun e w' => ∃ a c, e = .returned (.slice a 0 c) ∧ W.sm S k ≤ c ∧ w'.ownsRow w.heap.size 37 6 (.slice a 0 c) 0 [] ∧ Below w.heap.size w w' ∧ (W.sm S k = 0 → a = none ∧ c = 0) ∧ (0 < W.sm S k → a = some ⟨w.heap.size, 0, none⟩) := by
        by_cases h0 : W.sm S k = 0
        · rw [h0]
          exact (grow_0 w).mono fun e w' h => ⟨none, 0, h.1, Nat.le_refl _, ⟨rfl, Or.inl ⟨rfl, rfl⟩⟩, h.2 ▸ Below.refl _ _, fun _ => ⟨rfl, rfl⟩, fun q => by omega⟩
        · refine (grow_n (W.sm S k) (by omega) (by have := HSM.out k (Nat.le_refl _); omega) w).mono fun e w' h => ?_
          obtain ⟨c, h1, h2, h3, h4⟩ := h
          exact ⟨_, c, h1, h2, h3, h4, fun q => absurd q h0, fun _ => rfl⟩
      have HGR : Hid (Calls _ _ _ _ _) := hgr
      clear hgr
      go_wp2_with (fail)
      refine HGR.out.mono ?_
      rintro e w1 ⟨a0, c0, rfl, hc0, hown, hb1, hz, hp⟩
      have H1 : Hid (_ ∧ _ ∧ _ ∧ _) := ⟨hown, hb1, hz, hp⟩
      clear hown hb1 hz hp HGR
      go_wp2
      generalize hW1 : w1 = W1 at *
      clear hW1
      go_loopw [6, 27] (fun v i wr => ∃ j : Nat, j ≤ k ∧ i = .int .i64 j ∧ v = .slice a0 (W.sm S j) c0 ∧ wr.ownsRow w.heap.size 37 6 (.slice a0 (W.sm S j) c0) (W.sm S j) (enX (W.cat S j)) ∧ Below w.heap.size w wr) (fun _ i _ => k - (intOf i).toNat)
      case atStart => exact ⟨0, by omega, rfl, rfl, H1.out.1, H1.out.2.1⟩
      case round =>
        obtain ⟨j, hj, rfl, rfl, hown, hb⟩ := hrel
        by_cases hjk : j < k
        · have hjk' : (j : Int) < k := by omega
          have hC := HH.out.below hb
          have ck := hC.s.c j hjk
          have cs := (HH.out.s.below hb)
          have hmono := W.sm_mono S (j + 1) k (by omega)
          have hstep := W.sm_step S j
          have HST : Hid (W.sm S (j + 1) = W.sm S j + (S j).length) := hstep
          have hoj := hC.o j hjk
          have hn8 := HS.out j hjk
          have hc64 : (k : Int) ≤ 64 := by omega
          rcases hoj.2 with ⟨h1, h2⟩ | ⟨g, cap, cur, h1, hbg, hg, hnc, hcm, hcs, htk⟩
          · rw [h1] at ck
            have happ := fun ty w => append_nilE 57 ty w Tryd.underlying57 a0 (W.sm S j) c0 (by omega) none 0
            have HAP : Hid (_) := happ
            have hcat : W.cat S (j + 1) = W.cat S j := by
              show W.cat S j ++ S j = W.cat S j
              rw [List.eq_nil_of_length_eq_zero h2, List.append_nil]
            have HF : Hid (_ ∧ _ ∧ W.sm S (j + 1) = W.sm S j ∧ _) := ⟨hown, hb, by rw [hstep, h2]; rfl, hcat⟩
            clear hown hb hC cs hoj happ hstep hcat
            go_wp2_with (at_builtin; refine Lib.wpList_append_run _ rfl _ _ _ _ rfl _ _ rfl rfl _ _ (HAP.out _ _) ?_)
            go_roundw
            case rel => exact ⟨j + 1, by omega, by go_num, by rw [HF.out.2.2.1], by rw [HF.out.2.2.1, HF.out.2.2.2]; exact HF.out.1, HF.out.2.1⟩
            case measure => simp [intOf]; omega
          · rw [h1] at ck
            by_cases hl0 : (S j).length = 0
            · rw [hl0] at ck
              have happ := fun ty w => append_nilE 57 ty w Tryd.underlying57 a0 (W.sm S j) c0 (by omega) (some ⟨g, 0, none⟩) cap
              have HAP : Hid (_) := happ
              have hcat : W.cat S (j + 1) = W.cat S j := by
                show W.cat S j ++ S j = W.cat S j
                rw [List.eq_nil_of_length_eq_zero hl0, List.append_nil]
              have HF : Hid (_ ∧ _ ∧ W.sm S (j + 1) = W.sm S j ∧ _) := ⟨hown, hb, by rw [hstep, hl0]; rfl, hcat⟩
              clear hown hb hC cs hoj happ hstep hcat
              go_wp2_with (at_builtin; refine Lib.wpList_append_run _ rfl _ _ _ _ rfl _ _ rfl rfl _ _ (HAP.out _ _) ?_)
              go_roundw
              case rel => exact ⟨j + 1, by omega, by go_num, by rw [HF.out.2.2.1], by rw [HF.out.2.2.1, HF.out.2.2.2]; exact HF.out.1, HF.out.2.1⟩
              case measure => simp [intOf]; omega
            · obtain rfl := H1.out.2.2.2 (by omega)
              have hnews : ∀ i u, (enX (S j))[i]? = some u → wr.cell? ((⟨g, 0, none⟩ : Addr).add i) = some u := fun i u hu => by
                have hi := (List.getElem?_eq_some_iff.1 hu).1
                rw [enX_len] at hi
                rw [h1] at hoj
                rw [Addr.add_lit, Nat.zero_add, hoj.cellAt i (by omega)]
                exact hu
              have HNW : Hid (_) := hnews
              have HO : Hid (_) := hown
              have HB : Hid (Below w.heap.size w wr) := hb
              have hcat : W.cat S (j + 1) = W.cat S j ++ S j := rfl
              have HF : Hid (enX (W.cat S (j + 1)) = enX (W.cat S j) ++ enX (S j)) := by
                show enX (W.cat S (j + 1)) = _
                rw [hcat]
                simp [enX]
              have hle : W.sm S j + (S j).length ≤ c0 := by omega
              clear hown hb hC cs hoj hnews hcat hstep hmono
              go_wp2_with (at_builtin; refine wpList_append_own_spare _ rfl _ _ 57 rfl w.heap.size 37 ti 6 Tryd.underlying57 hti hz1 w.heap.size (W.sm S j) c0 (enX (W.cat S j)) rfl HO.out ⟨g, 0, none⟩ (S j).length cap (enX (S j)) rfl (by rw [enX_len]) HNW.out (oneEX _) hle ?_; intro w6 hown6 hg6)
              have hb6 : Below w.heap.size w w6 := HB.out.grown hg6 HB.out.size (by intro q hq; cases hq; exact Nat.le_refl _)
              have HFF : Hid (_ ∧ _) := ⟨hown6, hb6⟩
              clear hown6 hg6 hb6
              go_roundw
              case rel => exact ⟨j + 1, by omega, by go_num, by rw [HST.out], by rw [HST.out, HF.out]; exact HFF.out.1, HFF.out.2⟩
              case measure => simp [intOf]; omega
        · obtain rfl : j = k := by omega
          have HF : Hid (_ ∧ _) := ⟨hown, hb⟩
          clear hown hb
          go_wp2
          go_ret
          refine ⟨_, rfl, HF.out.1, fun h0 => ?_, HF.out.2⟩
          obtain ⟨rfl, rfl⟩ := H1.out.2.2.1 h0
          rw [h0]
          rfl
end Go.Proofs.YtlindkhmjkionaaDoor
