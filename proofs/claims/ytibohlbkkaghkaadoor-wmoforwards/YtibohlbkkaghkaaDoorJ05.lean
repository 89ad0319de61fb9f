/- Texts in one: WmoQ. -/
import Derived.Test.YtibohlbkkaghkaaDoorJ04
/- wmo: overwritten, parted. -/
namespace Go.Proofs.YtibohlbkkaghkaaDoor
open Go.ChangeShapes Go.WideShapes Go.ChangeAt Go.RowKit Go.Maps
set_option linter.unusedVariables false
set_option linter.unusedSimpArgs false

namespace W
/-- Was one of the first i bytes that z read then written by another hart? -/
def ovB (L : Int → Rc) (z : StR) : Nat → Bool
  | 0 => false
  | i + 1 => ovB L z i || decide (z.fr i < (L (z.o.ad + i)).notOf z.ha)
theorem ovB_up (L : Int → Rc) (z : StR) (i : Nat) : ∀ j, i ≤ j → ovB L z i = true → ovB L z j = true
  | 0, h, e => by
    obtain rfl : i = 0 := by omega
    exact e
  | j + 1, h, e => by
    by_cases h2 : i = j + 1
    · subst h2; exact e
    · unfold ovB
      rw [ovB_up L z i j (by omega) e]
      rfl
end W
theorem Below.dr {n : Nat} {x y : World} (h : Below n x y) : Below n x y.drew := h.drew
set_option maxRecDepth 10000 in
set_option maxHeartbeats 1600000 in
theorem overwritten_any (sb M : Nat) (q : Nat → StR) (B c : Nat) (L : Int → W.Rc) (p : Nat) (w : World) (hS : Sb2 sb M q w) (hM : M ≤ 5000) (hm : Mr B c L w) (hp : p < M) (a0 : 0 ≤ (q p).o.ad) (a1 : (q p).o.ad + 4 ≤ 4294967296) :
    Calls Tryd.prog 43 #[.pointer (some ⟨sb, p * 19, none⟩), .map (some B)] w fun e w' => e = .returned (.bool (W.ovB L (q p) 4)) ∧ Below w.heap.size w w' := by
  have c15 := hS.cell p 15 hp (by decide) (.int .i64 ((q p).fr 0)) rfl
  have c16 := hS.cell p 16 hp (by decide) (.int .i64 ((q p).fr 1)) rfl
  have c17 := hS.cell p 17 hp (by decide) (.int .i64 ((q p).fr 2)) rfl
  have c18 := hS.cell p 18 hp (by decide) (.int .i64 ((q p).fr 3)) rfl
  have sl := hS.b.lt
  have HH : Hid (_ ∧ _) := ⟨hS, hm⟩
  clear hS hm
  obtain ⟨R, hR⟩ : ∃ R, R = W.ovB L (q p) 4 := ⟨_, rfl⟩
  rw [← hR]
  have HR : Hid _ := hR
  clear hR
  generalize hf0 : (q p).fr 0 = f0 at *
  generalize hf1 : (q p).fr 1 = f1 at *
  generalize hf2 : (q p).fr 2 = f2 at *
  generalize hf3 : (q p).fr 3 = f3 at *
  have HF : Hid (_ ∧ _ ∧ _ ∧ _) := ⟨hf0, hf1, hf2, hf3⟩
  clear hf0 hf1 hf2 hf3
  go_enter Tryd.func43, Tryd.ntmps43
  go_wp2
  go_loopw [11] (fun i wr => ∃ j : Nat, j ≤ 4 ∧ i = .int .i64 (j : Int) ∧ W.ovB L (q p) j = false ∧ Below w.heap.size w wr) (fun i _ => 4 - (intOf i).toNat)
  case atStart => exact ⟨0, by omega, rfl, rfl, Below.refl _ _⟩
  case round =>
    clear c15 c16 c17 c18
    obtain ⟨j, hj, rfl, hO, br⟩ := hrel
    by_cases hlt : j < 4
    · have hS := HH.out.1.below br
      have slr := hS.b.lt
      match j, hlt with
      | 0, _ =>
        have ld2 := hS.cell p 2 hp (by decide) (.int .u32 (q p).o.ad) rfl
        have ld13 := hS.cell p 13 hp (by decide) (.int .i64 (q p).ha) rfl
        have lk := (HH.out.2.below br.drew).look ((q p).o.ad + 0) (by omega) (by omega)
        have hc := fun w' => notOf_any (L ((q p).o.ad + 0)) (q p).ha w'
        have eB : W.ovB L (q p) 1 = (W.ovB L (q p) 0 || decide ((q p).fr 0 < (L ((q p).o.ad + 0)).notOf (q p).ha)) := rfl
        rw [hO, Bool.false_or] at eB
        have HC : Hid (_ ∧ _ ∧ _) := ⟨hc, eB, br⟩
        clear hc eB hO
        generalize hRC : L ((q p).o.ad + 0) = RC at *
        generalize hNO : RC.notOf (q p).ha = NO at *
        generalize rcV RC = RV at *
        generalize hAD : (q p).o.ad = AD at *
        generalize hHA : (q p).ha = HA at *
        have eA : IntKind.u32.wrap (AD + IntKind.u32.wrap 0) = AD + 0 := by
          show (AD + (0 : Int) % 4294967296) % 4294967296 = _
          omega
        try rw [Int.add_zero] at lk
        have hix : ∀ w, (Instr.index 83 (.agg #[.int .i64 f0, .int .i64 f1, .int .i64 f2, .int .i64 f3]) (.int .i64 0)).run Tryd.prog w = .ok (.int .i64 f0) w := fun w => by kernel_rfl
        by_cases hln : f0 < NO
        · go_wp2_with (fail)
          go_region_with ((go_at_call 55; refine (HC.out.1 _).mono ?_; rintro e w2 ⟨rfl, b2⟩))
          all_goals
            have b3 := HC.out.2.2.drew.trans (b2.mono HC.out.2.2.size)
            have e2 : W.ovB L (q p) 1 = true := by rw [HC.out.2.1, HF.out.1]; exact decide_eq_true (by omega)
            have HZ : Hid (_ ∧ _) := ⟨b3, e2⟩
            clear b2 HC b3 e2 lk hix eA ld2 ld13 hRC hNO hAD hHA
            go_wp2
            go_ret
            refine ⟨?_, HZ.out.1⟩
            rw [HR.out, W.ovB_up L (q p) 1 4 (by decide) HZ.out.2]
            rfl
        · go_wp2_with (fail)
          go_region_with ((go_at_call 55; refine (HC.out.1 _).mono ?_; rintro e w2 ⟨rfl, b2⟩))
          all_goals
            have b3 := HC.out.2.2.drew.trans (b2.mono HC.out.2.2.size)
            have e2 : W.ovB L (q p) 1 = false := by rw [HC.out.2.1, HF.out.1]; exact decide_eq_false (by omega)
            have HZ : Hid (_ ∧ _) := ⟨b3, e2⟩
            clear b2 HC b3 e2 lk hix eA ld2 ld13 hRC hNO hAD hHA
            go_wp2
            go_roundw
            case rel => exact ⟨1, by decide, by first | rfl | go_num, HZ.out.2, HZ.out.1⟩
            case measure => simp [intOf]
      | 1, _ =>
        have ld2 := hS.cell p 2 hp (by decide) (.int .u32 (q p).o.ad) rfl
        have ld13 := hS.cell p 13 hp (by decide) (.int .i64 (q p).ha) rfl
        have lk := (HH.out.2.below br.drew).look ((q p).o.ad + 1) (by omega) (by omega)
        have hc := fun w' => notOf_any (L ((q p).o.ad + 1)) (q p).ha w'
        have eB : W.ovB L (q p) 2 = (W.ovB L (q p) 1 || decide ((q p).fr 1 < (L ((q p).o.ad + 1)).notOf (q p).ha)) := rfl
        rw [hO, Bool.false_or] at eB
        have HC : Hid (_ ∧ _ ∧ _) := ⟨hc, eB, br⟩
        clear hc eB hO
        generalize hRC : L ((q p).o.ad + 1) = RC at *
        generalize hNO : RC.notOf (q p).ha = NO at *
        generalize rcV RC = RV at *
        generalize hAD : (q p).o.ad = AD at *
        generalize hHA : (q p).ha = HA at *
        have eA : IntKind.u32.wrap (AD + IntKind.u32.wrap 1) = AD + 1 := by
          show (AD + (1 : Int) % 4294967296) % 4294967296 = _
          omega
        try rw [Int.add_zero] at lk
        have hix : ∀ w, (Instr.index 83 (.agg #[.int .i64 f0, .int .i64 f1, .int .i64 f2, .int .i64 f3]) (.int .i64 1)).run Tryd.prog w = .ok (.int .i64 f1) w := fun w => by kernel_rfl
        by_cases hln : f1 < NO
        · go_wp2_with (fail)
          go_region_with ((go_at_call 55; refine (HC.out.1 _).mono ?_; rintro e w2 ⟨rfl, b2⟩))
          all_goals
            have b3 := HC.out.2.2.drew.trans (b2.mono HC.out.2.2.size)
            have e2 : W.ovB L (q p) 2 = true := by rw [HC.out.2.1, HF.out.2.1]; exact decide_eq_true (by omega)
            have HZ : Hid (_ ∧ _) := ⟨b3, e2⟩
            clear b2 HC b3 e2 lk hix eA ld2 ld13 hRC hNO hAD hHA
            go_wp2
            go_ret
            refine ⟨?_, HZ.out.1⟩
            rw [HR.out, W.ovB_up L (q p) 2 4 (by decide) HZ.out.2]
            rfl
        · go_wp2_with (fail)
          go_region_with ((go_at_call 55; refine (HC.out.1 _).mono ?_; rintro e w2 ⟨rfl, b2⟩))
          all_goals
            have b3 := HC.out.2.2.drew.trans (b2.mono HC.out.2.2.size)
            have e2 : W.ovB L (q p) 2 = false := by rw [HC.out.2.1, HF.out.2.1]; exact decide_eq_false (by omega)
            have HZ : Hid (_ ∧ _) := ⟨b3, e2⟩
            clear b2 HC b3 e2 lk hix eA ld2 ld13 hRC hNO hAD hHA
            go_wp2
            go_roundw
            case rel => exact ⟨2, by decide, by first | rfl | go_num, HZ.out.2, HZ.out.1⟩
            case measure => simp [intOf]
      | 2, _ =>
        have ld2 := hS.cell p 2 hp (by decide) (.int .u32 (q p).o.ad) rfl
        have ld13 := hS.cell p 13 hp (by decide) (.int .i64 (q p).ha) rfl
        have lk := (HH.out.2.below br.drew).look ((q p).o.ad + 2) (by omega) (by omega)
        have hc := fun w' => notOf_any (L ((q p).o.ad + 2)) (q p).ha w'
        have eB : W.ovB L (q p) 3 = (W.ovB L (q p) 2 || decide ((q p).fr 2 < (L ((q p).o.ad + 2)).notOf (q p).ha)) := rfl
        rw [hO, Bool.false_or] at eB
        have HC : Hid (_ ∧ _ ∧ _) := ⟨hc, eB, br⟩
        clear hc eB hO
        generalize hRC : L ((q p).o.ad + 2) = RC at *
        generalize hNO : RC.notOf (q p).ha = NO at *
        generalize rcV RC = RV at *
        generalize hAD : (q p).o.ad = AD at *
        generalize hHA : (q p).ha = HA at *
        have eA : IntKind.u32.wrap (AD + IntKind.u32.wrap 2) = AD + 2 := by
          show (AD + (2 : Int) % 4294967296) % 4294967296 = _
          omega
        try rw [Int.add_zero] at lk
        have hix : ∀ w, (Instr.index 83 (.agg #[.int .i64 f0, .int .i64 f1, .int .i64 f2, .int .i64 f3]) (.int .i64 2)).run Tryd.prog w = .ok (.int .i64 f2) w := fun w => by kernel_rfl
        by_cases hln : f2 < NO
        · go_wp2_with (fail)
          go_region_with ((go_at_call 55; refine (HC.out.1 _).mono ?_; rintro e w2 ⟨rfl, b2⟩))
          all_goals
            have b3 := HC.out.2.2.drew.trans (b2.mono HC.out.2.2.size)
            have e2 : W.ovB L (q p) 3 = true := by rw [HC.out.2.1, HF.out.2.2.1]; exact decide_eq_true (by omega)
            have HZ : Hid (_ ∧ _) := ⟨b3, e2⟩
            clear b2 HC b3 e2 lk hix eA ld2 ld13 hRC hNO hAD hHA
            go_wp2
            go_ret
            refine ⟨?_, HZ.out.1⟩
            rw [HR.out, W.ovB_up L (q p) 3 4 (by decide) HZ.out.2]
            rfl
        · go_wp2_with (fail)
          go_region_with ((go_at_call 55; refine (HC.out.1 _).mono ?_; rintro e w2 ⟨rfl, b2⟩))
          all_goals
            have b3 := HC.out.2.2.drew.trans (b2.mono HC.out.2.2.size)
            have e2 : W.ovB L (q p) 3 = false := by rw [HC.out.2.1, HF.out.2.2.1]; exact decide_eq_false (by omega)
            have HZ : Hid (_ ∧ _) := ⟨b3, e2⟩
            clear b2 HC b3 e2 lk hix eA ld2 ld13 hRC hNO hAD hHA
            go_wp2
            go_roundw
            case rel => exact ⟨3, by decide, by first | rfl | go_num, HZ.out.2, HZ.out.1⟩
            case measure => simp [intOf]
      | 3, _ =>
        have ld2 := hS.cell p 2 hp (by decide) (.int .u32 (q p).o.ad) rfl
        have ld13 := hS.cell p 13 hp (by decide) (.int .i64 (q p).ha) rfl
        have lk := (HH.out.2.below br.drew).look ((q p).o.ad + 3) (by omega) (by omega)
        have hc := fun w' => notOf_any (L ((q p).o.ad + 3)) (q p).ha w'
        have eB : W.ovB L (q p) 4 = (W.ovB L (q p) 3 || decide ((q p).fr 3 < (L ((q p).o.ad + 3)).notOf (q p).ha)) := rfl
        rw [hO, Bool.false_or] at eB
        have HC : Hid (_ ∧ _ ∧ _) := ⟨hc, eB, br⟩
        clear hc eB hO
        generalize hRC : L ((q p).o.ad + 3) = RC at *
        generalize hNO : RC.notOf (q p).ha = NO at *
        generalize rcV RC = RV at *
        generalize hAD : (q p).o.ad = AD at *
        generalize hHA : (q p).ha = HA at *
        have eA : IntKind.u32.wrap (AD + IntKind.u32.wrap 3) = AD + 3 := by
          show (AD + (3 : Int) % 4294967296) % 4294967296 = _
          omega
        try rw [Int.add_zero] at lk
        have hix : ∀ w, (Instr.index 83 (.agg #[.int .i64 f0, .int .i64 f1, .int .i64 f2, .int .i64 f3]) (.int .i64 3)).run Tryd.prog w = .ok (.int .i64 f3) w := fun w => by kernel_rfl
        by_cases hln : f3 < NO
        · go_wp2_with (fail)
          go_region_with ((go_at_call 55; refine (HC.out.1 _).mono ?_; rintro e w2 ⟨rfl, b2⟩))
          all_goals
            have b3 := HC.out.2.2.drew.trans (b2.mono HC.out.2.2.size)
            have e2 : W.ovB L (q p) 4 = true := by rw [HC.out.2.1, HF.out.2.2.2]; exact decide_eq_true (by omega)
            have HZ : Hid (_ ∧ _) := ⟨b3, e2⟩
            clear b2 HC b3 e2 lk hix eA ld2 ld13 hRC hNO hAD hHA
            go_wp2
            go_ret
            refine ⟨?_, HZ.out.1⟩
            rw [HR.out, W.ovB_up L (q p) 4 4 (by decide) HZ.out.2]
            rfl
        · go_wp2_with (fail)
          go_region_with ((go_at_call 55; refine (HC.out.1 _).mono ?_; rintro e w2 ⟨rfl, b2⟩))
          all_goals
            have b3 := HC.out.2.2.drew.trans (b2.mono HC.out.2.2.size)
            have e2 : W.ovB L (q p) 4 = false := by rw [HC.out.2.1, HF.out.2.2.2]; exact decide_eq_false (by omega)
            have HZ : Hid (_ ∧ _) := ⟨b3, e2⟩
            clear b2 HC b3 e2 lk hix eA ld2 ld13 hRC hNO hAD hHA
            go_wp2
            go_roundw
            case rel => exact ⟨4, by decide, by first | rfl | go_num, HZ.out.2, HZ.out.1⟩
            case measure => simp [intOf]
    · obtain rfl : j = 4 := by omega
      go_wp2
      go_ret
      refine ⟨?_, br⟩
      rw [HR.out, hO]
      rfl
end Go.Proofs.YtibohlbkkaghkaaDoor
