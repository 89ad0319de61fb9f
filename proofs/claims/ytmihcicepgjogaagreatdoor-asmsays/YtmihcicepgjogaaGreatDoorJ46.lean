/- Texts in one: AsmK16. -/
import Derived.Test.YtmihcicepgjogaaGreatDoorJ41
/- Numbers read, of whatever text that begins with 0: some number (w16). -/
namespace Go.Proofs.YtmihcicepgjogaaGreatDoor
open Go.ChangeShapes Go.WideShapes Go.ChangeAt Go.RowKit
set_option linter.unusedVariables false
set_option linter.unusedSimpArgs false

set_option maxRecDepth 1000000 in
set_option maxHeartbeats 12800000 in
theorem pu_w16 (q t : ByteArray) (hne : q.size ≠ 0) (hmax : q.size ≤ 1000) (h0 : (((q[0]'(Nat.pos_of_ne_zero hne)).toNat : Int) == 48) = true) (h3 : 3 ≤ q.size) (hbb : (bits .or .u8 ((q[1]'(Nat.lt_of_lt_of_le (by decide) h3)).toNat : Int) 32 == 98) = false) (hbo : (bits .or .u8 ((q[1]'(Nat.lt_of_lt_of_le (by decide) h3)).toNat : Int) 32 == 111) = false) (hbx : (bits .or .u8 ((q[1]'(Nat.lt_of_lt_of_le (by decide) h3)).toNat : Int) 32 == 120) = true) (hT : q.extract 2 q.size = t) (w : World)
    (HU : Hid (∀ w : World, Calls Tryz.prog 152 #[.string q] w fun e w' => SomeB e ∧ w = w')) : Calls Tryz.prog 142 #[.string q, .int .i64 0, .int .i64 64] w fun e w' => ∃ n er, e = .returned (.tuple #[.int .u64 n, er]) ∧ Er er ∧ Below w.heap.size w w' := by
  have hemp : q.toList.isEmpty = false := by
    rw [← decide_eq_emptyBytes]
    exact decide_eq_false (fun h => hne (by rw [h]; rfl))
  have i0 : (0 : Int) < (q.size : Int) := by omega
  have hmt : t.size ≤ 1000 := by rw [← hT]; simp; omega
  have j3 : (3 : Int) ≤ (q.size : Int) := by omega
  have j1 : (1 : Int) < (q.size : Int) := by omega
  have hcv := Lib.run_convert_string_bytes (P := Tryz.prog) w 9 54 5 t (u := .string) Tryz.underlying9 Tryz.underlying54 Tryz.underlying5
  have hB : ∀ j, j < t.size → (Lib.bytesWorld w 5 t).cell? ⟨w.heap.size, j, none⟩ = some (.int .u8 (t.data.toList.getD j 0).toNat) := fun j hj => Lib.bytesWorld_cell w 5 t j hj
  have hbw := bytesWorld_below w 5 t
  obtain ⟨W1, hW1⟩ : ∃ W1, W1 = Lib.bytesWorld w 5 t := ⟨_, rfl⟩
  rw [← hW1] at hcv hB hbw
  clear hW1
  have hmv : IntKind.u64.wrap (IntKind.u64.wrap 18446744073709551616 - 1) = 18446744073709551615 := by
    rw [IntKind.wrap_u64, IntKind.wrap_u64]
    decide
  go_enter Tryz.func142, Tryz.ntmps142
  go_wp2_with (go_at_call 151; refine (Tryz.internal_strconv_lower _ _).mono ?_; rintro e w' ⟨rfl, rfl⟩)
  go_loop [12, 13, 101] (fun vu vn vi => ∃ (k : Nat) (a : Int) (u : Bool), vu = .bool u ∧ vn = .int .u64 a ∧ vi = .int .i64 k ∧ k ≤ t.size)
    (fun _ _ vi => t.size - (intOf vi).toNat)
  case atStart => exact ⟨0, 0, false, rfl, rfl, rfl, by omega⟩
  case round =>
    obtain ⟨k, a, u, rfl, rfl, rfl, hk⟩ := hrel
    by_cases hkn : k < t.size
    · have hc := hB k hkn
      generalize t.data.toList.getD k 0 = c at hc
      clear hB
      go_wp2_with (go_at_call 151; refine (Tryz.internal_strconv_lower _ _).mono ?_; rintro e w' ⟨rfl, rfl⟩)
      all_goals first
        | exact ⟨⟨k + 1, _, _, rfl, rfl, by go_num, by omega⟩, by simp [intOf]; omega⟩
        | (refine bodyPost_ret (v := .tuple #[.int .u64 0, .iface 177 (.int .i64 2)]) ?_ rfl ⟨_, _, rfl, Or.inr (Or.inr rfl), hbw⟩; (simp [results, Tryz.results142, go_sem]; done))
        | (refine bodyPost_ret (v := .tuple #[.int .u64 18446744073709551615, .iface 177 (.int .i64 1)]) ?_ rfl ⟨_, _, rfl, Or.inr (Or.inl rfl), hbw⟩; (simp [results, Tryz.results142, go_sem]; done))
    · have hkk : k = t.size := by omega
      subst hkk
      clear hB
      cases u
      · go_wp2
        exact bodyPost_ret (v := .tuple #[.int .u64 a, .nilIface]) (by simp [results, Tryz.results142, go_sem]) rfl ⟨_, _, rfl, Or.inl rfl, hbw⟩
      · go_wp2_with (go_at_call 152; refine (HU.out _).mono ?_; rintro e w' ⟨⟨r, rfl⟩, rfl⟩)
        all_goals first
          | (refine bodyPost_ret (v := .tuple #[.int .u64 a, .nilIface]) ?_ rfl ⟨_, _, rfl, Or.inl rfl, hbw⟩; (simp [results, Tryz.results142, go_sem]; done))
          | (refine bodyPost_ret (v := .tuple #[.int .u64 0, .iface 177 (.int .i64 2)]) ?_ rfl ⟨_, _, rfl, Or.inr (Or.inr rfl), hbw⟩; (simp [results, Tryz.results142, go_sem]; done))
end Go.Proofs.YtmihcicepgjogaaGreatDoor
