/- Texts in one: AsmKux, AsmKun, AsmKg. -/
import Derived.Deep.Cut
import Derived.Test.YtmihcicepgjogaaGreatDoorJ41
/- Whether underscores stand well: some answer. -/
namespace Go.Proofs.YtmihcicepgjogaaGreatDoor
open Go.ChangeShapes Go.WideShapes Go.ChangeAt Go.RowKit
set_option linter.unusedVariables false
set_option linter.unusedSimpArgs false

set_option maxRecDepth 1000000 in
set_option maxHeartbeats 25600000 in
theorem uok_x (tt : ByteArray) (hmax : tt.size ≤ 1000) (hne : tt.size ≠ 0) (h45 : (((tt[0]'(Nat.pos_of_ne_zero hne)).toNat : Int) == 45) = false) (h43 : (((tt[0]'(Nat.pos_of_ne_zero hne)).toNat : Int) == 43) = false) (h2 : 2 ≤ tt.size) (c0 : (((tt[0]'(Nat.pos_of_ne_zero hne)).toNat : Int) == 48) = true) (hb : (bits .or .u8 ((tt[1]'(Nat.lt_of_lt_of_le (by decide) h2)).toNat : Int) 32 == 98) = false) (ho : (bits .or .u8 ((tt[1]'(Nat.lt_of_lt_of_le (by decide) h2)).toNat : Int) 32 == 111) = false) (hx : (bits .or .u8 ((tt[1]'(Nat.lt_of_lt_of_le (by decide) h2)).toNat : Int) 32 == 120) = true) (w : World) : Calls Tryz.prog 152 #[.string tt] w fun e w' => SomeB e ∧ w = w' := by
  have h2' : (2 : Int) ≤ (tt.size : Int) := by omega
  have h1' : (1 : Int) < (tt.size : Int) := by omega
  go_enter Tryz.func152, Tryz.ntmps152
  go_wp2_with (go_at_call 151; refine (Tryz.internal_strconv_lower _ _).mono ?_; rintro e w' ⟨rfl, rfl⟩)
  all_goals
    go_loop [3, 4] (fun vi vk => ∃ (k : Nat) (x : Int), vi = .int .i32 x ∧ vk = .int .i64 k ∧ k ≤ tt.size + 2) (fun _ vk => tt.size + 2 - (intOf vk).toNat)
    case atStart => first | exact ⟨0, _, rfl, rfl, by omega⟩ | exact ⟨2, _, rfl, rfl, by omega⟩
    case round =>
      obtain ⟨k, x, rfl, rfl, hk⟩ := hrel
      by_cases hkn : k < tt.size
      · go_wp2_with (go_at_call 151; refine (Tryz.internal_strconv_lower _ _).mono ?_; rintro e w' ⟨rfl, rfl⟩)
        all_goals first
          | (go_ret; exact ⟨⟨_, rfl⟩, rfl⟩)
          | (go_round
             · exact ⟨k + 1, _, rfl, by go_num, by omega⟩
             · show tt.size + 2 - ((k : Int) + 1).toNat < tt.size + 2 - (k : Int).toNat
               omega)
      · have hkn' : (tt.size : Int) ≤ (k : Int) := by omega
        go_wp2
        all_goals (go_ret; exact ⟨⟨_, rfl⟩, rfl⟩)
end Go.Proofs.YtmihcicepgjogaaGreatDoor

/- Whether underscores stand well: some answer. -/
namespace Go.Proofs.YtmihcicepgjogaaGreatDoor
open Go.ChangeShapes Go.WideShapes Go.ChangeAt Go.RowKit
set_option linter.unusedVariables false
set_option linter.unusedSimpArgs false

set_option maxRecDepth 1000000 in
set_option maxHeartbeats 25600000 in
theorem uok_n (tt : ByteArray) (hmax : tt.size ≤ 1000) (hne : tt.size ≠ 0) (h45 : (((tt[0]'(Nat.pos_of_ne_zero hne)).toNat : Int) == 45) = false) (h43 : (((tt[0]'(Nat.pos_of_ne_zero hne)).toNat : Int) == 43) = false) (h2 : 2 ≤ tt.size) (c0 : (((tt[0]'(Nat.pos_of_ne_zero hne)).toNat : Int) == 48) = true) (hb : (bits .or .u8 ((tt[1]'(Nat.lt_of_lt_of_le (by decide) h2)).toNat : Int) 32 == 98) = false) (ho : (bits .or .u8 ((tt[1]'(Nat.lt_of_lt_of_le (by decide) h2)).toNat : Int) 32 == 111) = false) (hx : (bits .or .u8 ((tt[1]'(Nat.lt_of_lt_of_le (by decide) h2)).toNat : Int) 32 == 120) = false) (w : World) : Calls Tryz.prog 152 #[.string tt] w fun e w' => SomeB e ∧ w = w' := by
  have h2' : (2 : Int) ≤ (tt.size : Int) := by omega
  have h1' : (1 : Int) < (tt.size : Int) := by omega
  go_enter Tryz.func152, Tryz.ntmps152
  go_wp2_with (go_at_call 151; refine (Tryz.internal_strconv_lower _ _).mono ?_; rintro e w' ⟨rfl, rfl⟩)
  all_goals
    go_loop [3, 4] (fun vi vk => ∃ (k : Nat) (x : Int), vi = .int .i32 x ∧ vk = .int .i64 k ∧ k ≤ tt.size + 2) (fun _ vk => tt.size + 2 - (intOf vk).toNat)
    case atStart => first | exact ⟨0, _, rfl, rfl, by omega⟩ | exact ⟨2, _, rfl, rfl, by omega⟩
    case round =>
      obtain ⟨k, x, rfl, rfl, hk⟩ := hrel
      by_cases hkn : k < tt.size
      · go_wp2_with (go_at_call 151; refine (Tryz.internal_strconv_lower _ _).mono ?_; rintro e w' ⟨rfl, rfl⟩)
        all_goals first
          | (go_ret; exact ⟨⟨_, rfl⟩, rfl⟩)
          | (go_round
             · exact ⟨k + 1, _, rfl, by go_num, by omega⟩
             · show tt.size + 2 - ((k : Int) + 1).toNat < tt.size + 2 - (k : Int).toNat
               omega)
      · have hkn' : (tt.size : Int) ≤ (k : Int) := by omega
        go_wp2
        all_goals (go_ret; exact ⟨⟨_, rfl⟩, rfl⟩)
end Go.Proofs.YtmihcicepgjogaaGreatDoor

/- ParseUint of a text that begins with a sign: none. -/
namespace Go.Proofs.YtmihcicepgjogaaGreatDoor
open Go.ChangeShapes Go.WideShapes Go.ChangeAt Go.RowKit
set_option linter.unusedVariables false
set_option linter.unusedSimpArgs false

set_option maxRecDepth 1000000 in
set_option maxHeartbeats 12800000 in
theorem pu_sg (t : ByteArray) (hne : t.size ≠ 0) (hmax : t.size ≤ 1000) (sg : Int) (hsg : sg = 43 ∨ sg = 45) (h0 : ((t[0]'(Nat.pos_of_ne_zero hne)).toNat : Int) = sg) (w : World) : Calls Tryz.prog 142 #[.string t, .int .i64 0, .int .i64 64] w fun e w' => ∃ n er, e = .returned (.tuple #[.int .u64 n, er]) ∧ Er er ∧ Below w.heap.size w w' := by
  have hemp : t.toList.isEmpty = false := by
    rw [← decide_eq_emptyBytes]
    exact decide_eq_false (fun h => hne (by rw [h]; rfl))
  have i0 : (0 : Int) < (t.size : Int) := by omega
  have hcv := Lib.run_convert_string_bytes (P := Tryz.prog) w 9 54 5 t (u := .string) Tryz.underlying9 Tryz.underlying54 Tryz.underlying5
  have hB : ∀ j, j < t.size → (Lib.bytesWorld w 5 t).cell? ⟨w.heap.size, j, none⟩ = some (.int .u8 (t.data.toList.getD j 0).toNat) := fun j hj => Lib.bytesWorld_cell w 5 t j hj
  have hc0 : (Lib.bytesWorld w 5 t).cell? ⟨w.heap.size, 0, none⟩ = some (.int .u8 sg) := by
    rw [hB 0 (by omega), ← h0]
    congr 3
    rw [Lib.size_eq] at hne
    simp [List.getD, List.getElem?_eq_getElem (Nat.pos_of_ne_zero hne)]
    rfl
  clear hB
  have hbw := bytesWorld_below w 5 t
  obtain ⟨W1, hW1⟩ : ∃ W1, W1 = Lib.bytesWorld w 5 t := ⟨_, rfl⟩
  rw [← hW1] at hcv hc0 hbw
  clear hW1
  have hmv : IntKind.u64.wrap (IntKind.u64.wrap 18446744073709551616 - 1) = 18446744073709551615 := by
    rw [IntKind.wrap_u64, IntKind.wrap_u64]
    decide
  go_enter Tryz.func142, Tryz.ntmps142
  go_wp2
  go_loop [12, 13, 101] (fun vu vn vi => vu = .bool false ∧ vn = .int .u64 0 ∧ vi = .int .i64 0) (fun _ _ _ => 0)
  case atStart => exact ⟨rfl, rfl, rfl⟩
  case round =>
    obtain ⟨rfl, rfl, rfl⟩ := hrel
    rcases hsg with rfl | rfl
    all_goals
      go_wp2_with (go_at_call 151; refine (Tryz.internal_strconv_lower _ _).mono ?_; rintro e w' ⟨rfl, rfl⟩)
      go_ret2
      exact ⟨_, _, rfl, Or.inr (Or.inr rfl), hbw⟩
end Go.Proofs.YtmihcicepgjogaaGreatDoor
