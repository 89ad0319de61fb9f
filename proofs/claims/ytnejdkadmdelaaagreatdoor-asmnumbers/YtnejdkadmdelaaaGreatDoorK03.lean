/- Texts in one: AsmKub, AsmKuo. -/
import Derived.Deep.Cut
import Derived.Test.YtnejdkadmdelaaaGreatDoorK01
/- Whether underscores stand well: some answer. -/
namespace Go.Proofs.YtnejdkadmdelaaaGreatDoor
open Go.ChangeShapes Go.WideShapes Go.ChangeAt Go.RowKit
set_option linter.unusedVariables false
set_option linter.unusedSimpArgs false

set_option maxRecDepth 1000000 in
set_option maxHeartbeats 25600000 in
theorem uok_b (tt : ByteArray) (hmax : tt.size ≤ 1000) (hne : tt.size ≠ 0) (h45 : (((tt[0]'(Nat.pos_of_ne_zero hne)).toNat : Int) == 45) = false) (h43 : (((tt[0]'(Nat.pos_of_ne_zero hne)).toNat : Int) == 43) = false) (h2 : 2 ≤ tt.size) (c0 : (((tt[0]'(Nat.pos_of_ne_zero hne)).toNat : Int) == 48) = true) (hb : (bits .or .u8 ((tt[1]'(Nat.lt_of_lt_of_le (by decide) h2)).toNat : Int) 32 == 98) = true) (ho : (bits .or .u8 ((tt[1]'(Nat.lt_of_lt_of_le (by decide) h2)).toNat : Int) 32 == 111) = false) (hx : (bits .or .u8 ((tt[1]'(Nat.lt_of_lt_of_le (by decide) h2)).toNat : Int) 32 == 120) = false) (w : World) : Calls Tryz.prog 152 #[.string tt] w fun e w' => SomeB e ∧ w = w' := by
  have h2' : (2 : Int) ≤ (tt.size : Int) := by omega
  have h1' : (1 : Int) < (tt.size : Int) := by omega
  go_enter Tryz.func152, Tryz.ntmps152
  go_wp2_with (go_at_call 151; refine (Tryz.internal_strconv_lower _ _).mono ?_; rintro e w' ⟨rfl, rfl⟩)
  all_goals
    go_loop [3, 4] (fun vi vk => ∃ (k : Nat) (x : Int), vi = .int .i32 x ∧ vk = .int .i64 k ∧ k ≤ tt.size + 2) (fun _ vk => tt.size + 2 - (intOf vk).toNat)
    case atStart => first | exact ⟨0, _, rfl, rfl, by omega⟩ | exact ⟨2, _, rfl, rfl, by omega⟩
    case round =>
      obtain ⟨k, x, rfl, rfl, hk⟩ := hrel
      by_cases hkn : k < tt.size
      · go_wp2_with (go_at_call 151; refine (Tryz.internal_strconv_lower _ _).mono ?_; rintro e w' ⟨rfl, rfl⟩)
        all_goals first
          | (go_ret; exact ⟨⟨_, rfl⟩, rfl⟩)
          | (go_round
             · exact ⟨k + 1, _, rfl, by go_num, by omega⟩
             · show tt.size + 2 - ((k : Int) + 1).toNat < tt.size + 2 - (k : Int).toNat
               omega)
      · have hkn' : (tt.size : Int) ≤ (k : Int) := by omega
        go_wp2
        all_goals (go_ret; exact ⟨⟨_, rfl⟩, rfl⟩)
end Go.Proofs.YtnejdkadmdelaaaGreatDoor

/- Whether underscores stand well: some answer. -/
namespace Go.Proofs.YtnejdkadmdelaaaGreatDoor
open Go.ChangeShapes Go.WideShapes Go.ChangeAt Go.RowKit
set_option linter.unusedVariables false
set_option linter.unusedSimpArgs false

set_option maxRecDepth 1000000 in
set_option maxHeartbeats 25600000 in
theorem uok_o (tt : ByteArray) (hmax : tt.size ≤ 1000) (hne : tt.size ≠ 0) (h45 : (((tt[0]'(Nat.pos_of_ne_zero hne)).toNat : Int) == 45) = false) (h43 : (((tt[0]'(Nat.pos_of_ne_zero hne)).toNat : Int) == 43) = false) (h2 : 2 ≤ tt.size) (c0 : (((tt[0]'(Nat.pos_of_ne_zero hne)).toNat : Int) == 48) = true) (hb : (bits .or .u8 ((tt[1]'(Nat.lt_of_lt_of_le (by decide) h2)).toNat : Int) 32 == 98) = false) (ho : (bits .or .u8 ((tt[1]'(Nat.lt_of_lt_of_le (by decide) h2)).toNat : Int) 32 == 111) = true) (hx : (bits .or .u8 ((tt[1]'(Nat.lt_of_lt_of_le (by decide) h2)).toNat : Int) 32 == 120) = false) (w : World) : Calls Tryz.prog 152 #[.string tt] w fun e w' => SomeB e ∧ w = w' := by
  have h2' : (2 : Int) ≤ (tt.size : Int) := by omega
  have h1' : (1 : Int) < (tt.size : Int) := by omega
  go_enter Tryz.func152, Tryz.ntmps152
  go_wp2_with (go_at_call 151; refine (Tryz.internal_strconv_lower _ _).mono ?_; rintro e w' ⟨rfl, rfl⟩)
  all_goals
    go_loop [3, 4] (fun vi vk => ∃ (k : Nat) (x : Int), vi = .int .i32 x ∧ vk = .int .i64 k ∧ k ≤ tt.size + 2) (fun _ vk => tt.size + 2 - (intOf vk).toNat)
    case atStart => first | exact ⟨0, _, rfl, rfl, by omega⟩ | exact ⟨2, _, rfl, rfl, by omega⟩
    case round =>
      obtain ⟨k, x, rfl, rfl, hk⟩ := hrel
      by_cases hkn : k < tt.size
      · go_wp2_with (go_at_call 151; refine (Tryz.internal_strconv_lower _ _).mono ?_; rintro e w' ⟨rfl, rfl⟩)
        all_goals first
          | (go_ret; exact ⟨⟨_, rfl⟩, rfl⟩)
          | (go_round
             · exact ⟨k + 1, _, rfl, by go_num, by omega⟩
             · show tt.size + 2 - ((k : Int) + 1).toNat < tt.size + 2 - (k : Int).toNat
               omega)
      · have hkn' : (tt.size : Int) ≤ (k : Int) := by omega
        go_wp2
        all_goals (go_ret; exact ⟨⟨_, rfl⟩, rfl⟩)
end Go.Proofs.YtnejdkadmdelaaaGreatDoor
