/- Texts in one: AsmKi, AsmKua, AsmKunot, AsmKub, AsmKuo. -/
import Derived.Deep.Cut
import Derived.Test.YtmihcicepgjogaaGreatDoorJ27
import Derived.Test.YtmihcicepgjogaaGreatDoorJ41
/- ParseInt of whatever text: some number. -/
namespace Go.Proofs.YtmihcicepgjogaaGreatDoor
open Go.ChangeShapes Go.WideShapes Go.ChangeAt Go.RowKit
set_option linter.unusedVariables false
set_option linter.unusedSimpArgs false

/-- ParseUint of whatever text comes to some number. -/
def PuAny : Prop := ∀ (t : ByteArray), t.size ≤ 1000 → ∀ w : World, Calls Tryz.prog 142 #[.string t, .int .i64 0, .int .i64 64] w fun e w' => ∃ n er, e = .returned (.tuple #[.int .u64 n, er]) ∧ Er er ∧ Below w.heap.size w w'

theorem neq11 (w : World) : (binOp .neq 27 (.iface 177 (.int .i64 1)) (.iface 177 (.int .i64 1))).run Tryz.prog w = .ok (.bool false) w := by kernel_rfl
theorem neq21 (w : World) : (binOp .neq 27 (.iface 177 (.int .i64 2)) (.iface 177 (.int .i64 1))).run Tryz.prog w = .ok (.bool true) w := by kernel_rfl

set_option maxRecDepth 1000000 in
set_option maxHeartbeats 6400000 in
/-- Where a sign stands ahead, or none: q is what is left. -/
theorem pi_w (hU : PuAny) (t q : ByteArray) (hne : t.size ≠ 0) (hmax : t.size ≤ 1000) (a b : Bool) (q1 : (((t[0]'(Nat.pos_of_ne_zero hne)).toNat : Int) == 43) = a) (q2 : (((t[0]'(Nat.pos_of_ne_zero hne)).toNat : Int) == 45) = b) (hq : (a = true ∧ t.extract 1 t.size = q) ∨ (a = false ∧ b = true ∧ t.extract 1 t.size = q) ∨ (a = false ∧ b = false ∧ t = q)) (w : World) :
    Calls Tryz.prog 124 #[.string t, .int .i64 0, .int .i64 64] w fun e w' => ∃ n er, e = .returned (.tuple #[.int .i64 n, er]) ∧ Er er ∧ Below w.heap.size w w' := by
  have hemp : t.toList.isEmpty = false := by
    rw [← decide_eq_emptyBytes]
    exact decide_eq_false (fun h => hne (by rw [h]; rfl))
  have i0 : (0 : Int) < (t.size : Int) := by omega
  have n11 := neq11
  have n21 := neq21
  have HU : Hid PuAny := hU
  clear hU
  rcases hq with ⟨rfl, hT⟩ | ⟨rfl, rfl, hT⟩ | ⟨rfl, rfl, rfl⟩
  case' inl => have hqs : q.size ≤ 1000 := by rw [← hT]; simp; omega
  case' inr.inl => have hqs : q.size ≤ 1000 := by rw [← hT]; simp; omega
  case' inr.inr => have hqs : t.size ≤ 1000 := hmax
  all_goals
    go_enter Tryz.func124, Tryz.ntmps124
    go_wp2_with fail
    refine (HU.out _ hqs _).mono ?_
    rintro e w1 ⟨n, er, rfl, her, hb⟩
    rcases her with rfl | rfl | rfl
    all_goals
      go_wp2
      all_goals
        go_ret2
        exact ⟨_, _, rfl, (by first | exact Or.inl rfl | exact Or.inr (Or.inl rfl) | exact Or.inr (Or.inr rfl)), hb⟩
end Go.Proofs.YtmihcicepgjogaaGreatDoor

/- Whether underscores stand well: some answer. -/
namespace Go.Proofs.YtmihcicepgjogaaGreatDoor
open Go.ChangeShapes Go.WideShapes Go.ChangeAt Go.RowKit
set_option linter.unusedVariables false
set_option linter.unusedSimpArgs false

set_option maxRecDepth 1000000 in
set_option maxHeartbeats 25600000 in
theorem uok_one (tt : ByteArray) (hmax : tt.size ≤ 1000) (hne : tt.size ≠ 0) (h45 : (((tt[0]'(Nat.pos_of_ne_zero hne)).toNat : Int) == 45) = false) (h43 : (((tt[0]'(Nat.pos_of_ne_zero hne)).toNat : Int) == 43) = false) (h2 : tt.size < 2) (w : World) : Calls Tryz.prog 152 #[.string tt] w fun e w' => SomeB e ∧ w = w' := by
  have h2' : (tt.size : Int) < 2 := by omega
  go_enter Tryz.func152, Tryz.ntmps152
  go_wp2_with (go_at_call 151; refine (Tryz.internal_strconv_lower _ _).mono ?_; rintro e w' ⟨rfl, rfl⟩)
  all_goals
    go_loop [3, 4] (fun vi vk => ∃ (k : Nat) (x : Int), vi = .int .i32 x ∧ vk = .int .i64 k ∧ k ≤ tt.size + 2) (fun _ vk => tt.size + 2 - (intOf vk).toNat)
    case atStart => first | exact ⟨0, _, rfl, rfl, by omega⟩ | exact ⟨2, _, rfl, rfl, by omega⟩
    case round =>
      obtain ⟨k, x, rfl, rfl, hk⟩ := hrel
      by_cases hkn : k < tt.size
      · go_wp2_with (go_at_call 151; refine (Tryz.internal_strconv_lower _ _).mono ?_; rintro e w' ⟨rfl, rfl⟩)
        all_goals first
          | (go_ret; exact ⟨⟨_, rfl⟩, rfl⟩)
          | (go_round
             · exact ⟨k + 1, _, rfl, by go_num, by omega⟩
             · show tt.size + 2 - ((k : Int) + 1).toNat < tt.size + 2 - (k : Int).toNat
               omega)
      · have hkn' : (tt.size : Int) ≤ (k : Int) := by omega
        go_wp2
        all_goals (go_ret; exact ⟨⟨_, rfl⟩, rfl⟩)
end Go.Proofs.YtmihcicepgjogaaGreatDoor

/- Whether underscores stand well: some answer. -/
namespace Go.Proofs.YtmihcicepgjogaaGreatDoor
open Go.ChangeShapes Go.WideShapes Go.ChangeAt Go.RowKit
set_option linter.unusedVariables false
set_option linter.unusedSimpArgs false

set_option maxRecDepth 1000000 in
set_option maxHeartbeats 25600000 in
theorem uok_not (tt : ByteArray) (hmax : tt.size ≤ 1000) (hne : tt.size ≠ 0) (h45 : (((tt[0]'(Nat.pos_of_ne_zero hne)).toNat : Int) == 45) = false) (h43 : (((tt[0]'(Nat.pos_of_ne_zero hne)).toNat : Int) == 43) = false) (h2 : 2 ≤ tt.size) (c0 : (((tt[0]'(Nat.pos_of_ne_zero hne)).toNat : Int) == 48) = false) (w : World) : Calls Tryz.prog 152 #[.string tt] w fun e w' => SomeB e ∧ w = w' := by
  have h2' : (2 : Int) ≤ (tt.size : Int) := by omega
  have h1' : (1 : Int) < (tt.size : Int) := by omega
  go_enter Tryz.func152, Tryz.ntmps152
  go_wp2_with (go_at_call 151; refine (Tryz.internal_strconv_lower _ _).mono ?_; rintro e w' ⟨rfl, rfl⟩)
  all_goals
    go_loop [3, 4] (fun vi vk => ∃ (k : Nat) (x : Int), vi = .int .i32 x ∧ vk = .int .i64 k ∧ k ≤ tt.size + 2) (fun _ vk => tt.size + 2 - (intOf vk).toNat)
    case atStart => first | exact ⟨0, _, rfl, rfl, by omega⟩ | exact ⟨2, _, rfl, rfl, by omega⟩
    case round =>
      obtain ⟨k, x, rfl, rfl, hk⟩ := hrel
      by_cases hkn : k < tt.size
      · go_wp2_with (go_at_call 151; refine (Tryz.internal_strconv_lower _ _).mono ?_; rintro e w' ⟨rfl, rfl⟩)
        all_goals first
          | (go_ret; exact ⟨⟨_, rfl⟩, rfl⟩)
          | (go_round
             · exact ⟨k + 1, _, rfl, by go_num, by omega⟩
             · show tt.size + 2 - ((k : Int) + 1).toNat < tt.size + 2 - (k : Int).toNat
               omega)
      · have hkn' : (tt.size : Int) ≤ (k : Int) := by omega
        go_wp2
        all_goals (go_ret; exact ⟨⟨_, rfl⟩, rfl⟩)
end Go.Proofs.YtmihcicepgjogaaGreatDoor

/- Whether underscores stand well: some answer. -/
namespace Go.Proofs.YtmihcicepgjogaaGreatDoor
open Go.ChangeShapes Go.WideShapes Go.ChangeAt Go.RowKit
set_option linter.unusedVariables false
set_option linter.unusedSimpArgs false

set_option maxRecDepth 1000000 in
set_option maxHeartbeats 25600000 in
theorem uok_b (tt : ByteArray) (hmax : tt.size ≤ 1000) (hne : tt.size ≠ 0) (h45 : (((tt[0]'(Nat.pos_of_ne_zero hne)).toNat : Int) == 45) = false) (h43 : (((tt[0]'(Nat.pos_of_ne_zero hne)).toNat : Int) == 43) = false) (h2 : 2 ≤ tt.size) (c0 : (((tt[0]'(Nat.pos_of_ne_zero hne)).toNat : Int) == 48) = true) (hb : (bits .or .u8 ((tt[1]'(Nat.lt_of_lt_of_le (by decide) h2)).toNat : Int) 32 == 98) = true) (ho : (bits .or .u8 ((tt[1]'(Nat.lt_of_lt_of_le (by decide) h2)).toNat : Int) 32 == 111) = false) (hx : (bits .or .u8 ((tt[1]'(Nat.lt_of_lt_of_le (by decide) h2)).toNat : Int) 32 == 120) = false) (w : World) : Calls Tryz.prog 152 #[.string tt] w fun e w' => SomeB e ∧ w = w' := by
  have h2' : (2 : Int) ≤ (tt.size : Int) := by omega
  have h1' : (1 : Int) < (tt.size : Int) := by omega
  go_enter Tryz.func152, Tryz.ntmps152
  go_wp2_with (go_at_call 151; refine (Tryz.internal_strconv_lower _ _).mono ?_; rintro e w' ⟨rfl, rfl⟩)
  all_goals
    go_loop [3, 4] (fun vi vk => ∃ (k : Nat) (x : Int), vi = .int .i32 x ∧ vk = .int .i64 k ∧ k ≤ tt.size + 2) (fun _ vk => tt.size + 2 - (intOf vk).toNat)
    case atStart => first | exact ⟨0, _, rfl, rfl, by omega⟩ | exact ⟨2, _, rfl, rfl, by omega⟩
    case round =>
      obtain ⟨k, x, rfl, rfl, hk⟩ := hrel
      by_cases hkn : k < tt.size
      · go_wp2_with (go_at_call 151; refine (Tryz.internal_strconv_lower _ _).mono ?_; rintro e w' ⟨rfl, rfl⟩)
        all_goals first
          | (go_ret; exact ⟨⟨_, rfl⟩, rfl⟩)
          | (go_round
             · exact ⟨k + 1, _, rfl, by go_num, by omega⟩
             · show tt.size + 2 - ((k : Int) + 1).toNat < tt.size + 2 - (k : Int).toNat
               omega)
      · have hkn' : (tt.size : Int) ≤ (k : Int) := by omega
        go_wp2
        all_goals (go_ret; exact ⟨⟨_, rfl⟩, rfl⟩)
end Go.Proofs.YtmihcicepgjogaaGreatDoor

/- Whether underscores stand well: some answer. -/
namespace Go.Proofs.YtmihcicepgjogaaGreatDoor
open Go.ChangeShapes Go.WideShapes Go.ChangeAt Go.RowKit
set_option linter.unusedVariables false
set_option linter.unusedSimpArgs false

set_option maxRecDepth 1000000 in
set_option maxHeartbeats 25600000 in
theorem uok_o (tt : ByteArray) (hmax : tt.size ≤ 1000) (hne : tt.size ≠ 0) (h45 : (((tt[0]'(Nat.pos_of_ne_zero hne)).toNat : Int) == 45) = false) (h43 : (((tt[0]'(Nat.pos_of_ne_zero hne)).toNat : Int) == 43) = false) (h2 : 2 ≤ tt.size) (c0 : (((tt[0]'(Nat.pos_of_ne_zero hne)).toNat : Int) == 48) = true) (hb : (bits .or .u8 ((tt[1]'(Nat.lt_of_lt_of_le (by decide) h2)).toNat : Int) 32 == 98) = false) (ho : (bits .or .u8 ((tt[1]'(Nat.lt_of_lt_of_le (by decide) h2)).toNat : Int) 32 == 111) = true) (hx : (bits .or .u8 ((tt[1]'(Nat.lt_of_lt_of_le (by decide) h2)).toNat : Int) 32 == 120) = false) (w : World) : Calls Tryz.prog 152 #[.string tt] w fun e w' => SomeB e ∧ w = w' := by
  have h2' : (2 : Int) ≤ (tt.size : Int) := by omega
  have h1' : (1 : Int) < (tt.size : Int) := by omega
  go_enter Tryz.func152, Tryz.ntmps152
  go_wp2_with (go_at_call 151; refine (Tryz.internal_strconv_lower _ _).mono ?_; rintro e w' ⟨rfl, rfl⟩)
  all_goals
    go_loop [3, 4] (fun vi vk => ∃ (k : Nat) (x : Int), vi = .int .i32 x ∧ vk = .int .i64 k ∧ k ≤ tt.size + 2) (fun _ vk => tt.size + 2 - (intOf vk).toNat)
    case atStart => first | exact ⟨0, _, rfl, rfl, by omega⟩ | exact ⟨2, _, rfl, rfl, by omega⟩
    case round =>
      obtain ⟨k, x, rfl, rfl, hk⟩ := hrel
      by_cases hkn : k < tt.size
      · go_wp2_with (go_at_call 151; refine (Tryz.internal_strconv_lower _ _).mono ?_; rintro e w' ⟨rfl, rfl⟩)
        all_goals first
          | (go_ret; exact ⟨⟨_, rfl⟩, rfl⟩)
          | (go_round
             · exact ⟨k + 1, _, rfl, by go_num, by omega⟩
             · show tt.size + 2 - ((k : Int) + 1).toNat < tt.size + 2 - (k : Int).toNat
               omega)
      · have hkn' : (tt.size : Int) ≤ (k : Int) := by omega
        go_wp2
        all_goals (go_ret; exact ⟨⟨_, rfl⟩, rfl⟩)
end Go.Proofs.YtmihcicepgjogaaGreatDoor
