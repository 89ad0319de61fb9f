/- Texts in one: AsmKs, AsmKi. -/
import Derived.Test.YtnejdkadmdelaaaGreatDoorJ30
import Derived.Test.YtnejdkadmdelaaaGreatDoorJ34
/- Numbers read, of whatever text: some number. -/
namespace Go.Proofs.YtnejdkadmdelaaaGreatDoor
open Go.ChangeShapes Go.WideShapes Go.ChangeAt Go.RowKit
set_option linter.unusedVariables false
set_option linter.unusedSimpArgs false

/-- No error, or one of the library's own. -/
def Er (er : Value) : Prop := er = .nilIface ∨ er = .iface 177 (.int .i64 1) ∨ er = .iface 177 (.int .i64 2)

theorem bytesWorld_below (w : World) (e : TypeId) (t : ByteArray) : Below w.heap.size w (Lib.bytesWorld w e t) := by
  unfold Lib.bytesWorld World.freeze
  rw [if_neg (by decide)]
  refine ⟨rfl, rfl, rfl, by simp, fun k hk => ?_⟩
  simp only [Array.getElem?_modify]
  rw [if_neg (by omega)]
  exact Below.heap_alloc w.drew _ k hk

/-- Some answer. -/
def SomeB (e : Ending) : Prop := ∃ r, e = .returned (.bool r)

set_option maxRecDepth 1000000 in
set_option maxHeartbeats 12800000 in
theorem pu_w10 (t : ByteArray) (hne : t.size ≠ 0) (hmax : t.size ≤ 1000) (h0 : (((t[0]'(Nat.pos_of_ne_zero hne)).toNat : Int) == 48) = false) (w : World)
    (HU : Hid (∀ w : World, Calls Tryz.prog 152 #[.string t] w fun e w' => SomeB e ∧ w = w')) : Calls Tryz.prog 142 #[.string t, .int .i64 0, .int .i64 64] w fun e w' => ∃ n er, e = .returned (.tuple #[.int .u64 n, er]) ∧ Er er ∧ Below w.heap.size w w' := by
  have hemp : t.toList.isEmpty = false := by
    rw [← decide_eq_emptyBytes]
    exact decide_eq_false (fun h => hne (by rw [h]; rfl))
  have i0 : (0 : Int) < (t.size : Int) := by omega
  have hcv := Lib.run_convert_string_bytes (P := Tryz.prog) w 9 54 5 t (u := .string) Tryz.underlying9 Tryz.underlying54 Tryz.underlying5
  have hB : ∀ j, j < t.size → (Lib.bytesWorld w 5 t).cell? ⟨w.heap.size, j, none⟩ = some (.int .u8 (t.data.toList.getD j 0).toNat) := fun j hj => Lib.bytesWorld_cell w 5 t j hj
  have hbw := bytesWorld_below w 5 t
  obtain ⟨W1, hW1⟩ : ∃ W1, W1 = Lib.bytesWorld w 5 t := ⟨_, rfl⟩
  rw [← hW1] at hcv hB hbw
  clear hW1
  have hmv : IntKind.u64.wrap (IntKind.u64.wrap 18446744073709551616 - 1) = 18446744073709551615 := by
    rw [IntKind.wrap_u64, IntKind.wrap_u64]
    decide
  go_enter Tryz.func142, Tryz.ntmps142
  go_wp2
  go_loop [12, 13, 101] (fun vu vn vi => ∃ (k : Nat) (a : Int) (u : Bool), vu = .bool u ∧ vn = .int .u64 a ∧ vi = .int .i64 k ∧ k ≤ t.size)
    (fun _ _ vi => t.size - (intOf vi).toNat)
  case atStart => exact ⟨0, 0, false, rfl, rfl, rfl, by omega⟩
  case round =>
    obtain ⟨k, a, u, rfl, rfl, rfl, hk⟩ := hrel
    by_cases hkn : k < t.size
    · have hc := hB k hkn
      generalize t.data.toList.getD k 0 = c at hc
      clear hB
      go_wp2_with (go_at_call 151; refine (Tryz.internal_strconv_lower _ _).mono ?_; rintro e w' ⟨rfl, rfl⟩)
      all_goals first
        | exact ⟨⟨k + 1, _, _, rfl, rfl, by go_num, by omega⟩, by simp [intOf]; omega⟩
        | (refine bodyPost_ret (v := .tuple #[.int .u64 0, .iface 177 (.int .i64 2)]) ?_ rfl ⟨_, _, rfl, Or.inr (Or.inr rfl), hbw⟩; (simp [results, Tryz.results142, go_sem]; done))
        | (refine bodyPost_ret (v := .tuple #[.int .u64 18446744073709551615, .iface 177 (.int .i64 1)]) ?_ rfl ⟨_, _, rfl, Or.inr (Or.inl rfl), hbw⟩; (simp [results, Tryz.results142, go_sem]; done))
    · have hkk : k = t.size := by omega
      subst hkk
      clear hB
      cases u
      · go_wp2
        exact bodyPost_ret (v := .tuple #[.int .u64 a, .nilIface]) (by simp [results, Tryz.results142, go_sem]) rfl ⟨_, _, rfl, Or.inl rfl, hbw⟩
      · go_wp2_with (go_at_call 152; refine (HU.out _).mono ?_; rintro e w' ⟨⟨r, rfl⟩, rfl⟩)
        all_goals first
          | (refine bodyPost_ret (v := .tuple #[.int .u64 a, .nilIface]) ?_ rfl ⟨_, _, rfl, Or.inl rfl, hbw⟩; (simp [results, Tryz.results142, go_sem]; done))
          | (refine bodyPost_ret (v := .tuple #[.int .u64 0, .iface 177 (.int .i64 2)]) ?_ rfl ⟨_, _, rfl, Or.inr (Or.inr rfl), hbw⟩; (simp [results, Tryz.results142, go_sem]; done))
end Go.Proofs.YtnejdkadmdelaaaGreatDoor

/- ParseInt of whatever text: some number. -/
namespace Go.Proofs.YtnejdkadmdelaaaGreatDoor
open Go.ChangeShapes Go.WideShapes Go.ChangeAt Go.RowKit
set_option linter.unusedVariables false
set_option linter.unusedSimpArgs false

/-- ParseUint of whatever text comes to some number. -/
def PuAny : Prop := ∀ (t : ByteArray), t.size ≤ 1000 → ∀ w : World, Calls Tryz.prog 142 #[.string t, .int .i64 0, .int .i64 64] w fun e w' => ∃ n er, e = .returned (.tuple #[.int .u64 n, er]) ∧ Er er ∧ Below w.heap.size w w'

theorem neq11 (w : World) : (binOp .neq 27 (.iface 177 (.int .i64 1)) (.iface 177 (.int .i64 1))).run Tryz.prog w = .ok (.bool false) w := by kernel_rfl
theorem neq21 (w : World) : (binOp .neq 27 (.iface 177 (.int .i64 2)) (.iface 177 (.int .i64 1))).run Tryz.prog w = .ok (.bool true) w := by kernel_rfl

set_option maxRecDepth 1000000 in
set_option maxHeartbeats 6400000 in
/-- Where a sign stands ahead, or none: q is what is left. -/
theorem pi_w (hU : PuAny) (t q : ByteArray) (hne : t.size ≠ 0) (hmax : t.size ≤ 1000) (a b : Bool) (q1 : (((t[0]'(Nat.pos_of_ne_zero hne)).toNat : Int) == 43) = a) (q2 : (((t[0]'(Nat.pos_of_ne_zero hne)).toNat : Int) == 45) = b) (hq : (a = true ∧ t.extract 1 t.size = q) ∨ (a = false ∧ b = true ∧ t.extract 1 t.size = q) ∨ (a = false ∧ b = false ∧ t = q)) (w : World) :
    Calls Tryz.prog 124 #[.string t, .int .i64 0, .int .i64 64] w fun e w' => ∃ n er, e = .returned (.tuple #[.int .i64 n, er]) ∧ Er er ∧ Below w.heap.size w w' := by
  have hemp : t.toList.isEmpty = false := by
    rw [← decide_eq_emptyBytes]
    exact decide_eq_false (fun h => hne (by rw [h]; rfl))
  have i0 : (0 : Int) < (t.size : Int) := by omega
  have n11 := neq11
  have n21 := neq21
  have HU : Hid PuAny := hU
  clear hU
  rcases hq with ⟨rfl, hT⟩ | ⟨rfl, rfl, hT⟩ | ⟨rfl, rfl, rfl⟩
  case' inl => have hqs : q.size ≤ 1000 := by rw [← hT]; simp; omega
  case' inr.inl => have hqs : q.size ≤ 1000 := by rw [← hT]; simp; omega
  case' inr.inr => have hqs : t.size ≤ 1000 := hmax
  all_goals
    go_enter Tryz.func124, Tryz.ntmps124
    go_wp2_with fail
    refine (HU.out _ hqs _).mono ?_
    rintro e w1 ⟨n, er, rfl, her, hb⟩
    rcases her with rfl | rfl | rfl
    all_goals
      go_wp2
      all_goals
        go_ret2
        exact ⟨_, _, rfl, (by first | exact Or.inl rfl | exact Or.inr (Or.inl rfl) | exact Or.inr (Or.inr rfl)), hb⟩
end Go.Proofs.YtnejdkadmdelaaaGreatDoor
