/- Texts in one: AsmN2b. -/
import Derived.Test.YtmihcicepgjogaaGreatDoorJ23
/- Numbers read, of base 0: zero, and hexadecimal. -/
namespace Go.Proofs.YtmihcicepgjogaaGreatDoor
open Go.ChangeShapes Go.WideShapes Go.ChangeAt Go.RowKit
set_option linter.unusedVariables false
set_option linter.unusedSimpArgs false

theorem bytes_bel (w : World) (t : ByteArray) : Below w.heap.size w (Lib.bytesWorld w 5 t) :=
  ⟨rfl, rfl, rfl, by rw [Lib.bytesWorld_size]; omega, fun j hj => Lib.bytesWorld_at_old w 5 t j hj⟩

set_option maxRecDepth 1000000 in
set_option maxHeartbeats 3200000 in
theorem pu_zero (w : World) : Calls Tryz.prog 142 #[.string ⟨#[48]⟩, .int .i64 0, .int .i64 64] w fun e w' => e = .returned (.tuple #[.int .u64 0, .nilIface]) ∧ Below w.heap.size w w' := by
  have hmv : IntKind.u64.wrap (IntKind.u64.wrap 18446744073709551616 - 1) = 18446744073709551615 := by
    rw [IntKind.wrap_u64, IntKind.wrap_u64]
    decide
  have hcv := Lib.run_convert_string_bytes (P := Tryz.prog) w 9 54 5 ByteArray.empty (u := .string) Tryz.underlying9 Tryz.underlying54 Tryz.underlying5
  obtain ⟨W1, hW1⟩ : ∃ W1, W1 = Lib.bytesWorld w 5 ByteArray.empty := ⟨_, rfl⟩
  have HB : Hid (Below w.heap.size w W1) := hW1 ▸ bytes_bel w _
  rw [← hW1] at hcv
  clear hW1
  have h48 : (((⟨#[48]⟩ : ByteArray)[0]'(by decide)).toNat : Int) = 48 := rfl
  go_enter Tryz.func142, Tryz.ntmps142
  go_wp2
  refine wp_loop_rounds 1 ?_
  rw [rounds_succ]
  go_wp2
  go_ret2
  exact ⟨rfl, HB.out⟩

theorem hd_cases (d : Nat) (h : d < 16) : (48 ≤ (W.hd d).toNat ∧ (W.hd d).toNat ≤ 57 ∧ d = (W.hd d).toNat - 48) ∨ (97 ≤ (W.hd d).toNat ∧ (W.hd d).toNat ≤ 102 ∧ d = (W.hd d).toNat - 87) := by
  have : ∀ d : Fin 16, (48 ≤ (W.hd d.val).toNat ∧ (W.hd d.val).toNat ≤ 57 ∧ d.val = (W.hd d.val).toNat - 48) ∨ (97 ≤ (W.hd d.val).toNat ∧ (W.hd d.val).toNat ≤ 102 ∧ d.val = (W.hd d.val).toNat - 87) := by decide
  exact this ⟨d, h⟩
theorem or32 (c : Nat) (h0 : 97 ≤ c) (h1 : c ≤ 102) : bits .or .u8 (c : Int) 32 = (c : Int) := by
  have : ∀ k : Fin 6, bits .or .u8 ((97 + k.val : Nat) : Int) 32 = ((97 + k.val : Nat) : Int) := by decide +kernel
  have e := this ⟨c - 97, by omega⟩
  simpa [show 97 + (c - 97) = c by omega] using e

end Go.Proofs.YtmihcicepgjogaaGreatDoor
