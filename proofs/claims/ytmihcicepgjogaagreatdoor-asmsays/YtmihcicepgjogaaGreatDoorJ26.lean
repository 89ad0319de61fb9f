/- Texts in one: AsmN3. -/
import Derived.Test.YtmihcicepgjogaaGreatDoorJ24
/- Numbers read, of base 0: zero, and hexadecimal. -/
namespace Go.Proofs.YtmihcicepgjogaaGreatDoor
open Go.ChangeShapes Go.WideShapes Go.ChangeAt Go.RowKit
set_option linter.unusedVariables false
set_option linter.unusedSimpArgs false

set_option maxRecDepth 1000000 in
set_option maxHeartbeats 6400000 in
theorem pu_hex_100 (a b c : UInt8) (x y z : Nat) (hxa : a.toNat = x) (hyb : b.toNat = y) (hzc : c.toNat = z) (x1 : 97 ≤ x) (x2 : x ≤ 102) (y1 : 48 ≤ y) (y2 : y ≤ 57) (z1 : 48 ≤ z) (z2 : z ≤ 57) (w : World) : Calls Tryz.prog 142 #[.string ⟨#[48, 120, a, b, c]⟩, .int .i64 0, .int .i64 64] w fun e w' => e = .returned (.tuple #[.int .u64 (((x - 87) * 256 + (y - 48) * 16 + (z - 48) : Nat) : Int), .nilIface]) ∧ Below w.heap.size w w' := by
  have hmv : IntKind.u64.wrap (IntKind.u64.wrap 18446744073709551616 - 1) = 18446744073709551615 := by
    rw [IntKind.wrap_u64, IntKind.wrap_u64]
    decide
  have hcv := Lib.run_convert_string_bytes (P := Tryz.prog) w 9 54 5 ⟨#[a, b, c]⟩ (u := .string) Tryz.underlying9 Tryz.underlying54 Tryz.underlying5
  have c0 := Lib.bytesWorld_cell w 5 ⟨#[a, b, c]⟩ 0 (by show 0 < 3; decide)
  have c1 := Lib.bytesWorld_cell w 5 ⟨#[a, b, c]⟩ 1 (by show 1 < 3; decide)
  have c2 := Lib.bytesWorld_cell w 5 ⟨#[a, b, c]⟩ 2 (by show 2 < 3; decide)
  obtain ⟨W1, hW1⟩ : ∃ W1, W1 = Lib.bytesWorld w 5 ⟨#[a, b, c]⟩ := ⟨_, rfl⟩
  have HB : Hid (Below w.heap.size w W1) := hW1 ▸ bytes_bel w _
  rw [← hW1] at hcv c0 c1 c2
  clear hW1
  have hx : (⟨#[48, 120, a, b, c]⟩ : ByteArray).extract 2 5 = ⟨#[a, b, c]⟩ := ba_extract [48, 120, a, b, c] 2 5
  have l120 : bits .or .u8 120 32 = 120 := by decide +kernel
  have p0 : (((⟨#[48, 120, a, b, c]⟩ : ByteArray)[0]'(by show 0 < 5; decide)).toNat : Int) = 48 := rfl
  have p1 : (((⟨#[48, 120, a, b, c]⟩ : ByteArray)[1]'(by show 1 < 5; decide)).toNat : Int) = 120 := rfl
  have c0' : W1.cell? ⟨w.heap.size, 0, none⟩ = some (.int .u8 a.toNat) := c0
  have c1' : W1.cell? ⟨w.heap.size, 1, none⟩ = some (.int .u8 b.toNat) := c1
  have c2' : W1.cell? ⟨w.heap.size, 2, none⟩ = some (.int .u8 c.toNat) := c2
  rw [hxa] at c0'
  rw [hyb] at c1'
  rw [hzc] at c2'
  clear c0 c1 c2 hxa hyb hzc
  have rx : bits .or .u8 (x : Int) 32 = (x : Int) := or32 x x1 x2
  have ix : ((x : Int) == 95) = false := by simp; omega
  have iy : ((y : Int) == 95) = false := by simp; omega
  have iz : ((z : Int) == 95) = false := by simp; omega
  have HV : Hid (((((x - 87) * 256 + (y - 48) * 16 + (z - 48) : Nat) : Int)) = ((x : Int) - 87) * 256 + ((y : Int) - 48) * 16 + ((z : Int) - 48)) := (by omega : ((((x - 87) * 256 + (y - 48) * 16 + (z - 48) : Nat) : Int)) = _)
  generalize hv : (((x - 87) * 256 + (y - 48) * 16 + (z - 48) : Nat) : Int) = V at HV
  clear hv
  go_enter Tryz.func142, Tryz.ntmps142
  go_wp2_with (go_at_call 151; refine (Tryz.internal_strconv_lower _ _).mono ?_; rintro e w' ⟨rfl, rfl⟩)
  refine wp_loop_rounds 4 ?_
  rw [rounds_succ]
  go_wp2_with (go_at_call 151; refine (Tryz.internal_strconv_lower _ _).mono ?_; rintro e w' ⟨rfl, rfl⟩)
  rw [rounds_succ]
  go_wp2_with (go_at_call 151; refine (Tryz.internal_strconv_lower _ _).mono ?_; rintro e w' ⟨rfl, rfl⟩)
  rw [rounds_succ]
  go_wp2_with (go_at_call 151; refine (Tryz.internal_strconv_lower _ _).mono ?_; rintro e w' ⟨rfl, rfl⟩)
  rw [rounds_succ]
  go_wp2
  refine bodyPost_ret (v := .tuple #[.int .u64 V, .nilIface]) ?_ rfl ⟨rfl, HB.out⟩
  have := HV.out
  simp [results, Tryz.results142, go_sem]
  omega

set_option maxRecDepth 1000000 in
set_option maxHeartbeats 6400000 in
theorem pu_hex_101 (a b c : UInt8) (x y z : Nat) (hxa : a.toNat = x) (hyb : b.toNat = y) (hzc : c.toNat = z) (x1 : 97 ≤ x) (x2 : x ≤ 102) (y1 : 48 ≤ y) (y2 : y ≤ 57) (z1 : 97 ≤ z) (z2 : z ≤ 102) (w : World) : Calls Tryz.prog 142 #[.string ⟨#[48, 120, a, b, c]⟩, .int .i64 0, .int .i64 64] w fun e w' => e = .returned (.tuple #[.int .u64 (((x - 87) * 256 + (y - 48) * 16 + (z - 87) : Nat) : Int), .nilIface]) ∧ Below w.heap.size w w' := by
  have hmv : IntKind.u64.wrap (IntKind.u64.wrap 18446744073709551616 - 1) = 18446744073709551615 := by
    rw [IntKind.wrap_u64, IntKind.wrap_u64]
    decide
  have hcv := Lib.run_convert_string_bytes (P := Tryz.prog) w 9 54 5 ⟨#[a, b, c]⟩ (u := .string) Tryz.underlying9 Tryz.underlying54 Tryz.underlying5
  have c0 := Lib.bytesWorld_cell w 5 ⟨#[a, b, c]⟩ 0 (by show 0 < 3; decide)
  have c1 := Lib.bytesWorld_cell w 5 ⟨#[a, b, c]⟩ 1 (by show 1 < 3; decide)
  have c2 := Lib.bytesWorld_cell w 5 ⟨#[a, b, c]⟩ 2 (by show 2 < 3; decide)
  obtain ⟨W1, hW1⟩ : ∃ W1, W1 = Lib.bytesWorld w 5 ⟨#[a, b, c]⟩ := ⟨_, rfl⟩
  have HB : Hid (Below w.heap.size w W1) := hW1 ▸ bytes_bel w _
  rw [← hW1] at hcv c0 c1 c2
  clear hW1
  have hx : (⟨#[48, 120, a, b, c]⟩ : ByteArray).extract 2 5 = ⟨#[a, b, c]⟩ := ba_extract [48, 120, a, b, c] 2 5
  have l120 : bits .or .u8 120 32 = 120 := by decide +kernel
  have p0 : (((⟨#[48, 120, a, b, c]⟩ : ByteArray)[0]'(by show 0 < 5; decide)).toNat : Int) = 48 := rfl
  have p1 : (((⟨#[48, 120, a, b, c]⟩ : ByteArray)[1]'(by show 1 < 5; decide)).toNat : Int) = 120 := rfl
  have c0' : W1.cell? ⟨w.heap.size, 0, none⟩ = some (.int .u8 a.toNat) := c0
  have c1' : W1.cell? ⟨w.heap.size, 1, none⟩ = some (.int .u8 b.toNat) := c1
  have c2' : W1.cell? ⟨w.heap.size, 2, none⟩ = some (.int .u8 c.toNat) := c2
  rw [hxa] at c0'
  rw [hyb] at c1'
  rw [hzc] at c2'
  clear c0 c1 c2 hxa hyb hzc
  have rx : bits .or .u8 (x : Int) 32 = (x : Int) := or32 x x1 x2
  have rz : bits .or .u8 (z : Int) 32 = (z : Int) := or32 z z1 z2
  have ix : ((x : Int) == 95) = false := by simp; omega
  have iy : ((y : Int) == 95) = false := by simp; omega
  have iz : ((z : Int) == 95) = false := by simp; omega
  have HV : Hid (((((x - 87) * 256 + (y - 48) * 16 + (z - 87) : Nat) : Int)) = ((x : Int) - 87) * 256 + ((y : Int) - 48) * 16 + ((z : Int) - 87)) := (by omega : ((((x - 87) * 256 + (y - 48) * 16 + (z - 87) : Nat) : Int)) = _)
  generalize hv : (((x - 87) * 256 + (y - 48) * 16 + (z - 87) : Nat) : Int) = V at HV
  clear hv
  go_enter Tryz.func142, Tryz.ntmps142
  go_wp2_with (go_at_call 151; refine (Tryz.internal_strconv_lower _ _).mono ?_; rintro e w' ⟨rfl, rfl⟩)
  refine wp_loop_rounds 4 ?_
  rw [rounds_succ]
  go_wp2_with (go_at_call 151; refine (Tryz.internal_strconv_lower _ _).mono ?_; rintro e w' ⟨rfl, rfl⟩)
  rw [rounds_succ]
  go_wp2_with (go_at_call 151; refine (Tryz.internal_strconv_lower _ _).mono ?_; rintro e w' ⟨rfl, rfl⟩)
  rw [rounds_succ]
  go_wp2_with (go_at_call 151; refine (Tryz.internal_strconv_lower _ _).mono ?_; rintro e w' ⟨rfl, rfl⟩)
  rw [rounds_succ]
  go_wp2
  refine bodyPost_ret (v := .tuple #[.int .u64 V, .nilIface]) ?_ rfl ⟨rfl, HB.out⟩
  have := HV.out
  simp [results, Tryz.results142, go_sem]
  omega

set_option maxRecDepth 1000000 in
set_option maxHeartbeats 6400000 in
theorem pu_hex_110 (a b c : UInt8) (x y z : Nat) (hxa : a.toNat = x) (hyb : b.toNat = y) (hzc : c.toNat = z) (x1 : 97 ≤ x) (x2 : x ≤ 102) (y1 : 97 ≤ y) (y2 : y ≤ 102) (z1 : 48 ≤ z) (z2 : z ≤ 57) (w : World) : Calls Tryz.prog 142 #[.string ⟨#[48, 120, a, b, c]⟩, .int .i64 0, .int .i64 64] w fun e w' => e = .returned (.tuple #[.int .u64 (((x - 87) * 256 + (y - 87) * 16 + (z - 48) : Nat) : Int), .nilIface]) ∧ Below w.heap.size w w' := by
  have hmv : IntKind.u64.wrap (IntKind.u64.wrap 18446744073709551616 - 1) = 18446744073709551615 := by
    rw [IntKind.wrap_u64, IntKind.wrap_u64]
    decide
  have hcv := Lib.run_convert_string_bytes (P := Tryz.prog) w 9 54 5 ⟨#[a, b, c]⟩ (u := .string) Tryz.underlying9 Tryz.underlying54 Tryz.underlying5
  have c0 := Lib.bytesWorld_cell w 5 ⟨#[a, b, c]⟩ 0 (by show 0 < 3; decide)
  have c1 := Lib.bytesWorld_cell w 5 ⟨#[a, b, c]⟩ 1 (by show 1 < 3; decide)
  have c2 := Lib.bytesWorld_cell w 5 ⟨#[a, b, c]⟩ 2 (by show 2 < 3; decide)
  obtain ⟨W1, hW1⟩ : ∃ W1, W1 = Lib.bytesWorld w 5 ⟨#[a, b, c]⟩ := ⟨_, rfl⟩
  have HB : Hid (Below w.heap.size w W1) := hW1 ▸ bytes_bel w _
  rw [← hW1] at hcv c0 c1 c2
  clear hW1
  have hx : (⟨#[48, 120, a, b, c]⟩ : ByteArray).extract 2 5 = ⟨#[a, b, c]⟩ := ba_extract [48, 120, a, b, c] 2 5
  have l120 : bits .or .u8 120 32 = 120 := by decide +kernel
  have p0 : (((⟨#[48, 120, a, b, c]⟩ : ByteArray)[0]'(by show 0 < 5; decide)).toNat : Int) = 48 := rfl
  have p1 : (((⟨#[48, 120, a, b, c]⟩ : ByteArray)[1]'(by show 1 < 5; decide)).toNat : Int) = 120 := rfl
  have c0' : W1.cell? ⟨w.heap.size, 0, none⟩ = some (.int .u8 a.toNat) := c0
  have c1' : W1.cell? ⟨w.heap.size, 1, none⟩ = some (.int .u8 b.toNat) := c1
  have c2' : W1.cell? ⟨w.heap.size, 2, none⟩ = some (.int .u8 c.toNat) := c2
  rw [hxa] at c0'
  rw [hyb] at c1'
  rw [hzc] at c2'
  clear c0 c1 c2 hxa hyb hzc
  have rx : bits .or .u8 (x : Int) 32 = (x : Int) := or32 x x1 x2
  have ry : bits .or .u8 (y : Int) 32 = (y : Int) := or32 y y1 y2
  have ix : ((x : Int) == 95) = false := by simp; omega
  have iy : ((y : Int) == 95) = false := by simp; omega
  have iz : ((z : Int) == 95) = false := by simp; omega
  have HV : Hid (((((x - 87) * 256 + (y - 87) * 16 + (z - 48) : Nat) : Int)) = ((x : Int) - 87) * 256 + ((y : Int) - 87) * 16 + ((z : Int) - 48)) := (by omega : ((((x - 87) * 256 + (y - 87) * 16 + (z - 48) : Nat) : Int)) = _)
  generalize hv : (((x - 87) * 256 + (y - 87) * 16 + (z - 48) : Nat) : Int) = V at HV
  clear hv
  go_enter Tryz.func142, Tryz.ntmps142
  go_wp2_with (go_at_call 151; refine (Tryz.internal_strconv_lower _ _).mono ?_; rintro e w' ⟨rfl, rfl⟩)
  refine wp_loop_rounds 4 ?_
  rw [rounds_succ]
  go_wp2_with (go_at_call 151; refine (Tryz.internal_strconv_lower _ _).mono ?_; rintro e w' ⟨rfl, rfl⟩)
  rw [rounds_succ]
  go_wp2_with (go_at_call 151; refine (Tryz.internal_strconv_lower _ _).mono ?_; rintro e w' ⟨rfl, rfl⟩)
  rw [rounds_succ]
  go_wp2_with (go_at_call 151; refine (Tryz.internal_strconv_lower _ _).mono ?_; rintro e w' ⟨rfl, rfl⟩)
  rw [rounds_succ]
  go_wp2
  refine bodyPost_ret (v := .tuple #[.int .u64 V, .nilIface]) ?_ rfl ⟨rfl, HB.out⟩
  have := HV.out
  simp [results, Tryz.results142, go_sem]
  omega

set_option maxRecDepth 1000000 in
set_option maxHeartbeats 6400000 in
theorem pu_hex_111 (a b c : UInt8) (x y z : Nat) (hxa : a.toNat = x) (hyb : b.toNat = y) (hzc : c.toNat = z) (x1 : 97 ≤ x) (x2 : x ≤ 102) (y1 : 97 ≤ y) (y2 : y ≤ 102) (z1 : 97 ≤ z) (z2 : z ≤ 102) (w : World) : Calls Tryz.prog 142 #[.string ⟨#[48, 120, a, b, c]⟩, .int .i64 0, .int .i64 64] w fun e w' => e = .returned (.tuple #[.int .u64 (((x - 87) * 256 + (y - 87) * 16 + (z - 87) : Nat) : Int), .nilIface]) ∧ Below w.heap.size w w' := by
  have hmv : IntKind.u64.wrap (IntKind.u64.wrap 18446744073709551616 - 1) = 18446744073709551615 := by
    rw [IntKind.wrap_u64, IntKind.wrap_u64]
    decide
  have hcv := Lib.run_convert_string_bytes (P := Tryz.prog) w 9 54 5 ⟨#[a, b, c]⟩ (u := .string) Tryz.underlying9 Tryz.underlying54 Tryz.underlying5
  have c0 := Lib.bytesWorld_cell w 5 ⟨#[a, b, c]⟩ 0 (by show 0 < 3; decide)
  have c1 := Lib.bytesWorld_cell w 5 ⟨#[a, b, c]⟩ 1 (by show 1 < 3; decide)
  have c2 := Lib.bytesWorld_cell w 5 ⟨#[a, b, c]⟩ 2 (by show 2 < 3; decide)
  obtain ⟨W1, hW1⟩ : ∃ W1, W1 = Lib.bytesWorld w 5 ⟨#[a, b, c]⟩ := ⟨_, rfl⟩
  have HB : Hid (Below w.heap.size w W1) := hW1 ▸ bytes_bel w _
  rw [← hW1] at hcv c0 c1 c2
  clear hW1
  have hx : (⟨#[48, 120, a, b, c]⟩ : ByteArray).extract 2 5 = ⟨#[a, b, c]⟩ := ba_extract [48, 120, a, b, c] 2 5
  have l120 : bits .or .u8 120 32 = 120 := by decide +kernel
  have p0 : (((⟨#[48, 120, a, b, c]⟩ : ByteArray)[0]'(by show 0 < 5; decide)).toNat : Int) = 48 := rfl
  have p1 : (((⟨#[48, 120, a, b, c]⟩ : ByteArray)[1]'(by show 1 < 5; decide)).toNat : Int) = 120 := rfl
  have c0' : W1.cell? ⟨w.heap.size, 0, none⟩ = some (.int .u8 a.toNat) := c0
  have c1' : W1.cell? ⟨w.heap.size, 1, none⟩ = some (.int .u8 b.toNat) := c1
  have c2' : W1.cell? ⟨w.heap.size, 2, none⟩ = some (.int .u8 c.toNat) := c2
  rw [hxa] at c0'
  rw [hyb] at c1'
  rw [hzc] at c2'
  clear c0 c1 c2 hxa hyb hzc
  have rx : bits .or .u8 (x : Int) 32 = (x : Int) := or32 x x1 x2
  have ry : bits .or .u8 (y : Int) 32 = (y : Int) := or32 y y1 y2
  have rz : bits .or .u8 (z : Int) 32 = (z : Int) := or32 z z1 z2
  have ix : ((x : Int) == 95) = false := by simp; omega
  have iy : ((y : Int) == 95) = false := by simp; omega
  have iz : ((z : Int) == 95) = false := by simp; omega
  have HV : Hid (((((x - 87) * 256 + (y - 87) * 16 + (z - 87) : Nat) : Int)) = ((x : Int) - 87) * 256 + ((y : Int) - 87) * 16 + ((z : Int) - 87)) := (by omega : ((((x - 87) * 256 + (y - 87) * 16 + (z - 87) : Nat) : Int)) = _)
  generalize hv : (((x - 87) * 256 + (y - 87) * 16 + (z - 87) : Nat) : Int) = V at HV
  clear hv
  go_enter Tryz.func142, Tryz.ntmps142
  go_wp2_with (go_at_call 151; refine (Tryz.internal_strconv_lower _ _).mono ?_; rintro e w' ⟨rfl, rfl⟩)
  refine wp_loop_rounds 4 ?_
  rw [rounds_succ]
  go_wp2_with (go_at_call 151; refine (Tryz.internal_strconv_lower _ _).mono ?_; rintro e w' ⟨rfl, rfl⟩)
  rw [rounds_succ]
  go_wp2_with (go_at_call 151; refine (Tryz.internal_strconv_lower _ _).mono ?_; rintro e w' ⟨rfl, rfl⟩)
  rw [rounds_succ]
  go_wp2_with (go_at_call 151; refine (Tryz.internal_strconv_lower _ _).mono ?_; rintro e w' ⟨rfl, rfl⟩)
  rw [rounds_succ]
  go_wp2
  refine bodyPost_ret (v := .tuple #[.int .u64 V, .nilIface]) ?_ rfl ⟨rfl, HB.out⟩
  have := HV.out
  simp [results, Tryz.results142, go_sem]
  omega

end Go.Proofs.YtmihcicepgjogaaGreatDoor
