/- Texts in one: RowG. -/
import Derived.Test.YtopehmpjfndgjaaJ28
/- What row returns: the letters of uses tell the fields. -/
namespace Go.Proofs.Ytopehmpjfndgjaa
open Go.ChangeShapes Go.WideShapes Go.ChangeAt Go.RowKit
set_option linter.unusedVariables false
set_option linter.unusedSimpArgs false

namespace W
/-- Is the letter c among the first j? -/
def has (us : ByteArray) (c : Int) (j : Nat) : Bool := (us.data.toList.take j).any fun b => (b.toNat : Int) == c
theorem has_succ (us : ByteArray) (c : Int) (j : Nat) (h : j < us.size) : has us c (j + 1) = (has us c j || (((us[j]'h).toNat : Int) == c)) := by
  have hl : j < us.data.toList.length := by simpa using h
  unfold has
  rw [List.take_add_one, List.any_append, List.getElem?_eq_getElem hl]
  simp
  rfl
end W

set_option maxRecDepth 100000 in
set_option maxHeartbeats 6400000 in
theorem row_tt (op oc f3 f7 fm : Int) (nm us : ByteArray) (hu : us.size ≤ 64) (h3 : 0 ≤ f3) (h7 : 0 ≤ f7) (w : World) : Calls Try.prog 48 #[.int .i64 op, .string nm, .int .i64 oc, .int .i64 f3, .int .i64 f7, .int .u8 fm, .string us] w fun e w' => e = .returned (.agg #[.int .i64 op, .string nm, .int .u32 (oc % 4294967296), .int .u32 (f3 % 4294967296), .int .u32 (f7 % 4294967296), .bool true, .bool true, .int .u8 fm, .bool (W.has us 100 us.size), .bool (W.has us 97 us.size), .bool (W.has us 98 us.size), .bool (W.has us 99 us.size), .int .u32 0, .bool (W.has us 112 us.size)]) ∧ Below w.heap.size w w' := by
  have hb : Hid (Below w.heap.size w w) := Below.refl _ _
  have hu' : (us.size : Int) ≤ 64 := by omega
  go_enter Try.func48, Try.ntmps48
  go_wp2
  go_loopw [16] (fun i wr => ∃ j : Nat, j ≤ us.size ∧ i = .int .i64 j ∧ wr = (w.alloc (.cells #[.int .i64 0, .string ⟨#[]⟩, .int .u32 0, .int .u32 0, .int .u32 0, .bool false, .bool false, .int .u8 0, .bool false, .bool false, .bool false, .bool false, .int .u32 0, .bool false] 65)).alloc (.cells #[.int .i64 op, .string nm, .int .u32 (oc % 4294967296), .int .u32 (f3 % 4294967296), .int .u32 (f7 % 4294967296), .bool true, .bool true, .int .u8 fm, .bool (W.has us 100 j), .bool (W.has us 97 j), .bool (W.has us 98 j), .bool (W.has us 99 j), .int .u32 0, .bool (W.has us 112 j)] 65)) (fun i _ => (us.size - intOf i).toNat)
  case atStart => exact ⟨0, by omega, rfl, rfl⟩
  case round =>
    obtain ⟨j, hj, rfl, rfl⟩ := hrel
    by_cases hlt : j < us.size
    · have hl1 : (j : Int) < 64 := by omega
      have hl2 : (j : Int) < us.size := by omega
      have k0 := W.has_succ us 100 j hlt
      have k1 := W.has_succ us 97 j hlt
      have k2 := W.has_succ us 98 j hlt
      have k3 := W.has_succ us 99 j hlt
      have k4 := W.has_succ us 112 j hlt
      obtain ⟨z, hz⟩ : ∃ z, (((us[j]'hlt).toNat : Nat) : Int) = z := ⟨_, rfl⟩
      rw [hz] at k0 k1 k2 k3 k4
      have hz' : ∀ h, (((us[j]'h).toNat : Nat) : Int) = z := fun _ => hz
      clear hz
      generalize W.has us 100 j = p0 at *
      generalize W.has us 97 j = p1 at *
      generalize W.has us 98 j = p2 at *
      generalize W.has us 99 j = p3 at *
      generalize W.has us 112 j = p4 at *
      cases z0 : (z == 100)
      case true =>
        obtain rfl := beq_iff_eq.1 z0
        clear z0
        have K0 : Hid (W.has us 100 (j + 1) = true) := (k0.trans (by simp) : W.has us 100 (j + 1) = true)
        have K1 : Hid (W.has us 97 (j + 1) = p1) := (k1.trans (by simp) : W.has us 97 (j + 1) = p1)
        have K2 : Hid (W.has us 98 (j + 1) = p2) := (k2.trans (by simp) : W.has us 98 (j + 1) = p2)
        have K3 : Hid (W.has us 99 (j + 1) = p3) := (k3.trans (by simp) : W.has us 99 (j + 1) = p3)
        have K4 : Hid (W.has us 112 (j + 1) = p4) := (k4.trans (by simp) : W.has us 112 (j + 1) = p4)
        clear k0 k1 k2 k3 k4
        go_wp2
        go_roundw
        case rel => exact ⟨j + 1, by omega, by go_num, by rw [K0.out, K1.out, K2.out, K3.out, K4.out]⟩
        case measure => simp [intOf]; omega
      cases z1 : (z == 97)
      case true =>
        obtain rfl := beq_iff_eq.1 z1
        clear z0
        clear z1
        have K0 : Hid (W.has us 100 (j + 1) = p0) := (k0.trans (by simp) : W.has us 100 (j + 1) = p0)
        have K1 : Hid (W.has us 97 (j + 1) = true) := (k1.trans (by simp) : W.has us 97 (j + 1) = true)
        have K2 : Hid (W.has us 98 (j + 1) = p2) := (k2.trans (by simp) : W.has us 98 (j + 1) = p2)
        have K3 : Hid (W.has us 99 (j + 1) = p3) := (k3.trans (by simp) : W.has us 99 (j + 1) = p3)
        have K4 : Hid (W.has us 112 (j + 1) = p4) := (k4.trans (by simp) : W.has us 112 (j + 1) = p4)
        clear k0 k1 k2 k3 k4
        go_wp2
        go_roundw
        case rel => exact ⟨j + 1, by omega, by go_num, by rw [K0.out, K1.out, K2.out, K3.out, K4.out]⟩
        case measure => simp [intOf]; omega
      cases z2 : (z == 98)
      case true =>
        obtain rfl := beq_iff_eq.1 z2
        clear z0
        clear z1
        clear z2
        have K0 : Hid (W.has us 100 (j + 1) = p0) := (k0.trans (by simp) : W.has us 100 (j + 1) = p0)
        have K1 : Hid (W.has us 97 (j + 1) = p1) := (k1.trans (by simp) : W.has us 97 (j + 1) = p1)
        have K2 : Hid (W.has us 98 (j + 1) = true) := (k2.trans (by simp) : W.has us 98 (j + 1) = true)
        have K3 : Hid (W.has us 99 (j + 1) = p3) := (k3.trans (by simp) : W.has us 99 (j + 1) = p3)
        have K4 : Hid (W.has us 112 (j + 1) = p4) := (k4.trans (by simp) : W.has us 112 (j + 1) = p4)
        clear k0 k1 k2 k3 k4
        go_wp2
        go_roundw
        case rel => exact ⟨j + 1, by omega, by go_num, by rw [K0.out, K1.out, K2.out, K3.out, K4.out]⟩
        case measure => simp [intOf]; omega
      cases z3 : (z == 99)
      case true =>
        obtain rfl := beq_iff_eq.1 z3
        clear z0
        clear z1
        clear z2
        clear z3
        have K0 : Hid (W.has us 100 (j + 1) = p0) := (k0.trans (by simp) : W.has us 100 (j + 1) = p0)
        have K1 : Hid (W.has us 97 (j + 1) = p1) := (k1.trans (by simp) : W.has us 97 (j + 1) = p1)
        have K2 : Hid (W.has us 98 (j + 1) = p2) := (k2.trans (by simp) : W.has us 98 (j + 1) = p2)
        have K3 : Hid (W.has us 99 (j + 1) = true) := (k3.trans (by simp) : W.has us 99 (j + 1) = true)
        have K4 : Hid (W.has us 112 (j + 1) = p4) := (k4.trans (by simp) : W.has us 112 (j + 1) = p4)
        clear k0 k1 k2 k3 k4
        go_wp2
        go_roundw
        case rel => exact ⟨j + 1, by omega, by go_num, by rw [K0.out, K1.out, K2.out, K3.out, K4.out]⟩
        case measure => simp [intOf]; omega
      cases z4 : (z == 112)
      case true =>
        obtain rfl := beq_iff_eq.1 z4
        clear z0
        clear z1
        clear z2
        clear z3
        clear z4
        have K0 : Hid (W.has us 100 (j + 1) = p0) := (k0.trans (by simp) : W.has us 100 (j + 1) = p0)
        have K1 : Hid (W.has us 97 (j + 1) = p1) := (k1.trans (by simp) : W.has us 97 (j + 1) = p1)
        have K2 : Hid (W.has us 98 (j + 1) = p2) := (k2.trans (by simp) : W.has us 98 (j + 1) = p2)
        have K3 : Hid (W.has us 99 (j + 1) = p3) := (k3.trans (by simp) : W.has us 99 (j + 1) = p3)
        have K4 : Hid (W.has us 112 (j + 1) = true) := (k4.trans (by simp) : W.has us 112 (j + 1) = true)
        clear k0 k1 k2 k3 k4
        go_wp2
        go_roundw
        case rel => exact ⟨j + 1, by omega, by go_num, by rw [K0.out, K1.out, K2.out, K3.out, K4.out]⟩
        case measure => simp [intOf]; omega
      case false =>
        have K0 : Hid (W.has us 100 (j + 1) = p0) := (k0.trans (by rw [z0, Bool.or_false]) : W.has us 100 (j + 1) = p0)
        have K1 : Hid (W.has us 97 (j + 1) = p1) := (k1.trans (by rw [z1, Bool.or_false]) : W.has us 97 (j + 1) = p1)
        have K2 : Hid (W.has us 98 (j + 1) = p2) := (k2.trans (by rw [z2, Bool.or_false]) : W.has us 98 (j + 1) = p2)
        have K3 : Hid (W.has us 99 (j + 1) = p3) := (k3.trans (by rw [z3, Bool.or_false]) : W.has us 99 (j + 1) = p3)
        have K4 : Hid (W.has us 112 (j + 1) = p4) := (k4.trans (by rw [z4, Bool.or_false]) : W.has us 112 (j + 1) = p4)
        clear k0 k1 k2 k3 k4
        go_wp2
        go_roundw
        case rel => exact ⟨j + 1, by omega, by go_num, by rw [K0.out, K1.out, K2.out, K3.out, K4.out]⟩
        case measure => simp [intOf]; omega
    · obtain rfl : j = us.size := by omega
      clear hlt hj
      go_wp2
      exact bodyPost_ret (v := .agg #[.int .i64 op, .string nm, .int .u32 (oc % 4294967296), .int .u32 (f3 % 4294967296), .int .u32 (f7 % 4294967296), .bool true, .bool true, .int .u8 fm, .bool (W.has us 100 us.size), .bool (W.has us 97 us.size), .bool (W.has us 98 us.size), .bool (W.has us 99 us.size), .int .u32 0, .bool (W.has us 112 us.size)]) (by simp [results, Try.results48, go_sem]) rfl ⟨rfl, (hb.out.alloc hb.out.size _).alloc (by simp) _⟩

set_option maxRecDepth 100000 in
set_option maxHeartbeats 6400000 in
theorem row_tf (op oc f3 f7 fm : Int) (nm us : ByteArray) (hu : us.size ≤ 64) (h3 : 0 ≤ f3) (h7 : ¬ 0 ≤ f7) (w : World) : Calls Try.prog 48 #[.int .i64 op, .string nm, .int .i64 oc, .int .i64 f3, .int .i64 f7, .int .u8 fm, .string us] w fun e w' => e = .returned (.agg #[.int .i64 op, .string nm, .int .u32 (oc % 4294967296), .int .u32 (f3 % 4294967296), .int .u32 0, .bool true, .bool false, .int .u8 fm, .bool (W.has us 100 us.size), .bool (W.has us 97 us.size), .bool (W.has us 98 us.size), .bool (W.has us 99 us.size), .int .u32 0, .bool (W.has us 112 us.size)]) ∧ Below w.heap.size w w' := by
  have hb : Hid (Below w.heap.size w w) := Below.refl _ _
  have hu' : (us.size : Int) ≤ 64 := by omega
  go_enter Try.func48, Try.ntmps48
  go_wp2
  go_loopw [16] (fun i wr => ∃ j : Nat, j ≤ us.size ∧ i = .int .i64 j ∧ wr = (w.alloc (.cells #[.int .i64 0, .string ⟨#[]⟩, .int .u32 0, .int .u32 0, .int .u32 0, .bool false, .bool false, .int .u8 0, .bool false, .bool false, .bool false, .bool false, .int .u32 0, .bool false] 65)).alloc (.cells #[.int .i64 op, .string nm, .int .u32 (oc % 4294967296), .int .u32 (f3 % 4294967296), .int .u32 0, .bool true, .bool false, .int .u8 fm, .bool (W.has us 100 j), .bool (W.has us 97 j), .bool (W.has us 98 j), .bool (W.has us 99 j), .int .u32 0, .bool (W.has us 112 j)] 65)) (fun i _ => (us.size - intOf i).toNat)
  case atStart => exact ⟨0, by omega, rfl, rfl⟩
  case round =>
    obtain ⟨j, hj, rfl, rfl⟩ := hrel
    by_cases hlt : j < us.size
    · have hl1 : (j : Int) < 64 := by omega
      have hl2 : (j : Int) < us.size := by omega
      have k0 := W.has_succ us 100 j hlt
      have k1 := W.has_succ us 97 j hlt
      have k2 := W.has_succ us 98 j hlt
      have k3 := W.has_succ us 99 j hlt
      have k4 := W.has_succ us 112 j hlt
      obtain ⟨z, hz⟩ : ∃ z, (((us[j]'hlt).toNat : Nat) : Int) = z := ⟨_, rfl⟩
      rw [hz] at k0 k1 k2 k3 k4
      have hz' : ∀ h, (((us[j]'h).toNat : Nat) : Int) = z := fun _ => hz
      clear hz
      generalize W.has us 100 j = p0 at *
      generalize W.has us 97 j = p1 at *
      generalize W.has us 98 j = p2 at *
      generalize W.has us 99 j = p3 at *
      generalize W.has us 112 j = p4 at *
      cases z0 : (z == 100)
      case true =>
        obtain rfl := beq_iff_eq.1 z0
        clear z0
        have K0 : Hid (W.has us 100 (j + 1) = true) := (k0.trans (by simp) : W.has us 100 (j + 1) = true)
        have K1 : Hid (W.has us 97 (j + 1) = p1) := (k1.trans (by simp) : W.has us 97 (j + 1) = p1)
        have K2 : Hid (W.has us 98 (j + 1) = p2) := (k2.trans (by simp) : W.has us 98 (j + 1) = p2)
        have K3 : Hid (W.has us 99 (j + 1) = p3) := (k3.trans (by simp) : W.has us 99 (j + 1) = p3)
        have K4 : Hid (W.has us 112 (j + 1) = p4) := (k4.trans (by simp) : W.has us 112 (j + 1) = p4)
        clear k0 k1 k2 k3 k4
        go_wp2
        go_roundw
        case rel => exact ⟨j + 1, by omega, by go_num, by rw [K0.out, K1.out, K2.out, K3.out, K4.out]⟩
        case measure => simp [intOf]; omega
      cases z1 : (z == 97)
      case true =>
        obtain rfl := beq_iff_eq.1 z1
        clear z0
        clear z1
        have K0 : Hid (W.has us 100 (j + 1) = p0) := (k0.trans (by simp) : W.has us 100 (j + 1) = p0)
        have K1 : Hid (W.has us 97 (j + 1) = true) := (k1.trans (by simp) : W.has us 97 (j + 1) = true)
        have K2 : Hid (W.has us 98 (j + 1) = p2) := (k2.trans (by simp) : W.has us 98 (j + 1) = p2)
        have K3 : Hid (W.has us 99 (j + 1) = p3) := (k3.trans (by simp) : W.has us 99 (j + 1) = p3)
        have K4 : Hid (W.has us 112 (j + 1) = p4) := (k4.trans (by simp) : W.has us 112 (j + 1) = p4)
        clear k0 k1 k2 k3 k4
        go_wp2
        go_roundw
        case rel => exact ⟨j + 1, by omega, by go_num, by rw [K0.out, K1.out, K2.out, K3.out, K4.out]⟩
        case measure => simp [intOf]; omega
      cases z2 : (z == 98)
      case true =>
        obtain rfl := beq_iff_eq.1 z2
        clear z0
        clear z1
        clear z2
        have K0 : Hid (W.has us 100 (j + 1) = p0) := (k0.trans (by simp) : W.has us 100 (j + 1) = p0)
        have K1 : Hid (W.has us 97 (j + 1) = p1) := (k1.trans (by simp) : W.has us 97 (j + 1) = p1)
        have K2 : Hid (W.has us 98 (j + 1) = true) := (k2.trans (by simp) : W.has us 98 (j + 1) = true)
        have K3 : Hid (W.has us 99 (j + 1) = p3) := (k3.trans (by simp) : W.has us 99 (j + 1) = p3)
        have K4 : Hid (W.has us 112 (j + 1) = p4) := (k4.trans (by simp) : W.has us 112 (j + 1) = p4)
        clear k0 k1 k2 k3 k4
        go_wp2
        go_roundw
        case rel => exact ⟨j + 1, by omega, by go_num, by rw [K0.out, K1.out, K2.out, K3.out, K4.out]⟩
        case measure => simp [intOf]; omega
      cases z3 : (z == 99)
      case true =>
        obtain rfl := beq_iff_eq.1 z3
        clear z0
        clear z1
        clear z2
        clear z3
        have K0 : Hid (W.has us 100 (j + 1) = p0) := (k0.trans (by simp) : W.has us 100 (j + 1) = p0)
        have K1 : Hid (W.has us 97 (j + 1) = p1) := (k1.trans (by simp) : W.has us 97 (j + 1) = p1)
        have K2 : Hid (W.has us 98 (j + 1) = p2) := (k2.trans (by simp) : W.has us 98 (j + 1) = p2)
        have K3 : Hid (W.has us 99 (j + 1) = true) := (k3.trans (by simp) : W.has us 99 (j + 1) = true)
        have K4 : Hid (W.has us 112 (j + 1) = p4) := (k4.trans (by simp) : W.has us 112 (j + 1) = p4)
        clear k0 k1 k2 k3 k4
        go_wp2
        go_roundw
        case rel => exact ⟨j + 1, by omega, by go_num, by rw [K0.out, K1.out, K2.out, K3.out, K4.out]⟩
        case measure => simp [intOf]; omega
      cases z4 : (z == 112)
      case true =>
        obtain rfl := beq_iff_eq.1 z4
        clear z0
        clear z1
        clear z2
        clear z3
        clear z4
        have K0 : Hid (W.has us 100 (j + 1) = p0) := (k0.trans (by simp) : W.has us 100 (j + 1) = p0)
        have K1 : Hid (W.has us 97 (j + 1) = p1) := (k1.trans (by simp) : W.has us 97 (j + 1) = p1)
        have K2 : Hid (W.has us 98 (j + 1) = p2) := (k2.trans (by simp) : W.has us 98 (j + 1) = p2)
        have K3 : Hid (W.has us 99 (j + 1) = p3) := (k3.trans (by simp) : W.has us 99 (j + 1) = p3)
        have K4 : Hid (W.has us 112 (j + 1) = true) := (k4.trans (by simp) : W.has us 112 (j + 1) = true)
        clear k0 k1 k2 k3 k4
        go_wp2
        go_roundw
        case rel => exact ⟨j + 1, by omega, by go_num, by rw [K0.out, K1.out, K2.out, K3.out, K4.out]⟩
        case measure => simp [intOf]; omega
      case false =>
        have K0 : Hid (W.has us 100 (j + 1) = p0) := (k0.trans (by rw [z0, Bool.or_false]) : W.has us 100 (j + 1) = p0)
        have K1 : Hid (W.has us 97 (j + 1) = p1) := (k1.trans (by rw [z1, Bool.or_false]) : W.has us 97 (j + 1) = p1)
        have K2 : Hid (W.has us 98 (j + 1) = p2) := (k2.trans (by rw [z2, Bool.or_false]) : W.has us 98 (j + 1) = p2)
        have K3 : Hid (W.has us 99 (j + 1) = p3) := (k3.trans (by rw [z3, Bool.or_false]) : W.has us 99 (j + 1) = p3)
        have K4 : Hid (W.has us 112 (j + 1) = p4) := (k4.trans (by rw [z4, Bool.or_false]) : W.has us 112 (j + 1) = p4)
        clear k0 k1 k2 k3 k4
        go_wp2
        go_roundw
        case rel => exact ⟨j + 1, by omega, by go_num, by rw [K0.out, K1.out, K2.out, K3.out, K4.out]⟩
        case measure => simp [intOf]; omega
    · obtain rfl : j = us.size := by omega
      clear hlt hj
      go_wp2
      exact bodyPost_ret (v := .agg #[.int .i64 op, .string nm, .int .u32 (oc % 4294967296), .int .u32 (f3 % 4294967296), .int .u32 0, .bool true, .bool false, .int .u8 fm, .bool (W.has us 100 us.size), .bool (W.has us 97 us.size), .bool (W.has us 98 us.size), .bool (W.has us 99 us.size), .int .u32 0, .bool (W.has us 112 us.size)]) (by simp [results, Try.results48, go_sem]) rfl ⟨rfl, (hb.out.alloc hb.out.size _).alloc (by simp) _⟩

set_option maxRecDepth 100000 in
set_option maxHeartbeats 6400000 in
theorem row_ff (op oc f3 f7 fm : Int) (nm us : ByteArray) (hu : us.size ≤ 64) (h3 : ¬ 0 ≤ f3) (h7 : ¬ 0 ≤ f7) (w : World) : Calls Try.prog 48 #[.int .i64 op, .string nm, .int .i64 oc, .int .i64 f3, .int .i64 f7, .int .u8 fm, .string us] w fun e w' => e = .returned (.agg #[.int .i64 op, .string nm, .int .u32 (oc % 4294967296), .int .u32 0, .int .u32 0, .bool false, .bool false, .int .u8 fm, .bool (W.has us 100 us.size), .bool (W.has us 97 us.size), .bool (W.has us 98 us.size), .bool (W.has us 99 us.size), .int .u32 0, .bool (W.has us 112 us.size)]) ∧ Below w.heap.size w w' := by
  have hb : Hid (Below w.heap.size w w) := Below.refl _ _
  have hu' : (us.size : Int) ≤ 64 := by omega
  go_enter Try.func48, Try.ntmps48
  go_wp2
  go_loopw [16] (fun i wr => ∃ j : Nat, j ≤ us.size ∧ i = .int .i64 j ∧ wr = (w.alloc (.cells #[.int .i64 0, .string ⟨#[]⟩, .int .u32 0, .int .u32 0, .int .u32 0, .bool false, .bool false, .int .u8 0, .bool false, .bool false, .bool false, .bool false, .int .u32 0, .bool false] 65)).alloc (.cells #[.int .i64 op, .string nm, .int .u32 (oc % 4294967296), .int .u32 0, .int .u32 0, .bool false, .bool false, .int .u8 fm, .bool (W.has us 100 j), .bool (W.has us 97 j), .bool (W.has us 98 j), .bool (W.has us 99 j), .int .u32 0, .bool (W.has us 112 j)] 65)) (fun i _ => (us.size - intOf i).toNat)
  case atStart => exact ⟨0, by omega, rfl, rfl⟩
  case round =>
    obtain ⟨j, hj, rfl, rfl⟩ := hrel
    by_cases hlt : j < us.size
    · have hl1 : (j : Int) < 64 := by omega
      have hl2 : (j : Int) < us.size := by omega
      have k0 := W.has_succ us 100 j hlt
      have k1 := W.has_succ us 97 j hlt
      have k2 := W.has_succ us 98 j hlt
      have k3 := W.has_succ us 99 j hlt
      have k4 := W.has_succ us 112 j hlt
      obtain ⟨z, hz⟩ : ∃ z, (((us[j]'hlt).toNat : Nat) : Int) = z := ⟨_, rfl⟩
      rw [hz] at k0 k1 k2 k3 k4
      have hz' : ∀ h, (((us[j]'h).toNat : Nat) : Int) = z := fun _ => hz
      clear hz
      generalize W.has us 100 j = p0 at *
      generalize W.has us 97 j = p1 at *
      generalize W.has us 98 j = p2 at *
      generalize W.has us 99 j = p3 at *
      generalize W.has us 112 j = p4 at *
      cases z0 : (z == 100)
      case true =>
        obtain rfl := beq_iff_eq.1 z0
        clear z0
        have K0 : Hid (W.has us 100 (j + 1) = true) := (k0.trans (by simp) : W.has us 100 (j + 1) = true)
        have K1 : Hid (W.has us 97 (j + 1) = p1) := (k1.trans (by simp) : W.has us 97 (j + 1) = p1)
        have K2 : Hid (W.has us 98 (j + 1) = p2) := (k2.trans (by simp) : W.has us 98 (j + 1) = p2)
        have K3 : Hid (W.has us 99 (j + 1) = p3) := (k3.trans (by simp) : W.has us 99 (j + 1) = p3)
        have K4 : Hid (W.has us 112 (j + 1) = p4) := (k4.trans (by simp) : W.has us 112 (j + 1) = p4)
        clear k0 k1 k2 k3 k4
        go_wp2
        go_roundw
        case rel => exact ⟨j + 1, by omega, by go_num, by rw [K0.out, K1.out, K2.out, K3.out, K4.out]⟩
        case measure => simp [intOf]; omega
      cases z1 : (z == 97)
      case true =>
        obtain rfl := beq_iff_eq.1 z1
        clear z0
        clear z1
        have K0 : Hid (W.has us 100 (j + 1) = p0) := (k0.trans (by simp) : W.has us 100 (j + 1) = p0)
        have K1 : Hid (W.has us 97 (j + 1) = true) := (k1.trans (by simp) : W.has us 97 (j + 1) = true)
        have K2 : Hid (W.has us 98 (j + 1) = p2) := (k2.trans (by simp) : W.has us 98 (j + 1) = p2)
        have K3 : Hid (W.has us 99 (j + 1) = p3) := (k3.trans (by simp) : W.has us 99 (j + 1) = p3)
        have K4 : Hid (W.has us 112 (j + 1) = p4) := (k4.trans (by simp) : W.has us 112 (j + 1) = p4)
        clear k0 k1 k2 k3 k4
        go_wp2
        go_roundw
        case rel => exact ⟨j + 1, by omega, by go_num, by rw [K0.out, K1.out, K2.out, K3.out, K4.out]⟩
        case measure => simp [intOf]; omega
      cases z2 : (z == 98)
      case true =>
        obtain rfl := beq_iff_eq.1 z2
        clear z0
        clear z1
        clear z2
        have K0 : Hid (W.has us 100 (j + 1) = p0) := (k0.trans (by simp) : W.has us 100 (j + 1) = p0)
        have K1 : Hid (W.has us 97 (j + 1) = p1) := (k1.trans (by simp) : W.has us 97 (j + 1) = p1)
        have K2 : Hid (W.has us 98 (j + 1) = true) := (k2.trans (by simp) : W.has us 98 (j + 1) = true)
        have K3 : Hid (W.has us 99 (j + 1) = p3) := (k3.trans (by simp) : W.has us 99 (j + 1) = p3)
        have K4 : Hid (W.has us 112 (j + 1) = p4) := (k4.trans (by simp) : W.has us 112 (j + 1) = p4)
        clear k0 k1 k2 k3 k4
        go_wp2
        go_roundw
        case rel => exact ⟨j + 1, by omega, by go_num, by rw [K0.out, K1.out, K2.out, K3.out, K4.out]⟩
        case measure => simp [intOf]; omega
      cases z3 : (z == 99)
      case true =>
        obtain rfl := beq_iff_eq.1 z3
        clear z0
        clear z1
        clear z2
        clear z3
        have K0 : Hid (W.has us 100 (j + 1) = p0) := (k0.trans (by simp) : W.has us 100 (j + 1) = p0)
        have K1 : Hid (W.has us 97 (j + 1) = p1) := (k1.trans (by simp) : W.has us 97 (j + 1) = p1)
        have K2 : Hid (W.has us 98 (j + 1) = p2) := (k2.trans (by simp) : W.has us 98 (j + 1) = p2)
        have K3 : Hid (W.has us 99 (j + 1) = true) := (k3.trans (by simp) : W.has us 99 (j + 1) = true)
        have K4 : Hid (W.has us 112 (j + 1) = p4) := (k4.trans (by simp) : W.has us 112 (j + 1) = p4)
        clear k0 k1 k2 k3 k4
        go_wp2
        go_roundw
        case rel => exact ⟨j + 1, by omega, by go_num, by rw [K0.out, K1.out, K2.out, K3.out, K4.out]⟩
        case measure => simp [intOf]; omega
      cases z4 : (z == 112)
      case true =>
        obtain rfl := beq_iff_eq.1 z4
        clear z0
        clear z1
        clear z2
        clear z3
        clear z4
        have K0 : Hid (W.has us 100 (j + 1) = p0) := (k0.trans (by simp) : W.has us 100 (j + 1) = p0)
        have K1 : Hid (W.has us 97 (j + 1) = p1) := (k1.trans (by simp) : W.has us 97 (j + 1) = p1)
        have K2 : Hid (W.has us 98 (j + 1) = p2) := (k2.trans (by simp) : W.has us 98 (j + 1) = p2)
        have K3 : Hid (W.has us 99 (j + 1) = p3) := (k3.trans (by simp) : W.has us 99 (j + 1) = p3)
        have K4 : Hid (W.has us 112 (j + 1) = true) := (k4.trans (by simp) : W.has us 112 (j + 1) = true)
        clear k0 k1 k2 k3 k4
        go_wp2
        go_roundw
        case rel => exact ⟨j + 1, by omega, by go_num, by rw [K0.out, K1.out, K2.out, K3.out, K4.out]⟩
        case measure => simp [intOf]; omega
      case false =>
        have K0 : Hid (W.has us 100 (j + 1) = p0) := (k0.trans (by rw [z0, Bool.or_false]) : W.has us 100 (j + 1) = p0)
        have K1 : Hid (W.has us 97 (j + 1) = p1) := (k1.trans (by rw [z1, Bool.or_false]) : W.has us 97 (j + 1) = p1)
        have K2 : Hid (W.has us 98 (j + 1) = p2) := (k2.trans (by rw [z2, Bool.or_false]) : W.has us 98 (j + 1) = p2)
        have K3 : Hid (W.has us 99 (j + 1) = p3) := (k3.trans (by rw [z3, Bool.or_false]) : W.has us 99 (j + 1) = p3)
        have K4 : Hid (W.has us 112 (j + 1) = p4) := (k4.trans (by rw [z4, Bool.or_false]) : W.has us 112 (j + 1) = p4)
        clear k0 k1 k2 k3 k4
        go_wp2
        go_roundw
        case rel => exact ⟨j + 1, by omega, by go_num, by rw [K0.out, K1.out, K2.out, K3.out, K4.out]⟩
        case measure => simp [intOf]; omega
    · obtain rfl : j = us.size := by omega
      clear hlt hj
      go_wp2
      exact bodyPost_ret (v := .agg #[.int .i64 op, .string nm, .int .u32 (oc % 4294967296), .int .u32 0, .int .u32 0, .bool false, .bool false, .int .u8 fm, .bool (W.has us 100 us.size), .bool (W.has us 97 us.size), .bool (W.has us 98 us.size), .bool (W.has us 99 us.size), .int .u32 0, .bool (W.has us 112 us.size)]) (by simp [results, Try.results48, go_sem]) rfl ⟨rfl, (hb.out.alloc hb.out.size _).alloc (by simp) _⟩

end Go.Proofs.Ytopehmpjfndgjaa
