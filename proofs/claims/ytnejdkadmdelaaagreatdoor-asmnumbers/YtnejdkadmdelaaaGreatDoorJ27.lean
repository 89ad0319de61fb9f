/- Texts in one: AsmX, AsmH, AsmQ. -/
import Derived.LoopN
import Derived.Laws.IdiomStrings
import Derived.Test.YtnejdkadmdelaaaGreatDoorJ17
import Derived.Test.YtnejdkadmdelaaaGreatDoorJ26
/- Hexadecimal digits. -/
namespace Go.Proofs.YtnejdkadmdelaaaGreatDoor
open Go.ChangeShapes Go.WideShapes Go.ChangeAt Go.RowKit
set_option linter.unusedVariables false
set_option linter.unusedSimpArgs false

theorem pow2_16 (w : World) : Calls Tryz.prog 138 #[.int .i64 16] w fun e w' => e = .returned (.bool true) ∧ w = w' := by
  go_enter Tryz.func138, Tryz.ntmps138
  go_wp2
  go_ret
  exact ⟨rfl, rfl⟩

set_option maxRecDepth 100000 in
theorem tz64_16 (w : World) (hc : w.cell? ⟨16, 15, none⟩ = some (.int .u8 4)) : Calls Tryz.prog 148 #[.int .u64 16] w fun e w' => e = .returned (.int .i64 4) ∧ w = w' := by
  have r1 : IntKind.u64.wrap (-16) = 18446744073709551600 := by decide
  have r2 : bits .and .u64 16 18446744073709551600 = 16 := by decide +kernel
  have r3 : IntKind.u64.wrap 4573923408821661840 = 4573923408821661840 := by decide
  go_enter Tryz.func148, Tryz.ntmps148
  go_wp2
  go_ret
  exact ⟨rfl, rfl⟩

theorem tz_16 (w : World) (hc : w.cell? ⟨16, 15, none⟩ = some (.int .u8 4)) : Calls Tryz.prog 139 #[.int .u64 16] w fun e w' => e = .returned (.int .i64 4) ∧ w = w' := by
  have HC : Hid (w.cell? ⟨16, 15, none⟩ = some (.int .u8 4)) := hc
  clear hc
  go_enter Tryz.func139, Tryz.ntmps139
  go_wp2_with (go_at_call 148; refine (tz64_16 _ HC.out).mono ?_; rintro e w' ⟨rfl, rfl⟩)
  go_ret
  exact ⟨rfl, rfl⟩

/-- The digits. -/
abbrev digB : ByteArray := ⟨#[48, 49, 50, 51, 52, 53, 54, 55, 56, 57, 97, 98, 99, 100, 101, 102, 103, 104, 105, 106, 107, 108, 109, 110, 111, 112, 113, 114, 115, 116, 117, 118, 119, 120, 121, 122]⟩
theorem zc_size : Tryz.zeroCells175.size = 65 := by kernel_rfl

theorem conv_back (w : World) (a : Addr) (cap n : Nat) (l : List UInt8) (hn : l.length = n) (hc : ∀ j (hj : j < l.length), w.cell? (a.add j) = some (.int .u8 (l[j].toNat : Int))) : (convert 54 9 (.slice (some a) n cap)).run Tryz.prog w = .ok (.string ⟨l.toArray⟩) w := by
  subst hn
  exact run_convert_bytes_back w 54 9 5 a cap l Tryz.underlying54 Tryz.underlying5 Tryz.underlying9 hc

set_option maxRecDepth 1000000 in
set_option maxHeartbeats 3200000 in
theorem fbits_3 (U u1 u2 : Int) (d0 d1 d2 : Nat) (h1 : U / 16 = u1) (h2 : u1 / 16 = u2) (h3 : u2 / 16 = 1) (g0 : 16 ≤ U) (g1 : 16 ≤ u1) (g2 : 16 ≤ u2) (k0 : bits .and .u64 U 15 = (d0 : Int)) (k1 : bits .and .u64 u1 15 = (d1 : Int)) (k2 : bits .and .u64 u2 15 = (d2 : Int)) (j0 : d0 < 36) (j1 : d1 < 36) (j2 : d2 < 36) (w : World) (hc : w.cell? ⟨16, 15, none⟩ = some (.int .u8 4)) :
    Calls Tryz.prog 119 #[.slice none 0 0, .int .u64 U, .int .i64 16, .bool false, .bool false] w fun e w' => e = .returned (.tuple #[.slice none 0 0, .string ⟨([49, digB[d2]'j2, digB[d1]'j1, digB[d0]'j0] : List UInt8).toArray⟩]) ∧ Below w.heap.size w w' := by
  have HC : Hid (w.cell? ⟨16, 15, none⟩ = some (.int .u8 4)) := hc
  clear hc
  have n0 : (0 : Int) ≤ (d0 : Int) := Int.natCast_nonneg _
  have m0 : (d0 : Int) < 36 := by omega
  have n1 : (0 : Int) ≤ (d1 : Int) := Int.natCast_nonneg _
  have m1 : (d1 : Int) < 36 := by omega
  have n2 : (0 : Int) ≤ (d2 : Int) := Int.natCast_nonneg _
  have m2 : (d2 : Int) < 36 := by omega
  go_enter Tryz.func119, Tryz.ntmps119
  go_wp2_with (first
    | (go_at_call 138; refine (pow2_16 _).mono ?_; rintro e w' ⟨rfl, rfl⟩)
    | (go_at_call 139; refine (tz_16 _ ?_).mono ?_; exact (((Below.refl w.heap.size w).alloc (Nat.le_refl _) _).cell (World.block_lt_of_cell? _ _ HC.out)).trans HC.out; rintro e w' ⟨rfl, rfl⟩))
  refine wp_loop_rounds 4 ?_
  rw [rounds_succ]
  go_wp2
  rw [rounds_succ]
  go_wp2
  rw [rounds_succ]
  go_wp2
  rw [rounds_succ]
  go_wp2
  rw [conv_back _ ⟨w.heap.size, 61, none⟩ 4 4 [49, digB[d2]'j2, digB[d1]'j1, digB[d0]'j0] rfl ?hc]
  case hc =>
    intro j hj
    match j, hj with
    | 0, _ => simp [go_sem, Addr.add, Array.getElem?_setIfInBounds, zc_size]; rfl
    | 1, _ => simp [go_sem, Addr.add, Array.getElem?_setIfInBounds, zc_size]
    | 2, _ => simp [go_sem, Addr.add, Array.getElem?_setIfInBounds, zc_size]
    | 3, _ => simp [go_sem, Addr.add, Array.getElem?_setIfInBounds, zc_size]
  simp only [Result.andThen]
  rw [Oper.upon_value]
  go_wp2
  exact bodyPost_ret (v := .tuple #[.slice none 0 0, .string ⟨([49, digB[d2]'j2, digB[d1]'j1, digB[d0]'j0] : List UInt8).toArray⟩]) (by simp [results, Tryz.results119, go_sem]) rfl ⟨rfl, (Below.refl _ _).alloc (Nat.le_refl _) _⟩

set_option maxRecDepth 1000000 in
set_option maxHeartbeats 3200000 in
theorem fbits_8 (U u1 u2 u3 u4 u5 u6 u7 : Int) (d0 d1 d2 d3 d4 d5 d6 d7 : Nat) (h1 : U / 16 = u1) (h2 : u1 / 16 = u2) (h3 : u2 / 16 = u3) (h4 : u3 / 16 = u4) (h5 : u4 / 16 = u5) (h6 : u5 / 16 = u6) (h7 : u6 / 16 = u7) (h8 : u7 / 16 = 1) (g0 : 16 ≤ U) (g1 : 16 ≤ u1) (g2 : 16 ≤ u2) (g3 : 16 ≤ u3) (g4 : 16 ≤ u4) (g5 : 16 ≤ u5) (g6 : 16 ≤ u6) (g7 : 16 ≤ u7) (k0 : bits .and .u64 U 15 = (d0 : Int)) (k1 : bits .and .u64 u1 15 = (d1 : Int)) (k2 : bits .and .u64 u2 15 = (d2 : Int)) (k3 : bits .and .u64 u3 15 = (d3 : Int)) (k4 : bits .and .u64 u4 15 = (d4 : Int)) (k5 : bits .and .u64 u5 15 = (d5 : Int)) (k6 : bits .and .u64 u6 15 = (d6 : Int)) (k7 : bits .and .u64 u7 15 = (d7 : Int)) (j0 : d0 < 36) (j1 : d1 < 36) (j2 : d2 < 36) (j3 : d3 < 36) (j4 : d4 < 36) (j5 : d5 < 36) (j6 : d6 < 36) (j7 : d7 < 36) (w : World) (hc : w.cell? ⟨16, 15, none⟩ = some (.int .u8 4)) :
    Calls Tryz.prog 119 #[.slice none 0 0, .int .u64 U, .int .i64 16, .bool false, .bool false] w fun e w' => e = .returned (.tuple #[.slice none 0 0, .string ⟨([49, digB[d7]'j7, digB[d6]'j6, digB[d5]'j5, digB[d4]'j4, digB[d3]'j3, digB[d2]'j2, digB[d1]'j1, digB[d0]'j0] : List UInt8).toArray⟩]) ∧ Below w.heap.size w w' := by
  have HC : Hid (w.cell? ⟨16, 15, none⟩ = some (.int .u8 4)) := hc
  clear hc
  have n0 : (0 : Int) ≤ (d0 : Int) := Int.natCast_nonneg _
  have m0 : (d0 : Int) < 36 := by omega
  have n1 : (0 : Int) ≤ (d1 : Int) := Int.natCast_nonneg _
  have m1 : (d1 : Int) < 36 := by omega
  have n2 : (0 : Int) ≤ (d2 : Int) := Int.natCast_nonneg _
  have m2 : (d2 : Int) < 36 := by omega
  have n3 : (0 : Int) ≤ (d3 : Int) := Int.natCast_nonneg _
  have m3 : (d3 : Int) < 36 := by omega
  have n4 : (0 : Int) ≤ (d4 : Int) := Int.natCast_nonneg _
  have m4 : (d4 : Int) < 36 := by omega
  have n5 : (0 : Int) ≤ (d5 : Int) := Int.natCast_nonneg _
  have m5 : (d5 : Int) < 36 := by omega
  have n6 : (0 : Int) ≤ (d6 : Int) := Int.natCast_nonneg _
  have m6 : (d6 : Int) < 36 := by omega
  have n7 : (0 : Int) ≤ (d7 : Int) := Int.natCast_nonneg _
  have m7 : (d7 : Int) < 36 := by omega
  go_enter Tryz.func119, Tryz.ntmps119
  go_wp2_with (first
    | (go_at_call 138; refine (pow2_16 _).mono ?_; rintro e w' ⟨rfl, rfl⟩)
    | (go_at_call 139; refine (tz_16 _ ?_).mono ?_; exact (((Below.refl w.heap.size w).alloc (Nat.le_refl _) _).cell (World.block_lt_of_cell? _ _ HC.out)).trans HC.out; rintro e w' ⟨rfl, rfl⟩))
  refine wp_loop_rounds 9 ?_
  rw [rounds_succ]
  go_wp2
  rw [rounds_succ]
  go_wp2
  rw [rounds_succ]
  go_wp2
  rw [rounds_succ]
  go_wp2
  rw [rounds_succ]
  go_wp2
  rw [rounds_succ]
  go_wp2
  rw [rounds_succ]
  go_wp2
  rw [rounds_succ]
  go_wp2
  rw [rounds_succ]
  go_wp2
  rw [conv_back _ ⟨w.heap.size, 56, none⟩ 9 9 [49, digB[d7]'j7, digB[d6]'j6, digB[d5]'j5, digB[d4]'j4, digB[d3]'j3, digB[d2]'j2, digB[d1]'j1, digB[d0]'j0] rfl ?hc]
  case hc =>
    intro j hj
    match j, hj with
    | 0, _ => simp [go_sem, Addr.add, Array.getElem?_setIfInBounds, zc_size]; rfl
    | 1, _ => simp [go_sem, Addr.add, Array.getElem?_setIfInBounds, zc_size]
    | 2, _ => simp [go_sem, Addr.add, Array.getElem?_setIfInBounds, zc_size]
    | 3, _ => simp [go_sem, Addr.add, Array.getElem?_setIfInBounds, zc_size]
    | 4, _ => simp [go_sem, Addr.add, Array.getElem?_setIfInBounds, zc_size]
    | 5, _ => simp [go_sem, Addr.add, Array.getElem?_setIfInBounds, zc_size]
    | 6, _ => simp [go_sem, Addr.add, Array.getElem?_setIfInBounds, zc_size]
    | 7, _ => simp [go_sem, Addr.add, Array.getElem?_setIfInBounds, zc_size]
    | 8, _ => simp [go_sem, Addr.add, Array.getElem?_setIfInBounds, zc_size]
  simp only [Result.andThen]
  rw [Oper.upon_value]
  go_wp2
  exact bodyPost_ret (v := .tuple #[.slice none 0 0, .string ⟨([49, digB[d7]'j7, digB[d6]'j6, digB[d5]'j5, digB[d4]'j4, digB[d3]'j3, digB[d2]'j2, digB[d1]'j1, digB[d0]'j0] : List UInt8).toArray⟩]) (by simp [results, Tryz.results119, go_sem]) rfl ⟨rfl, (Below.refl _ _).alloc (Nat.le_refl _) _⟩

end Go.Proofs.YtnejdkadmdelaaaGreatDoor

/- A word's hexadecimal digits, so many. -/
namespace Go.Proofs.YtnejdkadmdelaaaGreatDoor
open Go.ChangeShapes Go.WideShapes Go.ChangeAt Go.RowKit
set_option linter.unusedVariables false
set_option linter.unusedSimpArgs false

namespace W
/-- A hexadecimal small digit. -/
def hd (d : Nat) : UInt8 := if d < 10 then UInt8.ofNat (48 + d) else UInt8.ofNat (87 + d)
/-- The last n hexadecimal digits of x. -/
def hexL (x : Nat) : Nat → List UInt8
  | 0 => []
  | n + 1 => hexL (x / 16) n ++ [hd (x % 16)]
end W
theorem ba_extract (L : List UInt8) (i j : Nat) : (⟨L.toArray⟩ : ByteArray).extract i j = ⟨((L.drop i).take (j - i)).toArray⟩ := by
  apply ByteArray.ext
  rw [ByteArray.data_extract]
  simp [List.extract_eq_take_drop]
theorem digB_at (d : Nat) (h : d < 36) (h' : d < 16) : digB[d]'h = W.hd d := by
  have : ∀ d : Fin 16, digB.data[d.val]! = W.hd d.val := by decide
  have e := this ⟨d, h'⟩
  rw [← e]
  show digB.data[d] = _
  rw [getElem!_pos]
theorem and15 (a : Nat) (h : a < 18446744073709551616) : bits .and .u64 (a : Int) 15 = ((a % 16 : Nat) : Int) := by
  rw [show (15 : Int) = ((15 : Nat) : Int) from rfl, u64_and_nat a 15 h (by decide), show (15 : Nat) = 2 ^ 4 - 1 from rfl, Nat.and_two_pow_sub_one_eq_mod]
theorem or_top (k x : Nat) (hx : x < 2 ^ k) (hk : k ≤ 60) : bits .or .u64 ((2 ^ k : Nat) : Int) (x : Int) = ((2 ^ k + x : Nat) : Int) := by
  have hp : 2 ^ k ≤ 2 ^ 60 := Nat.pow_le_pow_right (by decide) hk
  have e60 : (2 : Nat) ^ 60 = 1152921504606846976 := by decide
  rw [u64_or_nat _ _ (by omega) (by omega)]
  have := Nat.two_pow_add_eq_or_of_lt hx 1
  rw [Nat.mul_one] at this
  rw [this]

theorem fb3 (x : Nat) (hx : x < 4096) (w : World) (hc : w.cell? ⟨16, 15, none⟩ = some (.int .u8 4)) :
    Calls Tryz.prog 119 #[.slice none 0 0, .int .u64 ((4096 + x : Nat) : Int), .int .i64 16, .bool false, .bool false] w fun e w' => e = .returned (.tuple #[.slice none 0 0, .string ⟨(49 :: W.hexL x 3).toArray⟩]) ∧ Below w.heap.size w w' := by
  have h := fbits_3 ((4096 + x : Nat) : Int) ((256 + x / 16 : Nat) : Int) ((16 + x / 256 : Nat) : Int) (x % 16) (x / 16 % 16) (x / 256 % 16) (by omega) (by omega) (by omega) (by omega) (by omega) (by omega) (by rw [and15 _ (by omega)]; congr 1; omega) (by rw [and15 _ (by omega)]; congr 1; omega) (by rw [and15 _ (by omega)]; congr 1; omega) (by omega) (by omega) (by omega) w hc
  have e : ([49, W.hd (x / 256 % 16), W.hd (x / 16 % 16), W.hd (x % 16)] : List UInt8) = 49 :: W.hexL x 3 := by
    simp only [W.hexL, List.nil_append, List.cons_append, List.append_assoc, Nat.div_div_eq_div_mul]
  rw [← e]
  rw [digB_at (x % 16) (by omega) (by omega)] at h
  rw [digB_at (x / 16 % 16) (by omega) (by omega)] at h
  rw [digB_at (x / 256 % 16) (by omega) (by omega)] at h
  exact h

theorem fui3 (x : Nat) (hx : x < 4096) (w : World) (hc : w.cell? ⟨16, 15, none⟩ = some (.int .u8 4)) :
    Calls Tryz.prog 127 #[.int .u64 ((4096 + x : Nat) : Int), .int .i64 16] w fun e w' => e = .returned (.string ⟨(49 :: W.hexL x 3).toArray⟩) ∧ Below w.heap.size w w' := by
  have HC : Hid (w.cell? ⟨16, 15, none⟩ = some (.int .u8 4)) := hc
  clear hc
  generalize hU : ((4096 + x : Nat) : Int) = U
  have HU : Hid (((4096 + x : Nat) : Int) = U) := hU
  clear hU
  go_enter Tryz.func127, Tryz.ntmps127
  go_wp2_with (go_at_call 119; rw [← HU.out]; refine (fb3 x hx _ HC.out).mono ?_; rintro e w1 ⟨rfl, hm⟩)
  go_ret
  exact ⟨rfl, hm⟩

theorem fu3 (x : Nat) (hx : x < 4096) (w : World) (hc : w.cell? ⟨16, 15, none⟩ = some (.int .u8 4)) :
    Calls Tryz.prog 103 #[.int .u64 ((4096 + x : Nat) : Int), .int .i64 16] w fun e w' => e = .returned (.string ⟨(49 :: W.hexL x 3).toArray⟩) ∧ Below w.heap.size w w' := by
  have HC : Hid (w.cell? ⟨16, 15, none⟩ = some (.int .u8 4)) := hc
  clear hc
  generalize hU : ((4096 + x : Nat) : Int) = U
  have HU : Hid (((4096 + x : Nat) : Int) = U) := hU
  clear hU
  go_enter Tryz.func103, Tryz.ntmps103
  go_wp2_with (go_at_call 127; rw [← HU.out]; refine (fui3 x hx _ HC.out).mono ?_; rintro e w1 ⟨rfl, hm⟩)
  go_ret
  exact ⟨rfl, hm⟩

set_option maxRecDepth 100000 in
theorem hex3 (A : Nat → Addr) (x : Nat) (hx : x < 4096) (w : World) (hS : Sg A w) :
    Calls Tryz.prog 74 #[.int .u32 x, .int .i64 3] w fun e w' => e = .returned (.string ⟨(48 :: 120 :: W.hexL x 3).toArray⟩) ∧ Below w.heap.size w w' := by
  have HS : Hid (Sg A w) := hS
  have hor : bits .or .u64 4096 (x : Int) = ((4096 + x : Nat) : Int) := or_top 12 x hx (by decide)
  generalize hU : ((4096 + x : Nat) : Int) = U at hor
  have HU : Hid (((4096 + x : Nat) : Int) = U) := hU
  have hl : (W.hexL x 3).length = 3 := by simp [W.hexL]
  generalize hL : W.hexL x 3 = L at hl
  have HL : Hid (W.hexL x 3 = L) := hL
  clear hU hS hL
  go_enter Tryz.func74, Tryz.ntmps74
  go_wp2_with (go_at_call 103; rw [← HU.out]; refine (fu3 x hx _ HS.out.tz).mono ?_; rintro e w1 ⟨rfl, hm⟩; have HM : Hid (Below w.heap.size w w1) := hm; clear hm; rw [HL.out])
  go_ret
  refine ⟨?_, HM.out⟩
  have e1 : (⟨(49 :: L).toArray⟩ : ByteArray).extract 1 4 = ⟨L.toArray⟩ := by
    rw [ba_extract]
    simp [List.take_of_length_le, hl]
  have e2 : ((⟨#[48, 120]⟩ : ByteArray) ++ (⟨(49 :: L).toArray⟩ : ByteArray).extract 1 4) = ⟨(48 :: 120 :: L).toArray⟩ := by
    rw [e1]
    exact ba_append [48, 120] L
  exact congrArg (fun s => Ending.returned (.string s)) e2

theorem fb8 (x : Nat) (hx : x < 4294967296) (w : World) (hc : w.cell? ⟨16, 15, none⟩ = some (.int .u8 4)) :
    Calls Tryz.prog 119 #[.slice none 0 0, .int .u64 ((4294967296 + x : Nat) : Int), .int .i64 16, .bool false, .bool false] w fun e w' => e = .returned (.tuple #[.slice none 0 0, .string ⟨(49 :: W.hexL x 8).toArray⟩]) ∧ Below w.heap.size w w' := by
  have h := fbits_8 ((4294967296 + x : Nat) : Int) ((268435456 + x / 16 : Nat) : Int) ((16777216 + x / 256 : Nat) : Int) ((1048576 + x / 4096 : Nat) : Int) ((65536 + x / 65536 : Nat) : Int) ((4096 + x / 1048576 : Nat) : Int) ((256 + x / 16777216 : Nat) : Int) ((16 + x / 268435456 : Nat) : Int) (x % 16) (x / 16 % 16) (x / 256 % 16) (x / 4096 % 16) (x / 65536 % 16) (x / 1048576 % 16) (x / 16777216 % 16) (x / 268435456 % 16) (by omega) (by omega) (by omega) (by omega) (by omega) (by omega) (by omega) (by omega) (by omega) (by omega) (by omega) (by omega) (by omega) (by omega) (by omega) (by omega) (by rw [and15 _ (by omega)]; congr 1; omega) (by rw [and15 _ (by omega)]; congr 1; omega) (by rw [and15 _ (by omega)]; congr 1; omega) (by rw [and15 _ (by omega)]; congr 1; omega) (by rw [and15 _ (by omega)]; congr 1; omega) (by rw [and15 _ (by omega)]; congr 1; omega) (by rw [and15 _ (by omega)]; congr 1; omega) (by rw [and15 _ (by omega)]; congr 1; omega) (by omega) (by omega) (by omega) (by omega) (by omega) (by omega) (by omega) (by omega) w hc
  have e : ([49, W.hd (x / 268435456 % 16), W.hd (x / 16777216 % 16), W.hd (x / 1048576 % 16), W.hd (x / 65536 % 16), W.hd (x / 4096 % 16), W.hd (x / 256 % 16), W.hd (x / 16 % 16), W.hd (x % 16)] : List UInt8) = 49 :: W.hexL x 8 := by
    simp only [W.hexL, List.nil_append, List.cons_append, List.append_assoc, Nat.div_div_eq_div_mul]
  rw [← e]
  rw [digB_at (x % 16) (by omega) (by omega)] at h
  rw [digB_at (x / 16 % 16) (by omega) (by omega)] at h
  rw [digB_at (x / 256 % 16) (by omega) (by omega)] at h
  rw [digB_at (x / 4096 % 16) (by omega) (by omega)] at h
  rw [digB_at (x / 65536 % 16) (by omega) (by omega)] at h
  rw [digB_at (x / 1048576 % 16) (by omega) (by omega)] at h
  rw [digB_at (x / 16777216 % 16) (by omega) (by omega)] at h
  rw [digB_at (x / 268435456 % 16) (by omega) (by omega)] at h
  exact h

theorem fui8 (x : Nat) (hx : x < 4294967296) (w : World) (hc : w.cell? ⟨16, 15, none⟩ = some (.int .u8 4)) :
    Calls Tryz.prog 127 #[.int .u64 ((4294967296 + x : Nat) : Int), .int .i64 16] w fun e w' => e = .returned (.string ⟨(49 :: W.hexL x 8).toArray⟩) ∧ Below w.heap.size w w' := by
  have HC : Hid (w.cell? ⟨16, 15, none⟩ = some (.int .u8 4)) := hc
  clear hc
  generalize hU : ((4294967296 + x : Nat) : Int) = U
  have HU : Hid (((4294967296 + x : Nat) : Int) = U) := hU
  clear hU
  go_enter Tryz.func127, Tryz.ntmps127
  go_wp2_with (go_at_call 119; rw [← HU.out]; refine (fb8 x hx _ HC.out).mono ?_; rintro e w1 ⟨rfl, hm⟩)
  go_ret
  exact ⟨rfl, hm⟩

theorem fu8 (x : Nat) (hx : x < 4294967296) (w : World) (hc : w.cell? ⟨16, 15, none⟩ = some (.int .u8 4)) :
    Calls Tryz.prog 103 #[.int .u64 ((4294967296 + x : Nat) : Int), .int .i64 16] w fun e w' => e = .returned (.string ⟨(49 :: W.hexL x 8).toArray⟩) ∧ Below w.heap.size w w' := by
  have HC : Hid (w.cell? ⟨16, 15, none⟩ = some (.int .u8 4)) := hc
  clear hc
  generalize hU : ((4294967296 + x : Nat) : Int) = U
  have HU : Hid (((4294967296 + x : Nat) : Int) = U) := hU
  clear hU
  go_enter Tryz.func103, Tryz.ntmps103
  go_wp2_with (go_at_call 127; rw [← HU.out]; refine (fui8 x hx _ HC.out).mono ?_; rintro e w1 ⟨rfl, hm⟩)
  go_ret
  exact ⟨rfl, hm⟩

set_option maxRecDepth 100000 in
theorem hex8 (A : Nat → Addr) (x : Nat) (hx : x < 4294967296) (w : World) (hS : Sg A w) :
    Calls Tryz.prog 74 #[.int .u32 x, .int .i64 8] w fun e w' => e = .returned (.string ⟨(48 :: 120 :: W.hexL x 8).toArray⟩) ∧ Below w.heap.size w w' := by
  have HS : Hid (Sg A w) := hS
  have hor : bits .or .u64 4294967296 (x : Int) = ((4294967296 + x : Nat) : Int) := or_top 32 x hx (by decide)
  generalize hU : ((4294967296 + x : Nat) : Int) = U at hor
  have HU : Hid (((4294967296 + x : Nat) : Int) = U) := hU
  have hl : (W.hexL x 8).length = 8 := by simp [W.hexL]
  generalize hL : W.hexL x 8 = L at hl
  have HL : Hid (W.hexL x 8 = L) := hL
  clear hU hS hL
  go_enter Tryz.func74, Tryz.ntmps74
  go_wp2_with (go_at_call 103; rw [← HU.out]; refine (fu8 x hx _ HS.out.tz).mono ?_; rintro e w1 ⟨rfl, hm⟩; have HM : Hid (Below w.heap.size w w1) := hm; clear hm; rw [HL.out])
  go_ret
  refine ⟨?_, HM.out⟩
  have e1 : (⟨(49 :: L).toArray⟩ : ByteArray).extract 1 9 = ⟨L.toArray⟩ := by
    rw [ba_extract]
    simp [List.take_of_length_le, hl]
  have e2 : ((⟨#[48, 120]⟩ : ByteArray) ++ (⟨(49 :: L).toArray⟩ : ByteArray).extract 1 9) = ⟨(48 :: 120 :: L).toArray⟩ := by
    rw [e1]
    exact ba_append [48, 120] L
  exact congrArg (fun s => Ending.returned (.string s)) e2

end Go.Proofs.YtnejdkadmdelaaaGreatDoor

/- How a part of an instruction is written. -/
namespace Go.Proofs.YtnejdkadmdelaaaGreatDoor
open Go.ChangeShapes Go.WideShapes Go.ChangeAt Go.RowKit
set_option linter.unusedVariables false
set_option linter.unusedSimpArgs false

namespace W
def pU (i : I) : List UInt8 := Lib.itoa (wrap32 (bitsOf i.imm 12 20))
def pP (i : I) : List UInt8 := Lib.itoa (wrap32 (bitsOf i.imm 4 4))
def pS (i : I) : List UInt8 := Lib.itoa (wrap32 (bitsOf i.imm 0 4))
def pick8 (k : Nat) (a b c d e f g h : List UInt8) : List UInt8 := bif k == 100 then a else bif k == 49 then b else bif k == 50 then c else bif k == 99 then d else bif k == 105 then e else bif k == 117 then f else bif k == 112 then g else bif k == 115 then h else []
theorem pick8_100 (a b c d e f g h : List UInt8) : pick8 100 a b c d e f g h = a := rfl
theorem pick8_49 (a b c d e f g h : List UInt8) : pick8 49 a b c d e f g h = b := rfl
theorem pick8_50 (a b c d e f g h : List UInt8) : pick8 50 a b c d e f g h = c := rfl
theorem pick8_99 (a b c d e f g h : List UInt8) : pick8 99 a b c d e f g h = d := rfl
theorem pick8_105 (a b c d e f g h : List UInt8) : pick8 105 a b c d e f g h = e := rfl
theorem pick8_117 (a b c d e f g h : List UInt8) : pick8 117 a b c d e f g h = f := rfl
theorem pick8_112 (a b c d e f g h : List UInt8) : pick8 112 a b c d e f g h = g := rfl
theorem pick8_115 (a b c d e f g h : List UInt8) : pick8 115 a b c d e f g h = h := rfl
/-- A part, by its letter. -/
def partL (i : I) (c : Nat) : List UInt8 := pick8 c (regL i.rd.toNat) (regL i.rs1.toNat) (regL i.rs2.toNat) (48 :: 120 :: hexL i.csr.toNat 3) (Lib.itoa (wrap32 i.imm)) (pU i) (pP i) (pS i)
theorem partL_100 (i : I) : partL i 100 = regL i.rd.toNat := pick8_100 _ _ _ _ _ _ _ _
theorem partL_49 (i : I) : partL i 49 = regL i.rs1.toNat := pick8_49 _ _ _ _ _ _ _ _
theorem partL_50 (i : I) : partL i 50 = regL i.rs2.toNat := pick8_50 _ _ _ _ _ _ _ _
theorem partL_99 (i : I) : partL i 99 = 48 :: 120 :: hexL i.csr.toNat 3 := pick8_99 _ _ _ _ _ _ _ _
theorem partL_105 (i : I) : partL i 105 = Lib.itoa (wrap32 i.imm) := pick8_105 _ _ _ _ _ _ _ _
theorem partL_117 (i : I) : partL i 117 = pU i := pick8_117 _ _ _ _ _ _ _ _
theorem partL_112 (i : I) : partL i 112 = pP i := pick8_112 _ _ _ _ _ _ _ _
theorem partL_115 (i : I) : partL i 115 = pS i := pick8_115 _ _ _ _ _ _ _ _
end W

theorem part_100 (A : Nat → Addr) (i : W.I) (hr : W.InR i) (w : World) (hS : Sg A w) : Calls Tryz.prog 59 #[inV i, .int .i32 100] w fun e w' => e = .returned (.string ⟨(W.partL i 100).toArray⟩) ∧ Below w.heap.size w w' := by
  obtain ⟨n, hn⟩ := Int.eq_ofNat_of_zero_le hr.rd0
  have hn' : n < 100 := by have := hr.rd1; omega
  have hv : Hid (W.partL i 100 = W.regL n) := (by rw [W.partL_100, hn, Int.toNat_natCast] : W.partL i 100 = W.regL n)
  clear hr hS
  unfold inV
  rw [hn]
  go_enter Tryz.func59, Tryz.ntmps59
  go_wp2_with (go_at_call 90; refine (register_any n hn' _).mono ?_; rintro e w1 ⟨rfl, rfl⟩)
  go_ret
  exact ⟨by rw [hv.out]; rfl, (Below.refl _ _).alloc (Nat.le_refl _) _⟩

theorem part_49 (A : Nat → Addr) (i : W.I) (hr : W.InR i) (w : World) (hS : Sg A w) : Calls Tryz.prog 59 #[inV i, .int .i32 49] w fun e w' => e = .returned (.string ⟨(W.partL i 49).toArray⟩) ∧ Below w.heap.size w w' := by
  obtain ⟨n, hn⟩ := Int.eq_ofNat_of_zero_le hr.rs10
  have hn' : n < 100 := by have := hr.rs11; omega
  have hv : Hid (W.partL i 49 = W.regL n) := (by rw [W.partL_49, hn, Int.toNat_natCast] : W.partL i 49 = W.regL n)
  clear hr hS
  unfold inV
  rw [hn]
  go_enter Tryz.func59, Tryz.ntmps59
  go_wp2_with (go_at_call 90; refine (register_any n hn' _).mono ?_; rintro e w1 ⟨rfl, rfl⟩)
  go_ret
  exact ⟨by rw [hv.out]; rfl, (Below.refl _ _).alloc (Nat.le_refl _) _⟩

theorem part_50 (A : Nat → Addr) (i : W.I) (hr : W.InR i) (w : World) (hS : Sg A w) : Calls Tryz.prog 59 #[inV i, .int .i32 50] w fun e w' => e = .returned (.string ⟨(W.partL i 50).toArray⟩) ∧ Below w.heap.size w w' := by
  obtain ⟨n, hn⟩ := Int.eq_ofNat_of_zero_le hr.rs20
  have hn' : n < 100 := by have := hr.rs21; omega
  have hv : Hid (W.partL i 50 = W.regL n) := (by rw [W.partL_50, hn, Int.toNat_natCast] : W.partL i 50 = W.regL n)
  clear hr hS
  unfold inV
  rw [hn]
  go_enter Tryz.func59, Tryz.ntmps59
  go_wp2_with (go_at_call 90; refine (register_any n hn' _).mono ?_; rintro e w1 ⟨rfl, rfl⟩)
  go_ret
  exact ⟨by rw [hv.out]; rfl, (Below.refl _ _).alloc (Nat.le_refl _) _⟩

theorem part_99 (A : Nat → Addr) (i : W.I) (hr : W.InR i) (w : World) (hS : Sg A w) : Calls Tryz.prog 59 #[inV i, .int .i32 99] w fun e w' => e = .returned (.string ⟨(W.partL i 99).toArray⟩) ∧ Below w.heap.size w w' := by
  obtain ⟨n, hn⟩ := Int.eq_ofNat_of_zero_le hr.csr0
  have hn' : n < 4096 := by have := hr.csr1; omega
  have hv : Hid (W.partL i 99 = 48 :: 120 :: W.hexL n 3) := (by rw [W.partL_99, hn, Int.toNat_natCast] : W.partL i 99 = 48 :: 120 :: W.hexL n 3)
  have HS : Hid (∀ o, Sg A (w.alloc o)) := (fun o => hS.below ((Below.refl _ _).alloc (Nat.le_refl _) _) : ∀ o, Sg A (w.alloc o))
  have hm32 : (n : Int) % 4294967296 = n := by omega
  clear hr hS
  unfold inV
  rw [hn]
  go_enter Tryz.func59, Tryz.ntmps59
  go_wp2_with (go_at_call 74; refine (hex3 A n hn' _ (HS.out _)).mono ?_; rintro e w1 ⟨rfl, hm⟩; have HM : Hid (Below w.heap.size w w1) := ((Below.refl _ _).alloc (Nat.le_refl _) _).trans (hm.mono (by simp)); clear hm)
  go_ret
  exact ⟨by rw [hv.out]; rfl, HM.out⟩

theorem part_105 (A : Nat → Addr) (i : W.I) (w : World) (hS : Sg A w) : Calls Tryz.prog 59 #[inV i, .int .i32 105] w fun e w' => e = .returned (.string ⟨(W.partL i 105).toArray⟩) ∧ Below w.heap.size w w' := by
  have HS : Hid (∀ o, Sg A (w.alloc o)) := (fun o => hS.below ((Below.refl _ _).alloc (Nat.le_refl _) _) : ∀ o, Sg A (w.alloc o))
  clear hS
  rw [W.partL_105]
  generalize hz : Lib.itoa _ = L
  have HZ : Hid (Lib.itoa _ = L) := hz
  clear hz
  unfold inV
  go_enter Tryz.func59, Tryz.ntmps59
  go_wp2_with (go_at_call 91; refine (decimal_any A _ _ (HS.out _)).mono ?_; rintro e w1 ⟨rfl, hm⟩; rw [HZ.out]; have HM : Hid (Below w.heap.size w w1) := ((Below.refl _ _).alloc (Nat.le_refl _) _).trans (hm.mono (by simp)); clear hm)
  go_ret
  exact ⟨rfl, HM.out⟩

theorem part_117 (A : Nat → Addr) (i : W.I) (w : World) (hS : Sg A w) : Calls Tryz.prog 59 #[inV i, .int .i32 117] w fun e w' => e = .returned (.string ⟨(W.partL i 117).toArray⟩) ∧ Below w.heap.size w w' := by
  have HS : Hid (∀ o w', Below (w.alloc o).heap.size (w.alloc o) w' → Sg A w') := (fun o w' hb => (hS.below ((Below.refl _ _).alloc (Nat.le_refl _) _)).below hb : ∀ o w', Below (w.alloc o).heap.size (w.alloc o) w' → Sg A w')
  clear hS
  rw [W.partL_117, W.pU]
  generalize hz : Lib.itoa _ = L
  have HZ : Hid (Lib.itoa _ = L) := hz
  clear hz
  unfold inV
  go_enter Tryz.func59, Tryz.ntmps59
  go_wp2_with (first
    | (go_at_call 92; refine (bits_bel _ _ _ _).mono ?_; rintro e w1 ⟨rfl, hm⟩; have HG : Hid (Sg A w1) := HS.out _ _ hm; have HB : Hid (Below w.heap.size w w1) := ((Below.refl _ _).alloc (Nat.le_refl _) _).trans (hm.mono (by simp)); clear hm)
    | (go_at_call 91; refine (decimal_any A _ _ HG.out).mono ?_; rintro e w2 ⟨rfl, hm⟩; rw [HZ.out]; have HM : Hid (Below w.heap.size w w2) := HB.out.trans (hm.mono HB.out.size); clear hm))
  go_ret
  exact ⟨rfl, HM.out⟩

theorem part_112 (A : Nat → Addr) (i : W.I) (w : World) (hS : Sg A w) : Calls Tryz.prog 59 #[inV i, .int .i32 112] w fun e w' => e = .returned (.string ⟨(W.partL i 112).toArray⟩) ∧ Below w.heap.size w w' := by
  have HS : Hid (∀ o w', Below (w.alloc o).heap.size (w.alloc o) w' → Sg A w') := (fun o w' hb => (hS.below ((Below.refl _ _).alloc (Nat.le_refl _) _)).below hb : ∀ o w', Below (w.alloc o).heap.size (w.alloc o) w' → Sg A w')
  clear hS
  rw [W.partL_112, W.pP]
  generalize hz : Lib.itoa _ = L
  have HZ : Hid (Lib.itoa _ = L) := hz
  clear hz
  unfold inV
  go_enter Tryz.func59, Tryz.ntmps59
  go_wp2_with (first
    | (go_at_call 92; refine (bits_bel _ _ _ _).mono ?_; rintro e w1 ⟨rfl, hm⟩; have HG : Hid (Sg A w1) := HS.out _ _ hm; have HB : Hid (Below w.heap.size w w1) := ((Below.refl _ _).alloc (Nat.le_refl _) _).trans (hm.mono (by simp)); clear hm)
    | (go_at_call 91; refine (decimal_any A _ _ HG.out).mono ?_; rintro e w2 ⟨rfl, hm⟩; rw [HZ.out]; have HM : Hid (Below w.heap.size w w2) := HB.out.trans (hm.mono HB.out.size); clear hm))
  go_ret
  exact ⟨rfl, HM.out⟩

theorem part_115 (A : Nat → Addr) (i : W.I) (w : World) (hS : Sg A w) : Calls Tryz.prog 59 #[inV i, .int .i32 115] w fun e w' => e = .returned (.string ⟨(W.partL i 115).toArray⟩) ∧ Below w.heap.size w w' := by
  have HS : Hid (∀ o w', Below (w.alloc o).heap.size (w.alloc o) w' → Sg A w') := (fun o w' hb => (hS.below ((Below.refl _ _).alloc (Nat.le_refl _) _)).below hb : ∀ o w', Below (w.alloc o).heap.size (w.alloc o) w' → Sg A w')
  clear hS
  rw [W.partL_115, W.pS]
  generalize hz : Lib.itoa _ = L
  have HZ : Hid (Lib.itoa _ = L) := hz
  clear hz
  unfold inV
  go_enter Tryz.func59, Tryz.ntmps59
  go_wp2_with (first
    | (go_at_call 92; refine (bits_bel _ _ _ _).mono ?_; rintro e w1 ⟨rfl, hm⟩; have HG : Hid (Sg A w1) := HS.out _ _ hm; have HB : Hid (Below w.heap.size w w1) := ((Below.refl _ _).alloc (Nat.le_refl _) _).trans (hm.mono (by simp)); clear hm)
    | (go_at_call 91; refine (decimal_any A _ _ HG.out).mono ?_; rintro e w2 ⟨rfl, hm⟩; rw [HZ.out]; have HM : Hid (Below w.heap.size w w2) := HB.out.trans (hm.mono HB.out.size); clear hm))
  go_ret
  exact ⟨rfl, HM.out⟩

theorem part_any (A : Nat → Addr) (i : W.I) (hr : W.InR i) (c : Nat) (hc : c = 100 ∨ c = 49 ∨ c = 50 ∨ c = 99 ∨ c = 105 ∨ c = 117 ∨ c = 112 ∨ c = 115) (w : World) (hS : Sg A w) : Calls Tryz.prog 59 #[inV i, .int .i32 c] w fun e w' => e = .returned (.string ⟨(W.partL i c).toArray⟩) ∧ Below w.heap.size w w' := by
  rcases hc with rfl | rfl | rfl | rfl | rfl | rfl | rfl | rfl
  · exact part_100 A i hr w hS
  · exact part_49 A i hr w hS
  · exact part_50 A i hr w hS
  · exact part_99 A i hr w hS
  · exact part_105 A i w hS
  · exact part_117 A i w hS
  · exact part_112 A i w hS
  · exact part_115 A i w hS
end Go.Proofs.YtnejdkadmdelaaaGreatDoor
