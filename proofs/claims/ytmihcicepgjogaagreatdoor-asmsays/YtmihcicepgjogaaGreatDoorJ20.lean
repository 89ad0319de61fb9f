/- Texts in one: PrA2, DgB, DgC. -/
import Derived.Deep.Cut
import Derived.Test.YtmihcicepgjogaaGreatDoorJ19
/- Itoa of a small number. -/
namespace Go.Proofs.YtmihcicepgjogaaGreatDoor
open Go.ChangeShapes Go.WideShapes Go.ChangeAt Go.RowKit
theorem ritoa_small (x : Int) (x0 : 0 ≤ x) (x1 : x < 100) (w : World) : Calls Tryz.prog 32 #[.int .i64 x] w fun e w' => e = .returned (.string ⟨(Lib.decDigits x.toNat).toArray⟩) ∧ w' = w := by
  obtain ⟨n, rfl⟩ := Int.eq_ofNat_of_zero_le x0
  rw [Int.toNat_natCast]
  exact Tryz.strconv_Itoa_small n (by omega) w
theorem rhex_g (x : Int) (x0 : 0 ≤ x) (x1 : x < 4096) (w : World) : Calls Tryz.prog 34 #[.int .u32 x, .int .i64 3] w fun e w' => e = .returned (.string ⟨(W.hexL x.toNat 3).toArray⟩) ∧ w = w' := by
  obtain ⟨n, rfl⟩ := Int.eq_ofNat_of_zero_le x0
  rw [Int.toNat_natCast]
  exact rhex_any n 3 (by omega) (by decide) w
end Go.Proofs.YtmihcicepgjogaaGreatDoor

/- The document's digits: a number out of its text. -/
namespace Go.Proofs.YtmihcicepgjogaaGreatDoor
open Go.ChangeShapes Go.WideShapes Go.ChangeAt Go.RowKit
set_option linter.unusedVariables false
set_option linter.unusedSimpArgs false

namespace W
def dgV (c : Nat) : Int := if 97 ≤ c then (c : Int) - 87 else ((c : Int) - 48) % 256
def dgs (base : Int) : Int → List UInt8 → Option Int
  | n, [] => some n
  | n, c :: r => if base ≤ dgV c.toNat ∨ n < (-9223372036854775808 + dgV c.toNat).tdiv base then none else dgs base (n * base - dgV c.toNat) r
def fin (neg : Bool) (L : List UInt8) : Option Int → Int × Bool
  | none => (0, false)
  | some n => if L = [] then (0, false) else if neg = true then (n, true) else if n = -9223372036854775808 then (0, false) else (-n, true)
def dgR (base : Int) (L : List UInt8) : Int × Bool := if L.head? = some 45 then fin true L.tail (dgs base 0 L.tail) else fin false L (dgs base 0 L)
theorem dgV_lt (c : Nat) (h : c < 256) : 0 ≤ dgV c ∧ dgV c < 256 := by unfold dgV; split <;> omega
theorem dgs_step (base n : Int) (c : UInt8) (r : List UInt8) : dgs base n (c :: r) = if base ≤ dgV c.toNat ∨ n < (-9223372036854775808 + dgV c.toNat).tdiv base then none else dgs base (n * base - dgV c.toNat) r := rfl
theorem tdiv_neg10 (x : Int) (h : x ≤ 0) : x ≤ x.tdiv 10 * 10 ∧ x.tdiv 10 ≤ 0 := by
  obtain ⟨y, rfl⟩ : ∃ y, x = -y := ⟨-x, by omega⟩
  rw [Int.neg_tdiv, Int.tdiv_eq_ediv_of_nonneg (by omega)]
  omega
theorem tdiv_neg16 (x : Int) (h : x ≤ 0) : x ≤ x.tdiv 16 * 16 ∧ x.tdiv 16 ≤ 0 := by
  obtain ⟨y, rfl⟩ : ∃ y, x = -y := ⟨-x, by omega⟩
  rw [Int.neg_tdiv, Int.tdiv_eq_ediv_of_nonneg (by omega)]
  omega
end W

theorem dg_drop (L : List UInt8) (k : Nat) (h : k < L.length) : L.drop k = (L[k]'h) :: L.drop (k + 1) := List.drop_eq_getElem_cons h
theorem ba_len (L : List UInt8) : (⟨L.toArray⟩ : ByteArray).size = L.length := by simp [ByteArray.size]
theorem ba_get (L : List UInt8) (k : Nat) (h : k < L.length) (h2 : k < (⟨L.toArray⟩ : ByteArray).size) : ((⟨L.toArray⟩ : ByteArray)[k]'h2) = L[k]'h := rfl

theorem ba_extract5 (L : List UInt8) (a b : Nat) : (⟨L.toArray⟩ : ByteArray).extract a b = ⟨((L.drop a).take (b - a)).toArray⟩ := by
  apply ByteArray.ext
  rw [ByteArray.data_extract]
  simp
theorem slice_tail (L : List UInt8) (w : World) : (Instr.slice 9 (.string ⟨(45 :: L).toArray⟩) (some (.int .i64 1)) none none).run Tryz.prog w = .ok (.string ⟨L.toArray⟩) w := by
  unfold Instr.slice
  simp [go_sem]
  rw [if_pos (by omega), ba_extract5]
  simp

set_option maxRecDepth 1000000 in
set_option maxHeartbeats 1600000 in
theorem digits_p10 (L : List UInt8) (hmax : L.length ≤ 1000) (c0 : UInt8) (r0 : List UInt8) (hL : Hid (L = c0 :: r0)) (h45 : ((c0.toNat : Int) == 45) = false) (w : World) : Calls Tryz.prog 72 #[.string ⟨L.toArray⟩, .int .i64 10] w fun e w' => e = .returned (.tuple #[.int .i64 (W.fin false L (W.dgs 10 0 L)).1, .bool (W.fin false L (W.dgs 10 0 L)).2]) ∧ w' = w := by
  have hne : 0 < L.length := by rw [hL.out]; simp
  have h1 : (0 : Int) < (L.length : Int) := by omega
  have hE : (L == []) = false := by rw [hL.out]; rfl
  have hE2 : ¬ L = [] := by rw [hL.out]; simp
  have hc0 : ((⟨L.toArray⟩ : ByteArray)[0]'(by rw [ba_len]; exact hne)) = c0 := by
    rw [ba_get L 0 hne]
    have := hL.out
    subst this
    rfl
  generalize hR : W.fin false L (W.dgs 10 0 L) = R
  have HR : Hid (W.fin false L (W.dgs 10 0 L) = R) := hR
  clear hR
  go_enter Tryz.func72, Tryz.ntmps72
  go_wp2
  go_loop [7, 8, 9] (fun vn vi vd => ∃ (k : Nat) (n : Int), k ≤ L.length ∧ vi = .int .i64 k ∧ vn = .int .i64 n ∧ n ≤ 0 ∧ -9223372036854775808 ≤ n ∧ Hid (W.dgs 10 0 L = W.dgs 10 n (L.drop k))) (fun _ vi _ => L.length - (intOf vi).toNat)
  case atStart => exact ⟨0, 0, by omega, rfl, rfl, by decide, by decide, rfl⟩
  case round =>
    obtain ⟨k, n, hk, rfl, rfl, hn0, hn1, hi⟩ := hrel
    by_cases hkn : k < L.length
    · have hki : (k : Int) < (L.length : Int) := by omega
      obtain ⟨c, hc⟩ : ∃ c, L[k]'hkn = c := ⟨_, rfl⟩
      have hck : ((⟨L.toArray⟩ : ByteArray)[k]'(by rw [ba_len]; exact hkn)) = c := hc
      have hst : W.dgs 10 n (L.drop k) = if 10 ≤ W.dgV c.toNat ∨ n < (-9223372036854775808 + W.dgV c.toNat).tdiv 10 then none else W.dgs 10 (n * 10 - W.dgV c.toNat) (L.drop (k + 1)) := by
        rw [dg_drop L k hkn, hc]; rfl
      have hi2 := hi.out.trans hst
      clear hi hst hc
      have c256 : c.toNat < 256 := c.toNat_lt
      by_cases t0 : c.toNat ≤ 47
      · have hd : W.dgV c.toNat = (c.toNat : Int) + 208 := by unfold W.dgV; split <;> omega
        rw [hd] at hi2
        rw [if_pos (Or.inl (by omega))] at hi2
        have Hi : Hid (_ = _) := hi2
        clear hi2 hd
        go_wp2
        exact bodyPost_ret (v := .tuple #[.int .i64 0, .bool false]) (by simp [results, Tryz.results72, go_sem]) rfl ⟨by rw [← HR.out, Hi.out]; rfl, rfl⟩
      · skip
        by_cases t1 : c.toNat ≤ 57
        · have hd : W.dgV c.toNat = (c.toNat : Int) - 48 := by unfold W.dgV; split <;> omega
          rw [hd] at hi2
          have hq := W.tdiv_neg10 (-9223372036854775808 + ((c.toNat : Int) - 48)) (by omega)
          obtain ⟨q, hQ⟩ : ∃ q, (-9223372036854775808 + ((c.toNat : Int) - 48)).tdiv 10 = q := ⟨_, rfl⟩
          rw [hQ] at hi2 hq
          by_cases hlt : n < q
          · rw [if_pos (Or.inr hlt)] at hi2
            have Hi : Hid (_ = _) := hi2
            clear hi2 hd
            go_wp2
            exact bodyPost_ret (v := .tuple #[.int .i64 0, .bool false]) (by simp [results, Tryz.results72, go_sem]) rfl ⟨by rw [← HR.out, Hi.out]; rfl, rfl⟩
          · rw [if_neg (by omega)] at hi2
            have Hi : Hid (_ = _) := hi2
            clear hi2 hd
            go_wp2
            go_round
            case rel => exact ⟨k + 1, _, by omega, by go_num, rfl, by omega, by omega, Hi.out⟩
            case measure => simp [intOf]; omega
        · skip
          by_cases t2 : c.toNat ≤ 96
          · have hd : W.dgV c.toNat = (c.toNat : Int) - 48 := by unfold W.dgV; split <;> omega
            rw [hd] at hi2
            rw [if_pos (Or.inl (by omega))] at hi2
            have Hi : Hid (_ = _) := hi2
            clear hi2 hd
            go_wp2
            exact bodyPost_ret (v := .tuple #[.int .i64 0, .bool false]) (by simp [results, Tryz.results72, go_sem]) rfl ⟨by rw [← HR.out, Hi.out]; rfl, rfl⟩
          · have hd : W.dgV c.toNat = (c.toNat : Int) - 97 + 10 := by unfold W.dgV; split <;> omega
            rw [hd] at hi2
            rw [if_pos (Or.inl (by omega))] at hi2
            have Hi : Hid (_ = _) := hi2
            clear hi2 hd
            go_wp2
            exact bodyPost_ret (v := .tuple #[.int .i64 0, .bool false]) (by simp [results, Tryz.results72, go_sem]) rfl ⟨by rw [← HR.out, Hi.out]; rfl, rfl⟩
    · obtain rfl : k = L.length := by omega
      have hi2 := hi.out
      rw [List.drop_length] at hi2
      have Hi : Hid (_ = _) := hi2
      clear hi hi2
      by_cases hz : n = -9223372036854775808
      · have hz1 : (n == -9223372036854775808) = true := by simpa using hz
        go_wp2
        exact bodyPost_ret (v := .tuple #[.int .i64 0, .bool false]) (by simp [results, Tryz.results72, go_sem]) rfl ⟨by rw [← HR.out, Hi.out]; simp [W.dgs, W.fin, hE2, hz], rfl⟩
      · have hz1 : (n == -9223372036854775808) = false := by simpa using hz
        have hz2 : wrap64 (-n) = -n := by unfold wrap64; omega
        go_wp2
        exact bodyPost_ret (v := .tuple #[.int .i64 (-n), .bool true]) (by simp [results, Tryz.results72, go_sem]) rfl ⟨by rw [← HR.out, Hi.out]; simp [W.dgs, W.fin, hE2, hz], rfl⟩
end Go.Proofs.YtmihcicepgjogaaGreatDoor

/- The document's digits, other cases. -/
namespace Go.Proofs.YtmihcicepgjogaaGreatDoor
open Go.ChangeShapes Go.WideShapes Go.ChangeAt Go.RowKit
set_option linter.unusedVariables false
set_option linter.unusedSimpArgs false

set_option maxRecDepth 1000000 in
set_option maxHeartbeats 1600000 in
theorem digits_p16 (L : List UInt8) (hmax : L.length ≤ 1000) (c0 : UInt8) (r0 : List UInt8) (hL : Hid (L = c0 :: r0)) (h45 : ((c0.toNat : Int) == 45) = false) (w : World) : Calls Tryz.prog 72 #[.string ⟨L.toArray⟩, .int .i64 16] w fun e w' => e = .returned (.tuple #[.int .i64 (W.fin false L (W.dgs 16 0 L)).1, .bool (W.fin false L (W.dgs 16 0 L)).2]) ∧ w' = w := by
  have hne : 0 < L.length := by rw [hL.out]; simp
  have h1 : (0 : Int) < (L.length : Int) := by omega
  have hE : (L == []) = false := by rw [hL.out]; rfl
  have hE2 : ¬ L = [] := by rw [hL.out]; simp
  have hc0 : ((⟨L.toArray⟩ : ByteArray)[0]'(by rw [ba_len]; exact hne)) = c0 := by
    rw [ba_get L 0 hne]
    have := hL.out
    subst this
    rfl
  generalize hR : W.fin false L (W.dgs 16 0 L) = R
  have HR : Hid (W.fin false L (W.dgs 16 0 L) = R) := hR
  clear hR
  go_enter Tryz.func72, Tryz.ntmps72
  go_wp2
  go_loop [7, 8, 9] (fun vn vi vd => ∃ (k : Nat) (n : Int), k ≤ L.length ∧ vi = .int .i64 k ∧ vn = .int .i64 n ∧ n ≤ 0 ∧ -9223372036854775808 ≤ n ∧ Hid (W.dgs 16 0 L = W.dgs 16 n (L.drop k))) (fun _ vi _ => L.length - (intOf vi).toNat)
  case atStart => exact ⟨0, 0, by omega, rfl, rfl, by decide, by decide, rfl⟩
  case round =>
    obtain ⟨k, n, hk, rfl, rfl, hn0, hn1, hi⟩ := hrel
    by_cases hkn : k < L.length
    · have hki : (k : Int) < (L.length : Int) := by omega
      obtain ⟨c, hc⟩ : ∃ c, L[k]'hkn = c := ⟨_, rfl⟩
      have hck : ((⟨L.toArray⟩ : ByteArray)[k]'(by rw [ba_len]; exact hkn)) = c := hc
      have hst : W.dgs 16 n (L.drop k) = if 16 ≤ W.dgV c.toNat ∨ n < (-9223372036854775808 + W.dgV c.toNat).tdiv 16 then none else W.dgs 16 (n * 16 - W.dgV c.toNat) (L.drop (k + 1)) := by
        rw [dg_drop L k hkn, hc]; rfl
      have hi2 := hi.out.trans hst
      clear hi hst hc
      have c256 : c.toNat < 256 := c.toNat_lt
      by_cases t0 : c.toNat ≤ 47
      · have hd : W.dgV c.toNat = (c.toNat : Int) + 208 := by unfold W.dgV; split <;> omega
        rw [hd] at hi2
        rw [if_pos (Or.inl (by omega))] at hi2
        have Hi : Hid (_ = _) := hi2
        clear hi2 hd
        go_wp2
        exact bodyPost_ret (v := .tuple #[.int .i64 0, .bool false]) (by simp [results, Tryz.results72, go_sem]) rfl ⟨by rw [← HR.out, Hi.out]; rfl, rfl⟩
      · skip
        by_cases t1 : c.toNat ≤ 63
        · have hd : W.dgV c.toNat = (c.toNat : Int) - 48 := by unfold W.dgV; split <;> omega
          rw [hd] at hi2
          have hq := W.tdiv_neg16 (-9223372036854775808 + ((c.toNat : Int) - 48)) (by omega)
          obtain ⟨q, hQ⟩ : ∃ q, (-9223372036854775808 + ((c.toNat : Int) - 48)).tdiv 16 = q := ⟨_, rfl⟩
          rw [hQ] at hi2 hq
          by_cases hlt : n < q
          · rw [if_pos (Or.inr hlt)] at hi2
            have Hi : Hid (_ = _) := hi2
            clear hi2 hd
            go_wp2
            exact bodyPost_ret (v := .tuple #[.int .i64 0, .bool false]) (by simp [results, Tryz.results72, go_sem]) rfl ⟨by rw [← HR.out, Hi.out]; rfl, rfl⟩
          · rw [if_neg (by omega)] at hi2
            have Hi : Hid (_ = _) := hi2
            clear hi2 hd
            go_wp2
            go_round
            case rel => exact ⟨k + 1, _, by omega, by go_num, rfl, by omega, by omega, Hi.out⟩
            case measure => simp [intOf]; omega
        · skip
          by_cases t2 : c.toNat ≤ 96
          · have hd : W.dgV c.toNat = (c.toNat : Int) - 48 := by unfold W.dgV; split <;> omega
            rw [hd] at hi2
            rw [if_pos (Or.inl (by omega))] at hi2
            have Hi : Hid (_ = _) := hi2
            clear hi2 hd
            go_wp2
            exact bodyPost_ret (v := .tuple #[.int .i64 0, .bool false]) (by simp [results, Tryz.results72, go_sem]) rfl ⟨by rw [← HR.out, Hi.out]; rfl, rfl⟩
          · skip
            by_cases t3 : c.toNat ≤ 102
            · have hd : W.dgV c.toNat = (c.toNat : Int) - 97 + 10 := by unfold W.dgV; split <;> omega
              rw [hd] at hi2
              have hq := W.tdiv_neg16 (-9223372036854775808 + ((c.toNat : Int) - 97 + 10)) (by omega)
              obtain ⟨q, hQ⟩ : ∃ q, (-9223372036854775808 + ((c.toNat : Int) - 97 + 10)).tdiv 16 = q := ⟨_, rfl⟩
              rw [hQ] at hi2 hq
              by_cases hlt : n < q
              · rw [if_pos (Or.inr hlt)] at hi2
                have Hi : Hid (_ = _) := hi2
                clear hi2 hd
                go_wp2
                exact bodyPost_ret (v := .tuple #[.int .i64 0, .bool false]) (by simp [results, Tryz.results72, go_sem]) rfl ⟨by rw [← HR.out, Hi.out]; rfl, rfl⟩
              · rw [if_neg (by omega)] at hi2
                have Hi : Hid (_ = _) := hi2
                clear hi2 hd
                go_wp2
                go_round
                case rel => exact ⟨k + 1, _, by omega, by go_num, rfl, by omega, by omega, Hi.out⟩
                case measure => simp [intOf]; omega
            · have hd : W.dgV c.toNat = (c.toNat : Int) - 97 + 10 := by unfold W.dgV; split <;> omega
              rw [hd] at hi2
              rw [if_pos (Or.inl (by omega))] at hi2
              have Hi : Hid (_ = _) := hi2
              clear hi2 hd
              go_wp2
              exact bodyPost_ret (v := .tuple #[.int .i64 0, .bool false]) (by simp [results, Tryz.results72, go_sem]) rfl ⟨by rw [← HR.out, Hi.out]; rfl, rfl⟩
    · obtain rfl : k = L.length := by omega
      have hi2 := hi.out
      rw [List.drop_length] at hi2
      have Hi : Hid (_ = _) := hi2
      clear hi hi2
      by_cases hz : n = -9223372036854775808
      · have hz1 : (n == -9223372036854775808) = true := by simpa using hz
        go_wp2
        exact bodyPost_ret (v := .tuple #[.int .i64 0, .bool false]) (by simp [results, Tryz.results72, go_sem]) rfl ⟨by rw [← HR.out, Hi.out]; simp [W.dgs, W.fin, hE2, hz], rfl⟩
      · have hz1 : (n == -9223372036854775808) = false := by simpa using hz
        have hz2 : wrap64 (-n) = -n := by unfold wrap64; omega
        go_wp2
        exact bodyPost_ret (v := .tuple #[.int .i64 (-n), .bool true]) (by simp [results, Tryz.results72, go_sem]) rfl ⟨by rw [← HR.out, Hi.out]; simp [W.dgs, W.fin, hE2, hz], rfl⟩
theorem digits_e16 (w : World) : Calls Tryz.prog 72 #[.string ⟨#[]⟩, .int .i64 16] w fun e w' => e = .returned (.tuple #[.int .i64 0, .bool false]) ∧ w' = w := by
  go_enter Tryz.func72, Tryz.ntmps72
  go_wp2
  refine wp_loop_rounds 1 ?_
  rw [rounds_succ]
  go_wp2
  exact bodyPost_ret (v := .tuple #[.int .i64 0, .bool false]) (by simp [results, Tryz.results72, go_sem]) rfl ⟨rfl, rfl⟩

end Go.Proofs.YtmihcicepgjogaaGreatDoor
