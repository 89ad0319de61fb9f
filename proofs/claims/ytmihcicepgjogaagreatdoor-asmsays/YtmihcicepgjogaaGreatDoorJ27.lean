/- Texts in one: AsmN4, AsmN5, AsmR, AsmS, AsmY, AsmZ, AsmZ2, AsmZ3. -/
import Derived.Test.YtmihcicepgjogaaGreatDoorJ17
import Derived.Test.YtmihcicepgjogaaGreatDoorJ25
import Derived.Test.YtmihcicepgjogaaGreatDoorJ26
/- Numbers read, of base 0: ParseInt, and a part's number. -/
namespace Go.Proofs.YtmihcicepgjogaaGreatDoor
open Go.ChangeShapes Go.WideShapes Go.ChangeAt Go.RowKit
set_option linter.unusedVariables false
set_option linter.unusedSimpArgs false

theorem pu_hex (da db dc : Nat) (h1 : da < 16) (h2 : db < 16) (h3 : dc < 16) (w : World) : Calls Tryz.prog 142 #[.string ⟨#[48, 120, W.hd da, W.hd db, W.hd dc]⟩, .int .i64 0, .int .i64 64] w fun e w' => e = .returned (.tuple #[.int .u64 ((da * 256 + db * 16 + dc : Nat) : Int), .nilIface]) ∧ Below w.heap.size w w' := by
  have ka := hd_cases da h1
  have kb := hd_cases db h2
  have kc := hd_cases dc h3
  generalize W.hd da = a at *
  generalize W.hd db = b at *
  generalize W.hd dc = c at *
  obtain ⟨x, hxa⟩ : ∃ x, a.toNat = x := ⟨_, rfl⟩
  obtain ⟨y, hyb⟩ : ∃ x, b.toNat = x := ⟨_, rfl⟩
  obtain ⟨z, hzc⟩ : ∃ x, c.toNat = x := ⟨_, rfl⟩
  rw [hxa] at ka
  rw [hyb] at kb
  rw [hzc] at kc
  rcases ka with ⟨a1, a2, rfl⟩ | ⟨a1, a2, rfl⟩ <;> rcases kb with ⟨b1, b2, rfl⟩ | ⟨b1, b2, rfl⟩ <;> rcases kc with ⟨d1, d2, rfl⟩ | ⟨d1, d2, rfl⟩
  · exact pu_hex_000 a b c x y z hxa hyb hzc (by omega) (by omega) (by omega) (by omega) (by omega) (by omega) w
  · exact pu_hex_001 a b c x y z hxa hyb hzc (by omega) (by omega) (by omega) (by omega) (by omega) (by omega) w
  · exact pu_hex_010 a b c x y z hxa hyb hzc (by omega) (by omega) (by omega) (by omega) (by omega) (by omega) w
  · exact pu_hex_011 a b c x y z hxa hyb hzc (by omega) (by omega) (by omega) (by omega) (by omega) (by omega) w
  · exact pu_hex_100 a b c x y z hxa hyb hzc (by omega) (by omega) (by omega) (by omega) (by omega) (by omega) w
  · exact pu_hex_101 a b c x y z hxa hyb hzc (by omega) (by omega) (by omega) (by omega) (by omega) (by omega) w
  · exact pu_hex_110 a b c x y z hxa hyb hzc (by omega) (by omega) (by omega) (by omega) (by omega) (by omega) w
  · exact pu_hex_111 a b c x y z hxa hyb hzc (by omega) (by omega) (by omega) (by omega) (by omega) (by omega) w

set_option maxRecDepth 1000000 in
set_option maxHeartbeats 3200000 in
theorem pi_pos (t : ByteArray) (hne : t.size ≠ 0) (q1 : (((t[0]'(Nat.pos_of_ne_zero hne)).toNat : Int) == 43) = false) (q2 : (((t[0]'(Nat.pos_of_ne_zero hne)).toNat : Int) == 45) = false) (V : Int) (v0 : 0 ≤ V) (v1 : V < 9223372036854775808) (H : Hid (∀ w : World, Calls Tryz.prog 142 #[.string t, .int .i64 0, .int .i64 64] w fun e w' => e = .returned (.tuple #[.int .u64 V, .nilIface]) ∧ Below w.heap.size w w')) (w : World) : Calls Tryz.prog 124 #[.string t, .int .i64 0, .int .i64 64] w fun e w' => e = .returned (.tuple #[.int .i64 V, .nilIface]) ∧ Below w.heap.size w w' := by
  have hemp : t.toList.isEmpty = false := by
    rw [← decide_eq_emptyBytes]
    exact decide_eq_false (fun h => hne (by rw [h]; rfl))
  have i0 : (0 : Int) < (t.size : Int) := by omega
  go_enter Tryz.func124, Tryz.ntmps124
  go_wp2_with (go_at_call 142; refine (H.out _).mono ?_; rintro e w1 ⟨rfl, hm⟩)
  exact bodyPost_ret (v := .tuple #[.int .i64 V, .nilIface]) (by simp [results, Tryz.results124, go_sem]) rfl ⟨rfl, hm⟩

set_option maxRecDepth 1000000 in
set_option maxHeartbeats 3200000 in
theorem pi_neg (L : List UInt8) (hmax : L.length ≤ 1000) (V : Int) (v0 : 0 ≤ V) (v1 : V < 9223372036854775808) (H : Hid (∀ w : World, Calls Tryz.prog 142 #[.string ⟨L.toArray⟩, .int .i64 0, .int .i64 64] w fun e w' => e = .returned (.tuple #[.int .u64 V, .nilIface]) ∧ Below w.heap.size w w')) (w : World) : Calls Tryz.prog 124 #[.string ⟨(45 :: L).toArray⟩, .int .i64 0, .int .i64 64] w fun e w' => e = .returned (.tuple #[.int .i64 (-V), .nilIface]) ∧ Below w.heap.size w w' := by
  have hx : (⟨(45 :: L).toArray⟩ : ByteArray).extract 1 (L.length + 1) = ⟨L.toArray⟩ := by
    rw [ba_extract]
    simp
  have q : (((⟨(45 :: L).toArray⟩ : ByteArray)[0]'(by show 0 < L.length + 1; omega)).toNat : Int) = 45 := rfl
  go_enter Tryz.func124, Tryz.ntmps124
  go_wp2_with (go_at_call 142; refine (H.out _).mono ?_; rintro e w1 ⟨rfl, hm⟩)
  exact bodyPost_ret (v := .tuple #[.int .i64 (-V), .nilIface]) (by simp [results, Tryz.results124, go_sem]) rfl ⟨rfl, hm⟩

theorem spi (t : ByteArray) (V : Int) (H : Hid (∀ w : World, Calls Tryz.prog 124 #[.string t, .int .i64 0, .int .i64 64] w fun e w' => e = .returned (.tuple #[.int .i64 V, .nilIface]) ∧ Below w.heap.size w w')) (w : World) : Calls Tryz.prog 101 #[.string t, .int .i64 0, .int .i64 64] w fun e w' => e = .returned (.tuple #[.int .i64 V, .nilIface]) ∧ Below w.heap.size w w' := by
  go_enter Tryz.func101, Tryz.ntmps101
  go_wp2_with (go_at_call 124; refine (H.out _).mono ?_; rintro e w1 ⟨rfl, hm⟩)
  exact bodyPost_ret (v := .tuple #[.int .i64 V, .nilIface]) (by simp [results, Tryz.results101, go_sem]) rfl ⟨rfl, hm⟩

theorem number_at (L M : List UInt8) (hM : Lib.trimPrefix L [120] = M) (V : Int) (H : Hid (∀ w : World, Calls Tryz.prog 124 #[.string ⟨M.toArray⟩, .int .i64 0, .int .i64 64] w fun e w' => e = .returned (.tuple #[.int .i64 V, .nilIface]) ∧ Below w.heap.size w w')) (w : World) : Calls Tryz.prog 69 #[.string ⟨L.toArray⟩] w fun e w' => e = .returned (.int .i64 V) ∧ Below w.heap.size w w' := by
  have HM : Hid (Lib.trimPrefix L [120] = M) := hM
  clear hM
  go_enter Tryz.func69, Tryz.ntmps69
  go_wp2_with (first
    | (go_at_call 66; refine (Tryz.strings_TrimPrefix _ _ _).mono ?_; rintro e w' ⟨rfl, rfl⟩; rw [show Lib.trimPrefix _ _ = M from HM.out])
    | (go_at_call 101; refine (spi _ V H _).mono ?_; rintro e w1 ⟨rfl, hm⟩))
  go_ret
  exact ⟨rfl, hm⟩
end Go.Proofs.YtmihcicepgjogaaGreatDoor

/- A part's number, as it is written. -/
namespace Go.Proofs.YtmihcicepgjogaaGreatDoor
open Go.ChangeShapes Go.WideShapes Go.ChangeAt Go.RowKit
set_option linter.unusedVariables false
set_option linter.unusedSimpArgs false

theorem dv_append (l m : List UInt8) (a : Nat) : W.dv (l ++ m) a = W.dv m (W.dv l a) := by
  induction l generalizing a with
  | nil => rfl
  | cons c r ih => exact ih _
theorem dig_at (d : Nat) (h : d < 10) : (UInt8.ofNat (48 + d)).toNat = 48 + d := by
  simp [UInt8.toNat_ofNat]; omega
theorem dec_all (u : Nat) : (∀ c ∈ Lib.decDigits u, W.dig c) ∧ W.dv (Lib.decDigits u) 0 = u ∧ Lib.decDigits u ≠ [] ∧ (u ≠ 0 → ∃ c r, Lib.decDigits u = c :: r ∧ c.toNat ≠ 48) := by
  induction u using Nat.strongRecOn with
  | _ u ih =>
    by_cases h : u < 10
    · rw [Lib.decDigits_one h]
      have e := dig_at u h
      refine ⟨fun c hc => ?_, ?_, by simp, fun h0 => ⟨_, [], rfl, by rw [e]; omega⟩⟩
      · rw [List.mem_singleton.1 hc]
        unfold W.dig
        rw [e]
        omega
      · show 0 * 10 + ((UInt8.ofNat (48 + u)).toNat - 48) = u
        rw [e]
        omega
    · have hd : Lib.decDigits u = Lib.decDigits (u / 10) ++ [UInt8.ofNat (48 + u % 10)] := by
        rw [Lib.decDigits, dif_neg h]
      obtain ⟨i1, i2, i3, i4⟩ := ih (u / 10) (by omega)
      have e := dig_at (u % 10) (by omega)
      rw [hd]
      refine ⟨fun c hc => ?_, ?_, by simp, fun _ => ?_⟩
      · rcases List.mem_append.1 hc with hc | hc
        · exact i1 c hc
        · rw [List.mem_singleton.1 hc]
          unfold W.dig
          rw [e]
          omega
      · rw [dv_append, i2]
        show u / 10 * 10 + ((UInt8.ofNat (48 + u % 10)).toNat - 48) = u
        rw [e]
        omega
      · obtain ⟨c, r, hc, hn⟩ := i4 (by omega)
        exact ⟨c, r ++ _, by rw [hc]; rfl, hn⟩

/-- ParseUint of what decDigits writes. -/
theorem pu_dec (u : Nat) (hu : u < 4294967296) (w : World) : Calls Tryz.prog 142 #[.string ⟨(Lib.decDigits u).toArray⟩, .int .i64 0, .int .i64 64] w fun e w' => e = .returned (.tuple #[.int .u64 u, .nilIface]) ∧ Below w.heap.size w w' := by
  by_cases h0 : u = 0
  · subst h0
    rw [Lib.decDigits_one (by omega)]
    exact pu_zero w
  · obtain ⟨i1, i2, i3, i4⟩ := dec_all u
    obtain ⟨c, r, hc, hn⟩ := i4 h0
    have hl := dec_len u (by omega)
    have hne : (⟨(Lib.decDigits u).toArray⟩ : ByteArray).size ≠ 0 := by
      show (Lib.decDigits u).toArray.size ≠ 0
      rw [hc]; simp
    refine (pu_ten ⟨(Lib.decDigits u).toArray⟩ hne (by show (Lib.decDigits u).toArray.size ≤ 1000; simp; omega) ?_ (by simpa using i1) u (by simpa using i2) (by omega) w).mono fun e w' ⟨he, hw⟩ => ⟨he, hw ▸ bytes_bel w _⟩
    have : ((⟨(Lib.decDigits u).toArray⟩ : ByteArray)[0]'(Nat.pos_of_ne_zero hne)) = c := by
      show (Lib.decDigits u)[0]'_ = c
      simp [hc]
    rw [this]
    simp
    omega
theorem pi_dec (u : Nat) (hu : u < 4294967296) (w : World) : Calls Tryz.prog 124 #[.string ⟨(Lib.decDigits u).toArray⟩, .int .i64 0, .int .i64 64] w fun e w' => e = .returned (.tuple #[.int .i64 u, .nilIface]) ∧ Below w.heap.size w w' := by
  obtain ⟨i1, i2, i3, i4⟩ := dec_all u
  have hne : (⟨(Lib.decDigits u).toArray⟩ : ByteArray).size ≠ 0 := by
    show (Lib.decDigits u).toArray.size ≠ 0
    simpa using i3
  have hd : W.dig ((⟨(Lib.decDigits u).toArray⟩ : ByteArray)[0]'(Nat.pos_of_ne_zero hne)) := i1 _ (by
    show (Lib.decDigits u)[0]'_ ∈ Lib.decDigits u
    exact List.getElem_mem _)
  exact pi_pos _ hne (by have := hd.1; have := hd.2; simp; omega) (by have := hd.1; have := hd.2; simp; omega) u (by omega) (by omega) (fun w => pu_dec u hu w) w
theorem trim_no (c : UInt8) (r : List UInt8) (h : c ≠ 120) : Lib.trimPrefix (c :: r) [120] = c :: r := by
  have : (120 == c) = false := by simpa using fun e => h e.symm
  simp [Lib.trimPrefix, Lib.hasPrefix, List.isPrefixOf, this]
theorem trim_x (r : List UInt8) : Lib.trimPrefix (120 :: r) [120] = r := by
  simp [Lib.trimPrefix, Lib.hasPrefix, List.isPrefixOf]

theorem number_reg (n : Nat) (hn : n < 4294967296) (w : World) : Calls Tryz.prog 69 #[.string ⟨(W.regL n).toArray⟩] w fun e w' => e = .returned (.int .i64 n) ∧ Below w.heap.size w w' :=
  number_at _ _ (trim_x _) n (fun w => pi_dec n hn w) w
theorem number_dec (n : Int) (h0 : -2147483648 ≤ n) (h1 : n ≤ 2147483647) (w : World) : Calls Tryz.prog 69 #[.string ⟨(Lib.itoa n).toArray⟩] w fun e w' => e = .returned (.int .i64 n) ∧ Below w.heap.size w w' := by
  unfold Lib.itoa
  split
  · rename_i hn
    have h := pi_neg (Lib.decDigits n.natAbs) (by have := dec_len n.natAbs (by omega); omega) (n.natAbs : Int) (by omega) (by omega) (fun w => pu_dec n.natAbs (by omega) w)
    have e : -(n.natAbs : Int) = n := by omega
    rw [e] at h
    exact number_at _ _ (trim_no _ _ (by decide)) n h w
  · rename_i hn
    have h := pi_dec n.toNat (by omega)
    have e : (n.toNat : Int) = n := by omega
    rw [e] at h
    obtain ⟨i1, i2, i3, i4⟩ := dec_all n.toNat
    refine number_at _ _ ?_ n h w
    match hl : Lib.decDigits n.toNat with
    | [] => exact absurd hl i3
    | c :: r =>
      refine trim_no c r fun e => ?_
      have := (i1 c (by rw [hl]; simp)).2
      rw [e] at this
      exact absurd this (by decide)
theorem number_hex (x : Nat) (hx : x < 4096) (w : World) : Calls Tryz.prog 69 #[.string ⟨(48 :: 120 :: W.hexL x 3).toArray⟩] w fun e w' => e = .returned (.int .i64 x) ∧ Below w.heap.size w w' := by
  have hl : W.hexL x 3 = [W.hd (x / 16 / 16 % 16), W.hd (x / 16 % 16), W.hd (x % 16)] := by simp [W.hexL]
  rw [hl]
  have hv : ((x / 16 / 16 % 16 * 256 + x / 16 % 16 * 16 + x % 16 : Nat) : Int) = x := by omega
  have h := fun w => pu_hex (x / 16 / 16 % 16) (x / 16 % 16) (x % 16) (by omega) (by omega) (by omega) w
  rw [hv] at h
  refine number_at _ _ (trim_no _ _ (by decide)) x (fun w => ?_) w
  exact pi_pos ⟨#[48, 120, _, _, _]⟩ (by show 5 ≠ 0; decide) (by rfl) (by rfl) x (by omega) (by omega) h w
end Go.Proofs.YtmihcicepgjogaaGreatDoor

/- What reading a text comes to: where it is cut. -/
namespace Go.Proofs.YtmihcicepgjogaaGreatDoor
open Go.ChangeShapes Go.WideShapes Go.ChangeAt Go.RowKit
set_option linter.unusedVariables false
set_option linter.unusedSimpArgs false

theorem index_at (h r : List UInt8) (hn : ∀ c ∈ h, c ≠ 32) : Lib.index (h ++ 32 :: r) [32] = (h.length : Int) := by
  induction h with
  | nil => simp [Lib.index]
  | cons b t ih =>
    have hb : ((32 : UInt8) == b) = false := by
      have := hn b (by simp)
      simpa using fun e => this e.symm
    have e := ih fun c hc => hn c (by simp [hc])
    rw [List.cons_append, Lib.index]
    simp only [List.isPrefixOf, hb, Bool.false_and, Bool.false_eq_true, if_false]
    rw [e]
    simp
theorem index_no (h : List UInt8) (hn : ∀ c ∈ h, c ≠ 32) : Lib.index h [32] = -1 := by
  induction h with
  | nil => simp [Lib.index]
  | cons b t ih =>
    have hb : ((32 : UInt8) == b) = false := by
      have := hn b (by simp)
      simpa using fun e => this e.symm
    have e := ih fun c hc => hn c (by simp [hc])
    rw [Lib.index]
    simp only [List.isPrefixOf, hb, Bool.false_and, Bool.false_eq_true, if_false]
    rw [e]
    simp
theorem cut_at (h r : List UInt8) (hn : ∀ c ∈ h, c ≠ 32) : Lib.cut (h ++ 32 :: r) [32] = (h, r, true) := by
  unfold Lib.cut
  rw [index_at h r hn, if_pos (by omega)]
  simp
theorem cut_no (h : List UInt8) (hn : ∀ c ∈ h, c ≠ 32) : Lib.cut h [32] = (h, [], false) := by
  unfold Lib.cut
  rw [index_no h hn, if_neg (by omega)]

namespace W
def headOk (k : Nat) : Bool :=
  [false, true].all fun aq => [false, true].all fun rl =>
    let a : List UInt8 := nameAt k ++ (bif aq then [46, 97, 113] else [])
    let h : List UInt8 := a ++ (bif rl then [46, 114, 108] else [])
    !(h.contains 32) && (Lib.trimSuffix h [46, 114, 108] == a) && (Lib.hasSuffix h [46, 114, 108] == rl) && (Lib.trimSuffix a [46, 97, 113] == nameAt k) && (Lib.hasSuffix a [46, 97, 113] == aq) && (fidx (nameAt k) 0 70 == (k : Int))
theorem headsOk : ((List.range 70).all fun k => (k == 0) || headOk k) = true := by decide +kernel
end W

/-- No letter that stands between parts, all of them ASCII. -/
def plainL (l : List UInt8) : Prop := ∀ c ∈ l, c.toNat < 128 ∧ W.btw c.toNat = false
theorem idx_from (p r : List UInt8) (hp : plainL p) (hr : r = [] ∨ ∃ c t, r = c :: t ∧ c.toNat < 128 ∧ W.btw c.toNat = true) (f pos : Nat) (h1 : pos ≤ p.length) (h2 : p.length < pos + f) : Lib.idxFuncFrom W.btw true ⟨(p ++ r).toArray⟩ f pos = if r = [] then -1 else (p.length : Int) := by
  induction f generalizing pos with
  | zero => omega
  | succ f ih =>
    have hs : (⟨(p ++ r).toArray⟩ : ByteArray).size = p.length + r.length := by
      show (p ++ r).toArray.size = _
      simp
    rw [Lib.idxFuncFrom]
    by_cases hq : pos < p.length
    · have hlt : pos < (⟨(p ++ r).toArray⟩ : ByteArray).size := by omega
      have hc : (⟨(p ++ r).toArray⟩ : ByteArray)[pos]'hlt = p[pos] := by
        show (p ++ r)[pos]'_ = _
        simp [List.getElem_append, hq]
      obtain ⟨g1, g2⟩ := hp p[pos] (List.getElem_mem _)
      rw [if_pos hlt, decode_ascii _ pos hlt (by rw [hc]; exact g1), hc]
      simp only [g2, Bool.false_eq_true, if_false]
      exact ih (pos + 1) (by omega) (by omega)
    · have he : pos = p.length := by omega
      subst he
      rcases hr with rfl | ⟨c, t, rfl, g1, g2⟩
      · rw [if_neg (by rw [hs]; simp)]
        simp
      · have hlt : p.length < (⟨(p ++ c :: t).toArray⟩ : ByteArray).size := by rw [hs]; simp
        have hc : (⟨(p ++ c :: t).toArray⟩ : ByteArray)[p.length]'hlt = c := by
          show (p ++ c :: t)[p.length]'_ = _
          simp
        rw [if_pos hlt, decode_ascii _ p.length hlt (by rw [hc]; exact g1), hc]
        simp [g2]
theorem idx_none (p : List UInt8) (hp : plainL p) (f pos : Nat) : Lib.idxFuncFrom W.btw true ⟨p.toArray⟩ f pos = -1 := by
  induction f generalizing pos with
  | zero => rfl
  | succ f ih =>
    rw [Lib.idxFuncFrom]
    by_cases hlt : pos < (⟨p.toArray⟩ : ByteArray).size
    · have hq : pos < p.length := by have : (⟨p.toArray⟩ : ByteArray).size = p.length := rfl; omega
      have hc : (⟨p.toArray⟩ : ByteArray)[pos]'hlt = p[pos] := rfl
      obtain ⟨g1, g2⟩ := hp p[pos] (List.getElem_mem _)
      rw [if_pos hlt, decode_ascii _ pos hlt (by rw [hc]; exact g1), hc]
      simp only [g2, Bool.false_eq_true, if_false]
      exact ih (pos + 1)
    · rw [if_neg hlt]
theorem pend_end (p : List UInt8) (hp : plainL p) : W.pend p = (p.length : Int) := by
  unfold W.pend Lib.idxFunc
  rw [idx_none p hp]
  rfl
theorem pend_at (p : List UInt8) (c : UInt8) (t : List UInt8) (hp : plainL p) (g1 : c.toNat < 128) (g2 : W.btw c.toNat = true) : W.pend (p ++ c :: t) = (p.length : Int) := by
  have hs : (⟨(p ++ c :: t).toArray⟩ : ByteArray).size = p.length + (c :: t).length := by
    show (p ++ c :: t).toArray.size = _
    simp
  have hi : Lib.idxFunc W.btw true ⟨(p ++ c :: t).toArray⟩ = (p.length : Int) := by
    unfold Lib.idxFunc
    rw [hs]
    have := idx_from p (c :: t) hp (Or.inr ⟨c, t, rfl, g1, g2⟩) (p.length + (c :: t).length) 0 (by omega) (by simp)
    simpa using this
  unfold W.pend
  rw [hi]
  simp

theorem dig_plain (c : UInt8) (h : W.dig c) : c.toNat < 128 ∧ W.btw c.toNat = false := by
  obtain ⟨h0, h1⟩ := h
  exact ⟨by omega, by simp [W.btw]; omega⟩
theorem dec_plain (u : Nat) : plainL (Lib.decDigits u) := fun c hc => dig_plain c ((dec_all u).1 c hc)
theorem itoa_plain (n : Int) : plainL (Lib.itoa n) := by
  unfold Lib.itoa
  split
  · intro c hc
    rcases List.mem_cons.1 hc with rfl | hc
    · decide
    · exact dec_plain _ c hc
  · exact dec_plain _
theorem reg_plain (n : Nat) : plainL (W.regL n) := by
  intro c hc
  rcases List.mem_cons.1 hc with rfl | hc
  · decide
  · exact dec_plain _ c hc
theorem hd_plain (d : Nat) (h : d < 16) : (W.hd d).toNat < 128 ∧ W.btw (W.hd d).toNat = false := by
  have : ∀ d : Fin 16, (W.hd d.val).toNat < 128 ∧ W.btw (W.hd d.val).toNat = false := by decide
  exact this ⟨d, h⟩
theorem hex_plain (x n : Nat) : plainL (W.hexL x n) := by
  induction n generalizing x with
  | zero => intro c hc; cases hc
  | succ n ih =>
    intro c hc
    rcases List.mem_append.1 hc with hc | hc
    · exact ih _ c hc
    · rw [List.mem_singleton.1 hc]
      exact hd_plain _ (by omega)
theorem part_plain (i : W.I) (c : Nat) (hc : c = 100 ∨ c = 49 ∨ c = 50 ∨ c = 99 ∨ c = 105 ∨ c = 117 ∨ c = 112 ∨ c = 115) : plainL (W.partL i c) := by
  rcases hc with rfl | rfl | rfl | rfl | rfl | rfl | rfl | rfl
  · rw [W.partL_100]; exact reg_plain _
  · rw [W.partL_49]; exact reg_plain _
  · rw [W.partL_50]; exact reg_plain _
  · rw [W.partL_99]
    intro c hc
    rcases List.mem_cons.1 hc with rfl | hc
    · decide
    rcases List.mem_cons.1 hc with rfl | hc
    · decide
    · exact hex_plain _ _ c hc
  · rw [W.partL_105]; exact itoa_plain _
  · rw [W.partL_117, W.pU]; exact itoa_plain _
  · rw [W.partL_112, W.pP]; exact itoa_plain _
  · rw [W.partL_115, W.pS]; exact itoa_plain _
end Go.Proofs.YtmihcicepgjogaaGreatDoor

/- The parts' numbers, put into an instruction one behind the other. -/
namespace Go.Proofs.YtmihcicepgjogaaGreatDoor
open Go.ChangeShapes Go.WideShapes Go.ChangeAt Go.RowKit
set_option linter.unusedVariables false
set_option linter.unusedSimpArgs false

namespace W
def pickV (k : Nat) (a b c d e f g h : Int) : Int := bif k == 100 then a else bif k == 49 then b else bif k == 50 then c else bif k == 99 then d else bif k == 105 then e else bif k == 117 then f else bif k == 112 then g else bif k == 115 then h else 0
/-- The number of a part. -/
def partV (i : I) (c : Nat) : Int := pickV c i.rd i.rs1 i.rs2 i.csr (wrap32 i.imm) (wrap32 (bitsOf i.imm 12 20)) (wrap32 (bitsOf i.imm 4 4)) (wrap32 (bitsOf i.imm 0 4))
theorem pickV_100 (a b c d e f g h : Int) : pickV 100 a b c d e f g h = a := rfl
theorem pickV_49 (a b c d e f g h : Int) : pickV 49 a b c d e f g h = b := rfl
theorem pickV_50 (a b c d e f g h : Int) : pickV 50 a b c d e f g h = c := rfl
theorem pickV_99 (a b c d e f g h : Int) : pickV 99 a b c d e f g h = d := rfl
theorem pickV_105 (a b c d e f g h : Int) : pickV 105 a b c d e f g h = e := rfl
theorem pickV_117 (a b c d e f g h : Int) : pickV 117 a b c d e f g h = f := rfl
theorem pickV_112 (a b c d e f g h : Int) : pickV 112 a b c d e f g h = g := rfl
theorem pickV_115 (a b c d e f g h : Int) : pickV 115 a b c d e f g h = h := rfl
end W

theorem number_part (i : W.I) (hr : W.InR i) (c : Nat) (hc : c = 100 ∨ c = 49 ∨ c = 50 ∨ c = 99 ∨ c = 105 ∨ c = 117 ∨ c = 112 ∨ c = 115) (w : World) : Calls Tryz.prog 69 #[.string ⟨(W.partL i c).toArray⟩] w fun e w' => e = .returned (.int .i64 (W.partV i c)) ∧ Below w.heap.size w w' := by
  have hd : ∀ x : Int, ∀ w : World, Calls Tryz.prog 69 #[.string ⟨(Lib.itoa (wrap32 x)).toArray⟩] w fun e w' => e = .returned (.int .i64 (wrap32 x)) ∧ Below w.heap.size w w' := fun x w => number_dec (wrap32 x) (wrap_in x).2.1 (wrap_in x).2.2 w
  have hg : ∀ n : Int, 0 ≤ n → n ≤ 31 → ∀ w : World, Calls Tryz.prog 69 #[.string ⟨(W.regL n.toNat).toArray⟩] w fun e w' => e = .returned (.int .i64 n) ∧ Below w.heap.size w w' := fun n h0 h1 w => by
    have := number_reg n.toNat (by omega) w
    rwa [Int.toNat_of_nonneg h0] at this
  unfold W.partV
  rcases hc with rfl | rfl | rfl | rfl | rfl | rfl | rfl | rfl
  · rw [W.partL_100, W.pickV_100]; exact hg _ hr.rd0 hr.rd1 w
  · rw [W.partL_49, W.pickV_49]; exact hg _ hr.rs10 hr.rs11 w
  · rw [W.partL_50, W.pickV_50]; exact hg _ hr.rs20 hr.rs21 w
  · rw [W.partL_99, W.pickV_99]
    have := number_hex i.csr.toNat (by have := hr.csr0; have := hr.csr1; omega) w
    rwa [Int.toNat_of_nonneg hr.csr0] at this
  · rw [W.partL_105, W.pickV_105]; exact hd _ w
  · rw [W.partL_117, W.pU, W.pickV_117]; exact hd _ w
  · rw [W.partL_112, W.pP, W.pickV_112]; exact hd _ w
  · rw [W.partL_115, W.pS, W.pickV_115]; exact hd _ w

namespace W
/-- All parts of a form put, one behind the other. -/
def putAll (i : I) : I → List UInt8 → I
  | j, [] => j
  | j, c :: r => putAll i (bif btw c.toNat then j else putI j c.toNat (partV i c.toNat)) r
theorem putI_op (j : I) (c : Nat) (n : Int) : (putI j c n).op = j.op ∧ (putI j c n).aq = j.aq ∧ (putI j c n).rl = j.rl := by
  unfold putI
  cases (c == 100) <;> cases (c == 49) <;> cases (c == 50) <;> cases (c == 99) <;> cases (c == 105) <;> cases (c == 117) <;> cases (c == 112) <;> cases (c == 115) <;> exact ⟨rfl, rfl, rfl⟩
theorem putAll_op (i : I) (F : List UInt8) (j : I) : (putAll i j F).op = j.op ∧ (putAll i j F).aq = j.aq ∧ (putAll i j F).rl = j.rl := by
  induction F generalizing j with
  | nil => exact ⟨rfl, rfl, rfl⟩
  | cons c r ih =>
    have h := ih (bif btw c.toNat then j else putI j c.toNat (partV i c.toNat))
    have p := putI_op j c.toNat (partV i c.toNat)
    show (putAll i _ r).op = _ ∧ (putAll i _ r).aq = _ ∧ (putAll i _ r).rl = _
    rw [h.1, h.2.1, h.2.2]
    cases btw c.toNat
    · exact p
    · exact ⟨rfl, rfl, rfl⟩
end W
namespace W
def putAllV (v : Nat → Int) : I → List UInt8 → I
  | j, [] => j
  | j, c :: r => putAllV v (bif btw c.toNat then j else putI j c.toNat (v c.toNat)) r
theorem putAll_V (i : I) (F : List UInt8) (j : I) : putAll i j F = putAllV (partV i) j F := by
  induction F generalizing j with
  | nil => rfl
  | cons c r ih => exact ih _
theorem pa_0 (v : Nat → Int) (j : I) : putAllV v j [100, 44, 32, 117] = ⟨j.op, v 100, j.rs1, j.rs2, j.csr, left (v 117 % 4294967296) 12, j.aq, j.rl⟩ := rfl
theorem pa_1 (v : Nat → Int) (j : I) : putAllV v j [100, 44, 32, 105] = ⟨j.op, v 100, j.rs1, j.rs2, j.csr, v 105 % 4294967296, j.aq, j.rl⟩ := rfl
theorem pa_2 (v : Nat → Int) (j : I) : putAllV v j [100, 44, 32, 105, 40, 49, 41] = ⟨j.op, v 100, v 49, j.rs2, j.csr, v 105 % 4294967296, j.aq, j.rl⟩ := rfl
theorem pa_3 (v : Nat → Int) (j : I) : putAllV v j [112, 44, 32, 115] = ⟨j.op, j.rd, j.rs1, j.rs2, j.csr, bits .or .u32 (left (v 112 % 4294967296) 4) (v 115 % 4294967296), j.aq, j.rl⟩ := rfl
theorem pa_4 (v : Nat → Int) (j : I) : putAllV v j [49, 44, 32, 50] = ⟨j.op, j.rd, v 49, v 50, j.csr, j.imm, j.aq, j.rl⟩ := rfl
theorem pa_5 (v : Nat → Int) (j : I) : putAllV v j [100, 44, 32, 99, 44, 32, 49] = ⟨j.op, v 100, v 49, j.rs2, v 99, j.imm, j.aq, j.rl⟩ := rfl
theorem pa_6 (v : Nat → Int) (j : I) : putAllV v j [100, 44, 32, 99, 44, 32, 105] = ⟨j.op, v 100, j.rs1, j.rs2, v 99, v 105 % 4294967296, j.aq, j.rl⟩ := rfl
theorem pa_7 (v : Nat → Int) (j : I) : putAllV v j [100, 44, 32, 40, 49, 41] = ⟨j.op, v 100, v 49, j.rs2, j.csr, j.imm, j.aq, j.rl⟩ := rfl
theorem pa_8 (v : Nat → Int) (j : I) : putAllV v j [49, 44, 32, 50, 44, 32, 105] = ⟨j.op, j.rd, v 49, v 50, j.csr, v 105 % 4294967296, j.aq, j.rl⟩ := rfl
theorem pa_9 (v : Nat → Int) (j : I) : putAllV v j [50, 44, 32, 105, 40, 49, 41] = ⟨j.op, j.rd, v 49, v 50, j.csr, v 105 % 4294967296, j.aq, j.rl⟩ := rfl
theorem pa_10 (v : Nat → Int) (j : I) : putAllV v j [100, 44, 32, 50, 44, 32, 40, 49, 41] = ⟨j.op, v 100, v 49, v 50, j.csr, j.imm, j.aq, j.rl⟩ := rfl
theorem pa_11 (v : Nat → Int) (j : I) : putAllV v j [100, 44, 32, 49, 44, 32, 105] = ⟨j.op, v 100, v 49, j.rs2, j.csr, v 105 % 4294967296, j.aq, j.rl⟩ := rfl
theorem pa_12 (v : Nat → Int) (j : I) : putAllV v j [100, 44, 32, 49, 44, 32, 50] = ⟨j.op, v 100, v 49, v 50, j.csr, j.imm, j.aq, j.rl⟩ := rfl
theorem pa_13 (v : Nat → Int) (j : I) : putAllV v j [] = j := rfl
def formFit (k : Nat) : Bool :=
  ((form ((k : Nat) : Int) == [100, 44, 32, 117]) && (shp ((k : Nat) : Int)).rd && !(shp ((k : Nat) : Int)).rs1 && !(shp ((k : Nat) : Int)).rs2 && !(shp ((k : Nat) : Int)).csr && ((shp ((k : Nat) : Int)).fmt == 85) && ((shp ((k : Nat) : Int)).size == 0)) ||
  ((form ((k : Nat) : Int) == [100, 44, 32, 105]) && (shp ((k : Nat) : Int)).rd && !(shp ((k : Nat) : Int)).rs1 && !(shp ((k : Nat) : Int)).rs2 && !(shp ((k : Nat) : Int)).csr && hasImm (shp ((k : Nat) : Int))) ||
  ((form ((k : Nat) : Int) == [100, 44, 32, 105, 40, 49, 41]) && (shp ((k : Nat) : Int)).rd && (shp ((k : Nat) : Int)).rs1 && !(shp ((k : Nat) : Int)).rs2 && !(shp ((k : Nat) : Int)).csr && hasImm (shp ((k : Nat) : Int))) ||
  ((form ((k : Nat) : Int) == [112, 44, 32, 115]) && !(shp ((k : Nat) : Int)).rd && !(shp ((k : Nat) : Int)).rs1 && !(shp ((k : Nat) : Int)).rs2 && !(shp ((k : Nat) : Int)).csr && ((shp ((k : Nat) : Int)).size == 8) && ((shp ((k : Nat) : Int)).low == 20)) ||
  ((form ((k : Nat) : Int) == [49, 44, 32, 50]) && !(shp ((k : Nat) : Int)).rd && (shp ((k : Nat) : Int)).rs1 && (shp ((k : Nat) : Int)).rs2 && !(shp ((k : Nat) : Int)).csr && !hasImm (shp ((k : Nat) : Int))) ||
  ((form ((k : Nat) : Int) == [100, 44, 32, 99, 44, 32, 49]) && (shp ((k : Nat) : Int)).rd && (shp ((k : Nat) : Int)).rs1 && !(shp ((k : Nat) : Int)).rs2 && (shp ((k : Nat) : Int)).csr && !hasImm (shp ((k : Nat) : Int))) ||
  ((form ((k : Nat) : Int) == [100, 44, 32, 99, 44, 32, 105]) && (shp ((k : Nat) : Int)).rd && !(shp ((k : Nat) : Int)).rs1 && !(shp ((k : Nat) : Int)).rs2 && (shp ((k : Nat) : Int)).csr && hasImm (shp ((k : Nat) : Int))) ||
  ((form ((k : Nat) : Int) == [100, 44, 32, 40, 49, 41]) && (shp ((k : Nat) : Int)).rd && (shp ((k : Nat) : Int)).rs1 && !(shp ((k : Nat) : Int)).rs2 && !(shp ((k : Nat) : Int)).csr && !hasImm (shp ((k : Nat) : Int))) ||
  ((form ((k : Nat) : Int) == [49, 44, 32, 50, 44, 32, 105]) && !(shp ((k : Nat) : Int)).rd && (shp ((k : Nat) : Int)).rs1 && (shp ((k : Nat) : Int)).rs2 && !(shp ((k : Nat) : Int)).csr && hasImm (shp ((k : Nat) : Int))) ||
  ((form ((k : Nat) : Int) == [50, 44, 32, 105, 40, 49, 41]) && !(shp ((k : Nat) : Int)).rd && (shp ((k : Nat) : Int)).rs1 && (shp ((k : Nat) : Int)).rs2 && !(shp ((k : Nat) : Int)).csr && hasImm (shp ((k : Nat) : Int))) ||
  ((form ((k : Nat) : Int) == [100, 44, 32, 50, 44, 32, 40, 49, 41]) && (shp ((k : Nat) : Int)).rd && (shp ((k : Nat) : Int)).rs1 && (shp ((k : Nat) : Int)).rs2 && !(shp ((k : Nat) : Int)).csr && !hasImm (shp ((k : Nat) : Int))) ||
  ((form ((k : Nat) : Int) == [100, 44, 32, 49, 44, 32, 105]) && (shp ((k : Nat) : Int)).rd && (shp ((k : Nat) : Int)).rs1 && !(shp ((k : Nat) : Int)).rs2 && !(shp ((k : Nat) : Int)).csr && hasImm (shp ((k : Nat) : Int))) ||
  ((form ((k : Nat) : Int) == [100, 44, 32, 49, 44, 32, 50]) && (shp ((k : Nat) : Int)).rd && (shp ((k : Nat) : Int)).rs1 && (shp ((k : Nat) : Int)).rs2 && !(shp ((k : Nat) : Int)).csr && !hasImm (shp ((k : Nat) : Int))) ||
  ((form ((k : Nat) : Int) == ([] : List UInt8)) && !(shp ((k : Nat) : Int)).rd && !(shp ((k : Nat) : Int)).rs1 && !(shp ((k : Nat) : Int)).rs2 && !(shp ((k : Nat) : Int)).csr && !hasImm (shp ((k : Nat) : Int)))
theorem formsFit : ((List.range 70).all fun k => (k == 0) || formFit k) = true := by decide +kernel
theorem w32 (x : Int) (x0 : 0 ≤ x) (x1 : x < 4294967296) : wrap32 x % 4294967296 = x := by simp only [wrap32]; omega
theorem I_eta (i : I) : i = ⟨i.op, i.rd, i.rs1, i.rs2, i.csr, i.imm, i.aq, i.rl⟩ := rfl
theorem immU_back (s : Sh) (v : Int) (v0 : 0 ≤ v) (v1 : v < 4294967296) (h1 : s.fmt = 85) (h2 : s.size = 0) (hb : layIB s v = true) : left (wrap32 (bitsOf v 12 20) % 4294967296) 12 = v := by
  rw [(layIB_f (by simp [isF]) h1 h2).2.1] at hb
  have e2 : imm 85 (layw 85 v) = v := by
    have : (wid 85 == 0) = false ∧ imm 85 (layw 85 v) = v := by simpa [layB] using hb
    exact this.2
  have hl := raw_lt (pI 85) (pW 85) (pN 85) v 4
  have e3 := imm_U (layw 85 v) hl.1 hl.2
  rw [e2] at e3
  have e4 := bitsOf_eq (layw 85 v) 12 20 hl.1 hl.2 (by omega) (by omega) (by omega)
  have e5 := bitsOf_eq v 12 20 v0 v1 (by omega) (by omega) (by omega)
  have p1 : (2 : Int) ^ (12 : Int).toNat = 4096 := by decide
  have p2 : (2 : Int) ^ (min (20 : Int).toNat 32) = 1048576 := by decide
  rw [p1, p2] at e4 e5
  have hr := bitsOf_lt v 12 20
  rw [w32 _ hr.1 hr.2, e5]
  unfold left
  simp
  omega
theorem immP_back (s : Sh) (v : Int) (v0 : 0 ≤ v) (v1 : v < 4294967296) (h1 : s.low = 20) (h2 : s.size = 8) (hb : layIB s v = true) : bits .or .u32 (left (wrap32 (bitsOf v 4 4) % 4294967296) 4) (wrap32 (bitsOf v 0 4) % 4294967296) = v := by
  rw [layIB_field (l := 20) (n := 8) h1 h2 (by omega) (by omega) (by omega) v v0 v1] at hb
  have hv : v < 256 := of_decide_eq_true hb
  obtain ⟨n, rfl⟩ := Int.eq_ofNat_of_zero_le v0
  have : ∀ n : Fin 256, bits .or .u32 (left (wrap32 (bitsOf (n.val : Int) 4 4) % 4294967296) 4) (wrap32 (bitsOf (n.val : Int) 0 4) % 4294967296) = (n.val : Int) := by decide +kernel
  exact this ⟨n, by omega⟩
theorem partV_100 (i : I) : partV i 100 = i.rd := pickV_100 _ _ _ _ _ _ _ _
theorem partV_49 (i : I) : partV i 49 = i.rs1 := pickV_49 _ _ _ _ _ _ _ _
theorem partV_50 (i : I) : partV i 50 = i.rs2 := pickV_50 _ _ _ _ _ _ _ _
theorem partV_99 (i : I) : partV i 99 = i.csr := pickV_99 _ _ _ _ _ _ _ _
theorem partV_105 (i : I) : partV i 105 = wrap32 i.imm := pickV_105 _ _ _ _ _ _ _ _
theorem partV_117 (i : I) : partV i 117 = wrap32 (bitsOf i.imm 12 20) := pickV_117 _ _ _ _ _ _ _ _
theorem partV_112 (i : I) : partV i 112 = wrap32 (bitsOf i.imm 4 4) := pickV_112 _ _ _ _ _ _ _ _
theorem partV_115 (i : I) : partV i 115 = wrap32 (bitsOf i.imm 0 4) := pickV_115 _ _ _ _ _ _ _ _
theorem put_form (i : I) (m0 : 0 ≤ i.imm) (m1 : i.imm < 4294967296) (he : encE i = 0) : putAll i ⟨i.op, 0, 0, 0, 0, 0, i.aq, i.rl⟩ (form i.op) = i := by
  obtain ⟨h1, h2, h3, h4⟩ := encE_zero he
  obtain ⟨k, ho, k1, k2⟩ := known_nat h1
  rw [ho] at h2 h4
  have hfit := List.all_eq_true.1 formsFit k (List.mem_range.2 (by omega))
  have hk0 : (k == 0) = false := by simp; omega
  rw [hk0, Bool.false_or] at hfit
  have hs' : (bif (shp k).rd then i.rd else 0) = i.rd ∧ (bif (shp k).rs1 then i.rs1 else 0) = i.rs1 ∧ (bif (shp k).rs2 then i.rs2 else 0) = i.rs2 ∧ (bif (shp k).csr then i.csr else 0) = i.csr ∧ (bif hasImm (shp k) then i.imm else 0) = i.imm ∧ ((shp k).ord && i.aq) = i.aq ∧ ((shp k).ord && i.rl) = i.rl := by
    simpa only [same, only, Bool.and_eq_true, beq_iff_eq, true_and] using h4
  obtain ⟨q0, q1, q2, q3, q4, q5, q6⟩ := hs'
  have hw := w32 i.imm m0 m1
  rw [putAll_V, ho]
  unfold formFit at hfit
  simp only [Bool.or_eq_true, Bool.and_eq_true, beq_iff_eq, Bool.not_eq_true'] at hfit
  rcases hfit with ((((((((((((H | H) | H) | H) | H) | H) | H) | H) | H) | H) | H) | H) | H) | H
  · obtain ⟨⟨⟨⟨⟨⟨hF, f1⟩, f2⟩, f3⟩, f4⟩, f5⟩, f6⟩ := H
    rw [f1] at q0; rw [f2] at q1; rw [f3] at q2; rw [f4] at q3
    rw [hF, pa_0]
    try simp only [partV_100, partV_49, partV_50, partV_99, partV_105, partV_117, partV_112, partV_115]
    exact I_ext ho.symm (by first | rfl | exact q0) (by first | rfl | exact q1) (by first | rfl | exact q2) (by first | rfl | exact q3) (immU_back (shp k) i.imm m0 m1 f5 f6 h2) rfl rfl
  · obtain ⟨⟨⟨⟨⟨hF, f1⟩, f2⟩, f3⟩, f4⟩, f5⟩ := H
    rw [f1] at q0; rw [f2] at q1; rw [f3] at q2; rw [f4] at q3
    rw [hF, pa_1]
    try simp only [partV_100, partV_49, partV_50, partV_99, partV_105, partV_117, partV_112, partV_115]
    exact I_ext ho.symm (by first | rfl | exact q0) (by first | rfl | exact q1) (by first | rfl | exact q2) (by first | rfl | exact q3) hw rfl rfl
  · obtain ⟨⟨⟨⟨⟨hF, f1⟩, f2⟩, f3⟩, f4⟩, f5⟩ := H
    rw [f1] at q0; rw [f2] at q1; rw [f3] at q2; rw [f4] at q3
    rw [hF, pa_2]
    try simp only [partV_100, partV_49, partV_50, partV_99, partV_105, partV_117, partV_112, partV_115]
    exact I_ext ho.symm (by first | rfl | exact q0) (by first | rfl | exact q1) (by first | rfl | exact q2) (by first | rfl | exact q3) hw rfl rfl
  · obtain ⟨⟨⟨⟨⟨⟨hF, f1⟩, f2⟩, f3⟩, f4⟩, f5⟩, f6⟩ := H
    rw [f1] at q0; rw [f2] at q1; rw [f3] at q2; rw [f4] at q3
    rw [hF, pa_3]
    try simp only [partV_100, partV_49, partV_50, partV_99, partV_105, partV_117, partV_112, partV_115]
    exact I_ext ho.symm (by first | rfl | exact q0) (by first | rfl | exact q1) (by first | rfl | exact q2) (by first | rfl | exact q3) (immP_back (shp k) i.imm m0 m1 f6 f5 h2) rfl rfl
  · obtain ⟨⟨⟨⟨⟨hF, f1⟩, f2⟩, f3⟩, f4⟩, f5⟩ := H
    rw [f1] at q0; rw [f2] at q1; rw [f3] at q2; rw [f4] at q3
    rw [hF, pa_4]
    try simp only [partV_100, partV_49, partV_50, partV_99, partV_105, partV_117, partV_112, partV_115]
    exact I_ext ho.symm (by first | rfl | exact q0) (by first | rfl | exact q1) (by first | rfl | exact q2) (by first | rfl | exact q3) (by rw [f5] at q4; exact q4) rfl rfl
  · obtain ⟨⟨⟨⟨⟨hF, f1⟩, f2⟩, f3⟩, f4⟩, f5⟩ := H
    rw [f1] at q0; rw [f2] at q1; rw [f3] at q2; rw [f4] at q3
    rw [hF, pa_5]
    try simp only [partV_100, partV_49, partV_50, partV_99, partV_105, partV_117, partV_112, partV_115]
    exact I_ext ho.symm (by first | rfl | exact q0) (by first | rfl | exact q1) (by first | rfl | exact q2) (by first | rfl | exact q3) (by rw [f5] at q4; exact q4) rfl rfl
  · obtain ⟨⟨⟨⟨⟨hF, f1⟩, f2⟩, f3⟩, f4⟩, f5⟩ := H
    rw [f1] at q0; rw [f2] at q1; rw [f3] at q2; rw [f4] at q3
    rw [hF, pa_6]
    try simp only [partV_100, partV_49, partV_50, partV_99, partV_105, partV_117, partV_112, partV_115]
    exact I_ext ho.symm (by first | rfl | exact q0) (by first | rfl | exact q1) (by first | rfl | exact q2) (by first | rfl | exact q3) hw rfl rfl
  · obtain ⟨⟨⟨⟨⟨hF, f1⟩, f2⟩, f3⟩, f4⟩, f5⟩ := H
    rw [f1] at q0; rw [f2] at q1; rw [f3] at q2; rw [f4] at q3
    rw [hF, pa_7]
    try simp only [partV_100, partV_49, partV_50, partV_99, partV_105, partV_117, partV_112, partV_115]
    exact I_ext ho.symm (by first | rfl | exact q0) (by first | rfl | exact q1) (by first | rfl | exact q2) (by first | rfl | exact q3) (by rw [f5] at q4; exact q4) rfl rfl
  · obtain ⟨⟨⟨⟨⟨hF, f1⟩, f2⟩, f3⟩, f4⟩, f5⟩ := H
    rw [f1] at q0; rw [f2] at q1; rw [f3] at q2; rw [f4] at q3
    rw [hF, pa_8]
    try simp only [partV_100, partV_49, partV_50, partV_99, partV_105, partV_117, partV_112, partV_115]
    exact I_ext ho.symm (by first | rfl | exact q0) (by first | rfl | exact q1) (by first | rfl | exact q2) (by first | rfl | exact q3) hw rfl rfl
  · obtain ⟨⟨⟨⟨⟨hF, f1⟩, f2⟩, f3⟩, f4⟩, f5⟩ := H
    rw [f1] at q0; rw [f2] at q1; rw [f3] at q2; rw [f4] at q3
    rw [hF, pa_9]
    try simp only [partV_100, partV_49, partV_50, partV_99, partV_105, partV_117, partV_112, partV_115]
    exact I_ext ho.symm (by first | rfl | exact q0) (by first | rfl | exact q1) (by first | rfl | exact q2) (by first | rfl | exact q3) hw rfl rfl
  · obtain ⟨⟨⟨⟨⟨hF, f1⟩, f2⟩, f3⟩, f4⟩, f5⟩ := H
    rw [f1] at q0; rw [f2] at q1; rw [f3] at q2; rw [f4] at q3
    rw [hF, pa_10]
    try simp only [partV_100, partV_49, partV_50, partV_99, partV_105, partV_117, partV_112, partV_115]
    exact I_ext ho.symm (by first | rfl | exact q0) (by first | rfl | exact q1) (by first | rfl | exact q2) (by first | rfl | exact q3) (by rw [f5] at q4; exact q4) rfl rfl
  · obtain ⟨⟨⟨⟨⟨hF, f1⟩, f2⟩, f3⟩, f4⟩, f5⟩ := H
    rw [f1] at q0; rw [f2] at q1; rw [f3] at q2; rw [f4] at q3
    rw [hF, pa_11]
    try simp only [partV_100, partV_49, partV_50, partV_99, partV_105, partV_117, partV_112, partV_115]
    exact I_ext ho.symm (by first | rfl | exact q0) (by first | rfl | exact q1) (by first | rfl | exact q2) (by first | rfl | exact q3) hw rfl rfl
  · obtain ⟨⟨⟨⟨⟨hF, f1⟩, f2⟩, f3⟩, f4⟩, f5⟩ := H
    rw [f1] at q0; rw [f2] at q1; rw [f3] at q2; rw [f4] at q3
    rw [hF, pa_12]
    try simp only [partV_100, partV_49, partV_50, partV_99, partV_105, partV_117, partV_112, partV_115]
    exact I_ext ho.symm (by first | rfl | exact q0) (by first | rfl | exact q1) (by first | rfl | exact q2) (by first | rfl | exact q3) (by rw [f5] at q4; exact q4) rfl rfl
  · obtain ⟨⟨⟨⟨⟨hF, f1⟩, f2⟩, f3⟩, f4⟩, f5⟩ := H
    rw [f1] at q0; rw [f2] at q1; rw [f3] at q2; rw [f4] at q3
    rw [hF, pa_13]
    try simp only [partV_100, partV_49, partV_50, partV_99, partV_105, partV_117, partV_112, partV_115]
    exact I_ext ho.symm (by first | rfl | exact q0) (by first | rfl | exact q1) (by first | rfl | exact q2) (by first | rfl | exact q3) (by rw [f5] at q4; exact q4) rfl rfl
end W
end Go.Proofs.YtmihcicepgjogaaGreatDoor

/- read of what Print writes. -/
namespace Go.Proofs.YtmihcicepgjogaaGreatDoor
open Go.ChangeShapes Go.WideShapes Go.ChangeAt Go.RowKit
set_option linter.unusedVariables false
set_option linter.unusedSimpArgs false

/-- While read goes on: what is put so far lies in a block of its own; there is room for the answer. -/
structure Rx (A : Nat → Addr) (j : W.I) (w wr : World) : Prop where
  inst : InAt (w.heap.size + 1) j wr
  froz : ∀ q, wr.frozen? ⟨w.heap.size + 1, q, none⟩ = false
  room : Room w.heap.size 8 wr
  s0 : Sg A w
  bel : Below w.heap.size w wr
theorem Rx.lt {A : Nat → Addr} {j : W.I} {w wr : World} (h : Rx A j w wr) : w.heap.size + 1 < wr.heap.size := World.block_lt_of_cell? _ _ h.inst.1
theorem Rx.sg {A : Nat → Addr} {j : W.I} {w wr : World} (h : Rx A j w wr) : Sg A wr := h.s0.below h.bel
theorem Rx.call {A : Nat → Addr} {j : W.I} {w a b : World} (h : Rx A j w a) (hm : Below a.heap.size a b) : Rx A j w b :=
  ⟨h.inst.below hm, fun q => by have e := hm.block _ h.lt; have := h.froz q; simp only [World.frozen?, e] at this ⊢; exact this, h.room.below hm (by have := h.lt; omega), h.s0, from2 h.bel hm⟩

theorem Rx.setop {A : Nat → Addr} {j : W.I} {w a : World} (h : Rx A j w a) (v : Int) : Rx A { j with op := v } w (a.setCell ⟨w.heap.size + 1, 0, none⟩ (.int .i64 v)) := by
  obtain ⟨z0, z1, z2, z3, z4, z5, z6, z7⟩ := h.inst
  refine ⟨?_, fun q => by simp [h.froz], h.room.setCell _ _ _, h.s0, h.bel.setCell (p := ⟨w.heap.size + 1, 0, none⟩) (Nat.le_succ _) _⟩
  unfold InAt
  simp [go_sem, z0, z1, z2, z3, z4, z5, z6, z7]
theorem Rx.start {A : Nat → Addr} {w : World} (hS : Sg A w) (t : TypeId) (nd : Nat) (aq rl : Bool) : Rx A ⟨0, 0, 0, 0, 0, 0, aq, rl⟩ w (((((w.alloc (.cells #[.int .i64 0, .int .i64 0, .int .i64 0, .int .i64 0, .int .i64 0, .int .u32 0, .bool false, .bool false] t)).alloc (.cells #[.int .i64 0, .int .i64 0, .int .i64 0, .int .i64 0, .int .i64 0, .int .u32 0, .bool false, .bool false] t)).drewN nd).setCell ⟨w.heap.size + 1, 7, none⟩ (.bool rl)).setCell ⟨w.heap.size + 1, 6, none⟩ (.bool aq)) := by
  refine ⟨?_, fun q => by simp [go_sem], ?_, hS, ?_⟩
  · unfold InAt
    simp [go_sem]
  · have h0 : Room w.heap.size 8 ((w.alloc (.cells #[.int .i64 0, .int .i64 0, .int .i64 0, .int .i64 0, .int .i64 0, .int .u32 0, .bool false, .bool false] t))) := ⟨_, _, heap_alloc_last w _, rfl⟩
    have h1 := h0.below ((Below.refl _ _).alloc (Nat.le_refl _) (.cells #[.int .i64 0, .int .i64 0, .int .i64 0, .int .i64 0, .int .i64 0, .int .u32 0, .bool false, .bool false] t)) (by simp)
    have h2 := h1.below (below_drewN' (Below.refl (w.heap.size + 1) _) nd) (by omega)
    exact (h2.setCell _ _ _).setCell _ _ _
  · exact ((below_drewN' (((Below.refl w.heap.size w).alloc (Nat.le_refl _) _).alloc (by simp) _) nd).setCell (p := ⟨w.heap.size + 1, 7, none⟩) (Nat.le_succ _) _).setCell (p := ⟨w.heap.size + 1, 6, none⟩) (Nat.le_succ _) _

theorem Rx.iter {A : Nat → Addr} {j : W.I} {w a : World} (h : Rx A j w a) {k : Nat} {s : ByteArray} {pos : Nat} (hit : a.heap[k]? = some (.stringIter s pos)) (hk : w.heap.size + 1 < k) (pos' : Nat) : Rx A j w (a.iterAt k s pos') := by
  have e1 := Lib.iterAt_other a k (w.heap.size + 1) s pos' (by omega)
  have e0 := Lib.iterAt_other a k w.heap.size s pos' (by omega)
  refine ⟨?_, fun q => ?_, ?_, h.s0, Lib.below_iterAt h.bel (by omega) s pos'⟩
  · have q : ∀ q, (a.iterAt k s pos').cell? ⟨w.heap.size + 1, q, none⟩ = a.cell? ⟨w.heap.size + 1, q, none⟩ := fun q => by simp only [World.cell?, e1]
    have := h.inst
    unfold InAt at this ⊢
    simp only [q]
    exact this
  · have := h.froz q
    simp only [World.frozen?, e1] at this ⊢
    exact this
  · obtain ⟨c, t, h1, h2⟩ := h.room
    exact ⟨c, t, e0.trans h1, h2⟩
theorem Rx.put {A : Nat → Addr} {j j' : W.I} {w a b : World} (h : Rx A j w a) (hi : InAt (w.heap.size + 1) j' b) (hf : ∀ q, b.frozen? ⟨w.heap.size + 1, q, none⟩ = false) (hm : Below (w.heap.size + 1) a b) : Rx A j' w b :=
  ⟨hi, hf, h.room.below hm (by omega), h.s0, h.bel.trans (hm.mono (by omega))⟩
theorem enc_lo (c : UInt8) (h : c.toNat < 128) : Utf8.encode (c.toNat : Int) = ⟨#[c]⟩ := by
  have hv : Utf8.valid (c.toNat : Int) = true := by simp [Utf8.valid]; omega
  unfold Utf8.encode
  simp only [hv, if_true, Int.toNat_natCast, if_pos (show c.toNat < 0x80 by omega)]
  simp
theorem put_any (g : Nat) (j : W.I) (c : Nat) (hc : c = 100 ∨ c = 49 ∨ c = 50 ∨ c = 99 ∨ c = 105 ∨ c = 117 ∨ c = 112 ∨ c = 115) (n : Int) (w : World) (hI : InAt g j w) (hf : ∀ q, w.frozen? ⟨g, q, none⟩ = false) : Calls Tryz.prog 68 #[.pointer (some ⟨g, 0, none⟩), .int .i32 c, .int .i64 n] w fun e w' => e = .returned (.tuple #[]) ∧ InAt g (W.putI j c n) w' ∧ (∀ q, w'.frozen? ⟨g, q, none⟩ = false) ∧ Below g w w' ∧ ∀ k, k ≠ g → w'.heap[k]? = w.heap[k]? := by
  rcases hc with rfl | rfl | rfl | rfl | rfl | rfl | rfl | rfl
  · exact put_100 g j n w hI hf
  · exact put_49 g j n w hI hf
  · exact put_50 g j n w hI hf
  · exact put_99 g j n w hI hf
  · exact put_105 g j n w hI hf
  · exact put_117 g j n w hI hf
  · exact put_112 g j n w hI hf
  · exact put_115 g j n w hI hf

end Go.Proofs.YtmihcicepgjogaaGreatDoor

/- read of what Print writes. -/
namespace Go.Proofs.YtmihcicepgjogaaGreatDoor
open Go.ChangeShapes Go.WideShapes Go.ChangeAt Go.RowKit
set_option linter.unusedVariables false
set_option linter.unusedSimpArgs false

set_option maxRecDepth 1000000 in
set_option maxHeartbeats 3200000 in
theorem read_text (A : Nat → Addr) (i : W.I) (txt hdn hda nml rest F : List UInt8) (fnd : Bool) (w : World) (hS : Sg A w) (hlen : txt.length ≤ 1000) (hlen2 : hdn.length ≤ 1000) (hlen3 : hda.length ≤ 1000)
    (HC : Hid (Lib.cut txt [32] = (hdn, rest, fnd))) (H1 : Hid (Lib.trimSuffix hdn [46, 114, 108] = hda)) (H2 : Hid (Lib.hasSuffix hdn [46, 114, 108] = i.rl)) (H3 : Hid (Lib.trimSuffix hda [46, 97, 113] = nml)) (H4 : Hid (Lib.hasSuffix hda [46, 97, 113] = i.aq)) (H5 : Hid (max 0 (W.fidx nml 0 70) = i.op)) (H6 : Hid (W.form i.op = F)) (HR : Hid (W.InR i)) (HO : Hid (W.okForm F = true)) (HQ : Hid (∀ pos (h : pos < F.length), W.btw F[pos].toNat = false → F.drop (pos + 1) = [] ∨ ∃ c t, F.drop (pos + 1) = c :: t ∧ W.btw c.toNat = true)) (HP : W.putAll i ⟨i.op, 0, 0, 0, 0, 0, i.aq, i.rl⟩ F = i) (HE : 0 < F.length → W.restL i F = rest) :
    Calls Tryz.prog 35 #[.string ⟨txt.toArray⟩] w fun e w' => e = .returned (inV i) ∧ Below w.heap.size w w' := by
  have HS : Hid (Sg A w) := hS
  obtain ⟨mx, hmx⟩ := hS.maxl
  have HM : Hid (∀ o p, ((w.alloc o).alloc p).cell? ⟨5, 0, none⟩ = some (.int .i64 mx)) := (fun o p => ((((Below.refl w.heap.size w).alloc (Nat.le_refl _) o).alloc (by simp) p).cell (World.block_lt_of_cell? _ _ hmx)).trans hmx : ∀ o p, _)
  clear hS hmx
  go_enter Tryz.func35, Tryz.ntmps35
  go_wp2_with (first
    | (go_at_call 63; refine (Tryz.strings_Cut _ _ mx _ (by show txt.toArray.size < _; simp; omega) (HM.out _ _)).mono ?_; rintro e w' ⟨rfl, nd, rfl⟩; rw [show Lib.cut _ _ = (hdn, rest, fnd) from HC.out])
    | (go_at_call_of 64 (Value.string ⟨hdn.toArray⟩); refine (Tryz.strings_CutSuffix _ _ _ (by show hdn.toArray.size ≤ _; simp; omega)).mono ?_; rintro e w' ⟨rfl, rfl⟩; rw [show Lib.trimSuffix _ _ = hda from H1.out, show Lib.hasSuffix _ _ = i.rl from H2.out])
    | (go_at_call_of 64 (Value.string ⟨hda.toArray⟩); refine (Tryz.strings_CutSuffix _ _ _ (by show hda.toArray.size ≤ _; simp; omega)).mono ?_; rintro e w' ⟨rfl, rfl⟩; rw [show Lib.trimSuffix _ _ = nml from H3.out, show Lib.hasSuffix _ _ = i.aq from H4.out])
    | (go_at_call 65; refine (op_any _ _).mono ?_; rintro e w3 ⟨rfl, hm⟩; have T3 : Hid (Rx A _ w w3) := (Rx.start HS.out _ nd i.aq i.rl).call hm; clear hm; rw [H5.out]; obtain ⟨z0, z1, z2, z3, z4, z5, z6, z7⟩ := T3.out.inst; have fz3 := T3.out.froz; have lt3 := T3.out.lt)
    | (go_at_call 55; refine (form_any _ _).mono ?_; rintro e wn ⟨rfl, hm⟩; have T4 : Hid (Rx A _ w wn) := (T3.out.setop i.op).call hm; clear hm; rw [H6.out]))
  have hlT := T4.out.lt
  clear z0 z1 z2 z3 z4 z5 z6 z7 fz3
  go_loopg [5] F.length (fun gf vr wx => ∃ (pos : Nat) (j : W.I) (R : List UInt8), vr = .string ⟨R.toArray⟩ ∧ (pos < F.length → W.restL i (F.drop pos) = R) ∧ wx.heap[wn.heap.size]? = some (.stringIter ⟨F.toArray⟩ pos) ∧ Rx A j w wx ∧ W.putAll i j (F.drop pos) = i ∧ F.length ≤ pos + gf)
  case atStart => exact ⟨0, _, rest, rfl, fun h => by simpa using HE h, World.iter_heap wn _ 0, T4.out.call ((Below.refl _ _).alloc (Nat.le_refl _) _), by simpa using HP, by omega⟩
  case round =>
    obtain ⟨pos, j, R, rfl, hR, hit, hT, hA, hfu⟩ := hrel
    clear T4 HE HP
    by_cases hp : pos < F.length
    · obtain ⟨g', rfl⟩ : ∃ g', gk = g' + 1 := ⟨gk - 1, by omega⟩
      have hR := hR hp
      have hcok : W.okC F[pos] = true := by
        have := HO.out
        simp [W.okForm] at this
        exact this.1 _ (List.getElem_mem hp)
      have hasc := okC_lo _ hcok
      have hnx : ∀ ty, (Instr.next (.pointer (some ⟨wn.heap.size, 0, none⟩)) true ty).run Tryz.prog wr = _ := fun ty => Lib.run_next_ascii_at wr wn.heap.size ⟨F.toArray⟩ pos ty hit hp hasc
      have hit2 := Lib.iterAt_heap wr wn.heap.size ⟨F.toArray⟩ pos (pos + 1) hit
      have hT2 := hT.iter hit (by omega) (pos + 1)
      have hsq := HQ.out pos hp
      rw [rest_cons i F pos hp] at hR
      rw [List.drop_eq_getElem_cons hp] at hA
      have hcp := okC_part F[pos] hcok
      obtain ⟨c, hc⟩ : ∃ c, F[pos] = c := ⟨_, rfl⟩
      have hc' : ((⟨F.toArray⟩ : ByteArray)[pos]'hp) = c := hc
      rw [hc] at hA hR hcok hasc hcp hsq
      rw [hc'] at hnx
      obtain ⟨R', hR'⟩ : ∃ R', W.restL i (F.drop (pos + 1)) = R' := ⟨_, rfl⟩
      rw [hR'] at hR
      obtain ⟨W1, hW⟩ : ∃ W1, wr.iterAt wn.heap.size ⟨F.toArray⟩ (pos + 1) = W1 := ⟨_, rfl⟩
      rw [hW] at hnx hit2 hT2
      have HT2 : Hid (Rx A j w W1) := hT2
      have HI2 : Hid (W1.heap[wn.heap.size]? = some (.stringIter ⟨F.toArray⟩ (pos + 1))) := hit2
      have hen := enc_lo c hasc
      clear hT2 hit2 hT hit
      cases hb : W.btw c.toNat
      · rw [hb, cond_false] at hR
        have hcc := hcp hb
        obtain ⟨P, hP⟩ : ∃ P, W.partL i c.toNat = P := ⟨_, rfl⟩
        have hpl : plainL P := hP ▸ part_plain i c.toNat hcc
        rw [hP] at hR
        have HPe : Hid (W.pend R = (P.length : Int)) := by
          have : W.pend R = (P.length : Int) := by
            rw [← hR]
            rcases hsq hb with he | ⟨c', t', he, hb'⟩
            · have e : R' = [] := by rw [← hR', he]; rfl
              rw [e, List.append_nil]
              exact pend_end P hpl
            · have hm' : W.okC c' = true := by
                have := HO.out
                simp [W.okForm] at this
                exact this.1 _ (List.mem_of_mem_drop (by rw [he]; simp))
              have e : ∃ t, R' = c' :: t := by rw [← hR', he]; simp [W.restL, hb']
              obtain ⟨t, e⟩ := e
              rw [e]
              exact pend_at P c' t hpl (okC_lo _ hm') hb'
          exact this
        have hle : (P.length : Int) ≤ (R.length : Int) := by rw [← hR]; simp; omega
        have hp0 : (0 : Int) ≤ (P.length : Int) := by omega
        have hx1 : (⟨R.toArray⟩ : ByteArray).extract 0 P.length = ⟨P.toArray⟩ := by
          rw [ba_extract, ← hR]
          simp
        have hx2 : (⟨R.toArray⟩ : ByteArray).extract P.length R.length = ⟨R'.toArray⟩ := by
          rw [ba_extract, ← hR]
          simp
        have HNm : Hid (∀ w : World, Calls Tryz.prog 69 #[.string ⟨P.toArray⟩] w fun e w' => e = .returned (.int .i64 (W.partV i c.toNat)) ∧ Below w.heap.size w w') := (fun w => hP ▸ number_part i HR.out c.toNat hcc w : ∀ w : World, _)
        have HA : Hid (W.putAll i (W.putI j c.toNat (W.partV i c.toNat)) (F.drop (pos + 1)) = i) := by
          have h := hA
          simp only [W.putAll, hb, cond_false] at h
          exact h
        generalize W.partV i c.toNat = n at HNm HA
        clear hA hsq hpl
        go_wp2_with (first
          | (go_at_call 57; refine (between_any c.toNat _).mono ?_; rintro e wa ⟨rfl, hm⟩; rw [hb]; have T3 : Hid (Rx A j w wa) := HT2.out.call hm; have I3 : Hid (wa.heap[wn.heap.size]? = some (.stringIter ⟨F.toArray⟩ (pos + 1))) := (hm.block _ (Array.getElem?_eq_some_iff.1 HI2.out).1).trans HI2.out; clear hm)
          | (go_at_call 67; refine (partEnd_any _ _).mono ?_; rintro e wb ⟨rfl, hm⟩; rw [HPe.out]; have T4 : Hid (Rx A j w wb) := T3.out.call hm; have I4 : Hid (wb.heap[wn.heap.size]? = some (.stringIter ⟨F.toArray⟩ (pos + 1))) := (hm.block _ (Array.getElem?_eq_some_iff.1 I3.out).1).trans I3.out; clear hm)
          | (go_at_call 69; refine (HNm.out _).mono ?_; rintro e wc ⟨rfl, hm⟩; have T5 : Hid (Rx A j w wc) := T4.out.call hm; have I5 : Hid (wc.heap[wn.heap.size]? = some (.stringIter ⟨F.toArray⟩ (pos + 1))) := (hm.block _ (Array.getElem?_eq_some_iff.1 I4.out).1).trans I4.out; clear hm)
          | (go_at_call 68; refine (put_any (w.heap.size + 1) j c.toNat hcc n _ T5.out.inst T5.out.froz).mono ?_; rintro e wd ⟨rfl, hi6, hf6, hm, ho6⟩; have T6 : Hid (Rx A (W.putI j c.toNat n) w wd) := T5.out.put hi6 hf6 hm; have I6 : Hid (wd.heap[wn.heap.size]? = some (.stringIter ⟨F.toArray⟩ (pos + 1))) := (ho6 _ (by omega)).trans I5.out; clear hi6 hf6 hm ho6))
        go_roundg g'
        case measure => omega
        case rel => exact ⟨pos + 1, W.putI j c.toNat n, R', rfl, fun _ => hR', I6.out, T6.out, HA.out, by omega⟩
      · rw [hb, cond_true] at hR
        have HTr : Hid (Lib.trimPrefix R [c] = R') := by
          have : Lib.trimPrefix R [c] = R' := by rw [← hR]; simp [Lib.trimPrefix, Lib.hasPrefix, List.isPrefixOf]
          exact this
        go_wp2_with (first
          | (go_at_call 57; refine (between_any c.toNat _).mono ?_; rintro e wa ⟨rfl, hm⟩; rw [hb]; have T3 : Hid (Rx A j w wa) := HT2.out.call hm; have I3 : Hid (wa.heap[wn.heap.size]? = some (.stringIter ⟨F.toArray⟩ (pos + 1))) := (hm.block _ (Array.getElem?_eq_some_iff.1 HI2.out).1).trans HI2.out; clear hm; have lt3' := T3.out.lt)
          | (go_at_call 66; refine (Tryz.strings_TrimPrefix _ _ _).mono ?_; rintro e w' ⟨rfl, rfl⟩; rw [show Lib.trimPrefix _ _ = R' from HTr.out]))
        go_roundg g'
        case measure => omega
        case rel => exact ⟨pos + 1, j, R', rfl, fun _ => hR', I3.out, T3.out, by have h := hA; simp only [W.putAll, hb, cond_true] at h; exact h, by omega⟩
    · have hnx : ∀ ty, (Instr.next (.pointer (some ⟨wn.heap.size, 0, none⟩)) true ty).run Tryz.prog wr = _ := fun ty => Lib.run_next_end_at wr wn.heap.size ⟨F.toArray⟩ pos ty hit hp
      rw [List.drop_eq_nil_of_le (by omega)] at hA
      have hji : j = i := hA
      subst hji
      have HTe : Hid (Rx A j w wr) := hT
      have hltw := hT.lt
      obtain ⟨z0, z1, z2, z3, z4, z5, z6, z7⟩ := hT.inst
      obtain ⟨v0, v1, v2, v3, v4, v5, v6, v7, r0, r1, r2, r3, r4, r5, r6, r7, r8⟩ := hT.room.eight
      clear hT
      go_wp2
      refine bodyPost_ret (v := inV j) ?_ rfl ⟨rfl, ?_⟩
      · simp [results, Tryz.results35, go_sem, inV, r0, r1, r2, r3, r4, r5, r6, r7]
      · exact (((((((((HTe.out.bel.setCell (Nat.le_refl _) _).setCell (Nat.le_refl _) _).setCell (Nat.le_refl _) _).setCell (Nat.le_refl _) _).setCell (Nat.le_refl _) _).setCell (Nat.le_refl _) _).setCell (Nat.le_refl _) _).setCell (Nat.le_refl _) _))
end Go.Proofs.YtmihcicepgjogaaGreatDoor

/- read and Parse of a text that Print writes. -/
namespace Go.Proofs.YtmihcicepgjogaaGreatDoor
open Go.ChangeShapes Go.WideShapes Go.ChangeAt Go.RowKit
set_option linter.unusedVariables false
set_option linter.unusedSimpArgs false

namespace W
/-- Behind a part stands a letter between parts, or nothing. -/
def okSeq : List UInt8 → Bool
  | [] => true
  | [_] => true
  | a :: b :: r => (btw a.toNat || btw b.toNat) && okSeq (b :: r)
theorem seqsOk : ((List.range 70).all fun k => okSeq (form ((k : Nat) : Int))) = true := by decide +kernel
theorem okSeq_at : ∀ (F : List UInt8), okSeq F = true → ∀ pos (h : pos < F.length), btw F[pos].toNat = false → F.drop (pos + 1) = [] ∨ ∃ c t, F.drop (pos + 1) = c :: t ∧ btw c.toNat = true
  | [], _, pos, h, _ => absurd h (by simp)
  | [a], _, pos, h, hb => by
    left
    simp at h
    subst h
    rfl
  | a :: b :: r, hs, 0, h, hb => by
    right
    rw [okSeq, Bool.and_eq_true, Bool.or_eq_true] at hs
    have hb' : btw a.toNat = false := hb
    rcases hs.1 with h1 | h1
    · rw [hb'] at h1; cases h1
    · exact ⟨b, r, rfl, h1⟩
  | a :: b :: r, hs, pos + 1, h, hb => by
    rw [okSeq, Bool.and_eq_true] at hs
    exact okSeq_at (b :: r) hs.2 pos (by simpa using h) (by simpa using hb)
theorem head_at (k : Nat) (k1 : 1 ≤ k) (k2 : k ≤ 69) (aq rl : Bool) : (∀ c ∈ nameAt k ++ (bif aq then [46, 97, 113] else []) ++ (bif rl then [46, 114, 108] else []), c ≠ 32) ∧ Lib.trimSuffix (nameAt k ++ (bif aq then [46, 97, 113] else []) ++ (bif rl then [46, 114, 108] else [])) [46, 114, 108] = nameAt k ++ (bif aq then [46, 97, 113] else []) ∧ Lib.hasSuffix (nameAt k ++ (bif aq then [46, 97, 113] else []) ++ (bif rl then [46, 114, 108] else [])) [46, 114, 108] = rl ∧ Lib.trimSuffix (nameAt k ++ (bif aq then [46, 97, 113] else [])) [46, 97, 113] = nameAt k ∧ Lib.hasSuffix (nameAt k ++ (bif aq then [46, 97, 113] else [])) [46, 97, 113] = aq ∧ fidx (nameAt k) 0 70 = (k : Int) := by
  have h := List.all_eq_true.1 headsOk k (List.mem_range.2 (by omega))
  have hk0 : (k == 0) = false := by simp; omega
  rw [hk0, Bool.false_or, headOk] at h
  have h := List.all_eq_true.1 (List.all_eq_true.1 h aq (by cases aq <;> simp)) rl (by cases rl <;> simp)
  simp only [Bool.and_eq_true, beq_iff_eq, Bool.not_eq_true'] at h
  obtain ⟨⟨⟨⟨⟨a, b⟩, c⟩, d⟩, e⟩, f⟩ := h
  refine ⟨fun x hx hx2 => ?_, b, c, d, e, f⟩
  rw [hx2] at hx
  rw [← List.contains_iff_mem, a] at hx
  cases hx
end W

theorem read_ok (A : Nat → Addr) (i : W.I) (m0 : 0 ≤ i.imm) (m1 : i.imm < 4294967296) (he : W.encE i = 0) (hlen : (W.textL i).length ≤ 1000) (w : World) (hS : Sg A w) : Calls Tryz.prog 35 #[.string ⟨(W.textL i).toArray⟩] w fun e w' => e = .returned (inV i) ∧ Below w.heap.size w w' := by
  obtain ⟨h1, h2, h3, h4⟩ := W.encE_zero he
  obtain ⟨k, ho, k1, k2⟩ := W.known_nat h1
  have hr := W.inR_of h3
  obtain ⟨a, b, c, d, e, f⟩ := W.head_at k k1 k2 i.aq i.rl
  have hnm : W.nm i.op = W.nameAt k := by rw [W.nm, h1, ho]; rfl
  have hsq := List.all_eq_true.1 W.seqsOk k (List.mem_range.2 (by omega))
  rw [← ho] at hsq
  have hnl := nm_len i.op
  rw [hnm] at hnl
  have hq : ∀ x : Bool, (bif x then ([46, 97, 113] : List UInt8) else []).length ≤ 3 := fun x => by cases x <;> decide
  have hq2 : ∀ x : Bool, (bif x then ([46, 114, 108] : List UInt8) else []).length ≤ 3 := fun x => by cases x <;> decide
  have hq1 := hq i.aq
  have hq3 := hq2 i.rl
  have htx : W.textL i = (W.nameAt k ++ (bif i.aq then [46, 97, 113] else []) ++ (bif i.rl then [46, 114, 108] else [])) ++ (W.spL (W.form i.op) ++ W.restL i (W.form i.op)) := by
    rw [W.textL, hnm, W.aqL, W.rlL]
    simp
  have hcut : ∃ fnd, Lib.cut (W.textL i) [32] = (W.nameAt k ++ (bif i.aq then [46, 97, 113] else []) ++ (bif i.rl then [46, 114, 108] else []), W.restL i (W.form i.op), fnd) := by
    rw [htx]
    cases hF : W.form i.op with
    | nil => exact ⟨false, by simpa [W.spL, W.restL] using cut_no _ a⟩
    | cons x r => exact ⟨true, cut_at _ _ a⟩
  obtain ⟨fnd, hcut⟩ := hcut
  exact read_text A i (W.textL i) _ _ _ _ _ fnd w hS hlen (by simp; omega) (by simp; omega) hcut b c d e (by show max 0 (W.fidx (W.nameAt k) 0 70) = i.op; rw [f, ho]; omega) rfl hr (W.form_ok i.op) (W.okSeq_at _ hsq) (W.put_form i m0 m1 he) (fun _ => rfl)
end Go.Proofs.YtmihcicepgjogaaGreatDoor

/- Parse of a text that Print writes. -/
namespace Go.Proofs.YtmihcicepgjogaaGreatDoor
open Go.ChangeShapes Go.WideShapes Go.ChangeAt Go.RowKit
set_option linter.unusedVariables false
set_option linter.unusedSimpArgs false

theorem rest_len (i : W.I) (hr : W.InR i) : ∀ F : List UInt8, F.all W.okC = true → (W.restL i F).length ≤ 22 * F.length
  | [], _ => by simp [W.restL]
  | c :: r, h => by
    rw [List.all_cons, Bool.and_eq_true] at h
    have ih := rest_len i hr r h.2
    have e : W.restL i (c :: r) = (bif W.btw c.toNat then [c] else W.partL i c.toNat) ++ W.restL i r := rfl
    rw [e, List.length_append]
    cases hb : W.btw c.toNat
    · have := part_len i hr c.toNat (okC_part c h.1 hb)
      simp only [cond_false, List.length_cons]
      omega
    · simp only [cond_true, List.length_cons, List.length_nil]
      omega
theorem text_len (i : W.I) (hr : W.InR i) : (W.textL i).length ≤ 1000 := by
  have h1 := nm_len i.op
  have hok := W.form_ok i.op
  rw [W.okForm, Bool.and_eq_true, decide_eq_true_eq] at hok
  have h2 := rest_len i hr (W.form i.op) hok.1
  have h3 : (W.aqL i).length ≤ 3 := by unfold W.aqL; cases i.aq <;> decide
  have h4 : (W.rlL i).length ≤ 3 := by unfold W.rlL; cases i.rl <;> decide
  have h5 : (W.spL (W.form i.op)).length ≤ 1 := by unfold W.spL; cases (W.form i.op).isEmpty <;> decide
  have h6 := hok.2
  simp only [W.textL, List.length_append]
  omega

set_option maxRecDepth 1000000 in
set_option maxHeartbeats 3200000 in
theorem parse_ok (A : Nat → Addr) (i : W.I) (m0 : 0 ≤ i.imm) (m1 : i.imm < 4294967296) (he : W.encE i = 0) (w : World) (hS : Sg A w) : Calls Tryz.prog 12 #[.string ⟨(W.textL i).toArray⟩] w fun e w' => e = .returned (.tuple #[inV i, .nilIface]) ∧ Below w.heap.size w w' := by
  have HRd : Hid (∀ w : World, Sg A w → Calls Tryz.prog 35 #[.string ⟨(W.textL i).toArray⟩] w fun e w' => e = .returned (inV i) ∧ Below w.heap.size w w') := fun w h => read_ok A i m0 m1 he (text_len i (W.inR_of (W.encE_zero he).2.2.1)) w h
  have HPr : Hid (∀ w : World, Sg A w → Calls Tryz.prog 9 #[inV i] w fun e w' => e = .returned (.tuple #[.string ⟨(W.textL i).toArray⟩, .nilIface]) ∧ Below w.heap.size w w') := fun w h => print_ok A i _ w h he rfl
  have HS : Hid (Sg A w) := hS
  generalize W.textL i = T at HRd HPr
  clear hS he m0 m1
  go_enter Tryz.func12, Tryz.ntmps12
  go_wp2_with (first
    | (go_at_call 35; refine (HRd.out _ (HS.out.below ((Below.refl _ _).alloc (Nat.le_refl _) _))).mono ?_; rintro e w1 ⟨rfl, hm⟩; have R1 : Hid (Room w.heap.size 8 w1) := ⟨_, _, (hm.block _ (by simp)).trans (heap_alloc_last w _), rfl⟩; have B1 : Hid (Below w.heap.size w w1) := ((Below.refl _ _).alloc (Nat.le_refl _) _).trans (hm.mono (by simp)); have lt1 : w.heap.size < w1.heap.size := (by have := hm.size; simp at this; omega); clear hm; unfold inV)
    | (go_at_call 9; refine (HPr.out _ (HS.out.below (B1.out.alloc B1.out.size _))).mono ?_; rintro e w2 ⟨rfl, hm⟩; obtain ⟨z0, z1, z2, z3, z4, z5, z6, z7⟩ := (InAt.start w1 i _).below hm; have B2 : Hid (Below w.heap.size w w2) := (B1.out.alloc B1.out.size _).trans (hm.mono (by simp; omega)); have lt2 : w1.heap.size < w2.heap.size := (by have := hm.size; simp at this; omega); obtain ⟨v0, v1, v2, v3, v4, v5, v6, v7, r0, r1, r2, r3, r4, r5, r6, r7, r8⟩ := ((R1.out.below ((Below.refl _ _).alloc (Nat.le_refl _) _) lt1).below hm (by simp; omega)).eight; clear hm))
  refine bodyPost_ret (v := .tuple #[inV i, .nilIface]) ?_ rfl ⟨rfl, ?_⟩
  · simp [results, Tryz.results12, go_sem, inV, r0, r1, r2, r3, r4, r5, r6, r7]
  · exact (((((((((B2.out.setCell (Nat.le_refl _) _).setCell (Nat.le_refl _) _).setCell (Nat.le_refl _) _).setCell (Nat.le_refl _) _).setCell (Nat.le_refl _) _).setCell (Nat.le_refl _) _).setCell (Nat.le_refl _) _).setCell (Nat.le_refl _) _))

set_option maxRecDepth 1000000 in
set_option maxHeartbeats 3200000 in
/-- Parse of a text that is read as something without a word. -/
theorem parse_none (A : Nat → Addr) (i : W.I) (T : List UInt8) (n : Nat) (v : Int) (he : Hid (W.encE i = n + 1)) (hv : Hid (W.encV i = v)) (HRd : Hid (∀ w : World, Sg A w → Calls Tryz.prog 35 #[.string ⟨T.toArray⟩] w fun e w' => e = .returned (inV i) ∧ Below w.heap.size w w')) (w : World) (hS : Sg A w) : Calls Tryz.prog 12 #[.string ⟨T.toArray⟩] w fun e w' => e = .returned (.tuple #[inV ⟨0, 0, 0, 0, 0, 0, false, false⟩, errV A 6]) ∧ Below w.heap.size w w' := by
  have HPr : Hid (∀ w : World, Sg A w → Calls Tryz.prog 9 #[inV i] w fun e w' => e = .returned (.tuple #[.string ⟨#[]⟩, .iface 194 (.pointer (some (A n)))]) ∧ Below w.heap.size w w') := fun w h => print_no A i v n w h he hv
  have HS : Hid (Sg A w) := hS
  clear hS he hv
  go_enter Tryz.func12, Tryz.ntmps12
  go_wp2_with (first
    | (go_at_call 35; refine (HRd.out _ (HS.out.below ((Below.refl _ _).alloc (Nat.le_refl _) _))).mono ?_; rintro e w1 ⟨rfl, hm⟩; have R1 : Hid (Room w.heap.size 8 w1) := ⟨_, _, (hm.block _ (by simp)).trans (heap_alloc_last w _), rfl⟩; have B1 : Hid (Below w.heap.size w w1) := ((Below.refl _ _).alloc (Nat.le_refl _) _).trans (hm.mono (by simp)); have lt1 : w.heap.size < w1.heap.size := (by have := hm.size; simp at this; omega); clear hm; unfold inV)
    | (go_at_call 9; refine (HPr.out _ (HS.out.below (B1.out.alloc B1.out.size _))).mono ?_; rintro e w2 ⟨rfl, hm⟩; have B2 : Hid (Below w.heap.size w w2) := (B1.out.alloc B1.out.size _).trans (hm.mono (by simp; omega)); have lt2 : w1.heap.size < w2.heap.size := (by have := hm.size; simp at this; omega); obtain ⟨v0, v1, v2, v3, v4, v5, v6, v7, r0, r1, r2, r3, r4, r5, r6, r7, r8⟩ := ((R1.out.below ((Below.refl _ _).alloc (Nat.le_refl _) _) lt1).below hm (by simp; omega)).eight; clear hm; have c5 : w2.cell? ⟨0, 0, none⟩ = some _ := (HS.out.below B2.out).sent.cell 5 (by omega); have g5 := World.block_lt_of_cell? _ _ (HS.out.sent.cell 5 (by omega))))
  first
  | go_region
  | go_region_with (fail)
  all_goals
    go_wp2
    refine bodyPost_ret (v := .tuple #[inV ⟨0, 0, 0, 0, 0, 0, false, false⟩, errV A 6]) ?_ rfl ⟨rfl, ?_⟩
    · simp [results, Tryz.results12, go_sem, inV, errV, r0, r1, r2, r3, r4, r5, r6, r7]
    · exact (((((((((B2.out.setCell (Nat.le_refl _) _).setCell (Nat.le_refl _) _).setCell (Nat.le_refl _) _).setCell (Nat.le_refl _) _).setCell (Nat.le_refl _) _).setCell (Nat.le_refl _) _).setCell (Nat.le_refl _) _).setCell (Nat.le_refl _) _)).drew

/-- Parse of a word that is no instruction, as a line. -/
theorem parse_word (A : Nat → Addr) (x : Nat) (w : World) (hS : Sg A w) : Calls Tryz.prog 12 #[.string ⟨([46, 119, 111, 114, 100, 32] ++ (48 :: 120 :: W.hexL x 8)).toArray⟩] w fun e w' => e = .returned (.tuple #[inV ⟨0, 0, 0, 0, 0, 0, false, false⟩, errV A 6]) ∧ Below w.heap.size w w' := by
  have hl : (W.hexL x 8).length = 8 := by simp [W.hexL]
  have hc : Lib.cut ([46, 119, 111, 114, 100, 32] ++ (48 :: 120 :: W.hexL x 8)) [32] = ([46, 119, 111, 114, 100], 48 :: 120 :: W.hexL x 8, true) := cut_at [46, 119, 111, 114, 100] (48 :: 120 :: W.hexL x 8) (by decide)
  refine parse_none A ⟨0, 0, 0, 0, 0, 0, false, false⟩ _ 0 0 (by show W.encE _ = 0 + 1; decide) (by show W.encV _ = 0; decide) (fun w h => ?_) w hS
  exact read_text A ⟨0, 0, 0, 0, 0, 0, false, false⟩ _ _ [46, 119, 111, 114, 100] [46, 119, 111, 114, 100] _ [] true w h (by simp; omega) (by decide) (by decide) hc (by show Lib.trimSuffix _ _ = _; decide) (by show Lib.hasSuffix _ _ = false; decide) (by show Lib.trimSuffix _ _ = _; decide) (by show Lib.hasSuffix _ _ = false; decide) (by show max 0 (W.fidx _ 0 70) = 0; decide +kernel) (by show W.form 0 = []; decide +kernel) ⟨by decide, by decide, by decide, by decide, by decide, by decide, by decide, by decide⟩ (by show W.okForm [] = true; decide) (fun pos h => absurd h (by simp)) rfl (fun h => absurd h (by simp))
end Go.Proofs.YtmihcicepgjogaaGreatDoor
