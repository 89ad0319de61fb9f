/- Texts in one: AsmLz, AsmRaw, AsmBackA, AsmBackB, Laid5. -/
import Derived.Deep.RegionHeld3
import Derived.LaidLaws
import Derived.LaidMore
import Derived.Lib.LaidTab
import Derived.Shelf.Vars
import Derived.Lay
import Derived.HandedShaped
import Derived.Stop.LaidErr
import Derived.Stop.Joined
import Derived.Stop.ErrReads
import Derived.RowKitTokens
import Derived.Test.YtbndaiombnikfaaGreatDoorJ16
import Derived.Test.YtbndaiombnikfaaGreatDoorJ18
import Derived.Test.YtbndaiombnikfaaGreatDoorJ32
import Derived.Test.YtbndaiombnikfaaGreatDoorJ33
/- Lines of no words. -/
namespace Go.Proofs.YtbndaiombnikfaaGreatDoor
open Go.ChangeShapes Go.WideShapes Go.ChangeAt Go.RowKit
set_option linter.unusedVariables false
set_option linter.unusedSimpArgs false

theorem lines_zero (a : Option Addr) (cap : Nat) (w : World) : Calls Tryz.prog 16 #[.slice a 0 cap] w fun e w' => e = .returned (.slice (some ⟨w.heap.size, 0, none⟩) 0 0) ∧ Below w.heap.size w w' ∧ w.heap.size < w'.heap.size := by
  obtain ⟨i0, hi, hz0, hz1, hz2⟩ := info_parts infoStr
  go_enter Tryz.func16, Tryz.ntmps16
  go_wp2_with (at_make; refine wpList_make_own _ rfl _ _ 41 rfl w.heap.size 9 i0 (.string ⟨#[]⟩) 1 Tryz.underlying41 hi hz0 hz1 .i64 .i64 _ 0 rfl rfl rfl (by rw [hz2]; omega) (by unfold maxLen; omega) (Nat.le_refl _) ?_; intro w0 hown0 hg0)
  have hb0 : Below w.heap.size w w0 := (Below.refl _ _).grown hg0 (Nat.le_refl _) (fun k hk => by cases hk)
  have hlt := (hown0.lt w.heap.size rfl).2
  clear hown0 hg0
  go_loopw [3, 11] (fun v i wr => v = .slice (some ⟨w.heap.size, 0, none⟩) 0 0 ∧ i = .int .i64 0 ∧ wr = w0) (fun _ _ _ => 0)
  case atStart => exact ⟨rfl, rfl, rfl⟩
  case round =>
    obtain ⟨rfl, rfl, rfl⟩ := hrel
    go_wp2
    go_ret
    exact ⟨rfl, hb0, hlt⟩
end Go.Proofs.YtbndaiombnikfaaGreatDoor

/- The document's hexadecimal digits. -/
namespace Go.Proofs.YtbndaiombnikfaaGreatDoor
open Go.ChangeShapes Go.WideShapes Go.ChangeAt Go.RowKit
set_option linter.unusedVariables false
set_option linter.unusedSimpArgs false

theorem pow16 (r : Nat) : (2 : Nat) ^ (4 * r) = 16 ^ r := by rw [Nat.pow_mul]
theorem hexL_step (x n k : Nat) (h : k < n) : W.hexL (x / 16 ^ (n - (k + 1))) (k + 1) = W.hexL (x / 16 ^ (n - k)) k ++ [W.hd (x / 16 ^ (n - (k + 1)) % 16)] := by
  have e : x / 16 ^ (n - (k + 1)) / 16 = x / 16 ^ (n - k) := by
    rw [Nat.div_div_eq_div_mul, ← Nat.pow_succ]
    congr 2
    omega
  rw [W.hexL, e]

theorem hexL_len2 (n : Nat) : ∀ x, (W.hexL x n).length = n := by
  induction n with
  | zero => intro x; rfl
  | succ n ih => intro x; rw [W.hexL, List.length_append, ih]; rfl
theorem sixteen (d : Nat) (h : d < 16) : d = 0 ∨ d = 1 ∨ d = 2 ∨ d = 3 ∨ d = 4 ∨ d = 5 ∨ d = 6 ∨ d = 7 ∨ d = 8 ∨ d = 9 ∨ d = 10 ∨ d = 11 ∨ d = 12 ∨ d = 13 ∨ d = 14 ∨ d = 15 := by omega
theorem slice_hex (d : Nat) (h : d < 16) (w : World) : (Instr.slice 9 (.string ⟨#[48, 49, 50, 51, 52, 53, 54, 55, 56, 57, 97, 98, 99, 100, 101, 102]⟩) (some (.int .u32 (d : Int))) (some (.int .u32 ((d : Int) + 1))) none).run Tryz.prog w = .ok (.string ⟨#[W.hd d]⟩) w := by
  rcases sixteen d h with rfl | rfl | rfl | rfl | rfl | rfl | rfl | rfl | rfl | rfl | rfl | rfl | rfl | rfl | rfl | rfl <;> kernel_rfl

set_option maxRecDepth 100000 in
set_option maxHeartbeats 800000 in
theorem rhex_any (x n : Nat) (hx : x < 4294967296) (hn : n ≤ 8) (w : World) : Calls Tryz.prog 34 #[.int .u32 x, .int .i64 n] w fun e w' => e = .returned (.string ⟨(W.hexL x n).toArray⟩) ∧ w = w' := by
  go_enter Tryz.func34, Tryz.ntmps34
  go_wp2
  go_loop [6, 7] (fun s i => ∃ k : Nat, k ≤ n ∧ i = .int .i64 ((n : Int) - 1 - k) ∧ s = .string ⟨(W.hexL (x / 16 ^ (n - k)) k).toArray⟩) (fun _ i => (intOf i + 1).toNat)
  case atStart => exact ⟨0, by omega, by simp, by simp [W.hexL]⟩
  case round =>
    obtain ⟨k, hk, rfl, rfl⟩ := hrel
    by_cases hlt : k < n
    · obtain ⟨d, hd⟩ : ∃ d, x / 16 ^ (n - (k + 1)) % 16 = d := ⟨_, rfl⟩
      have hd16 : d < 16 := by omega
      have hq : bits .and .u32 ((x : Int) / 2 ^ (4 * (n - 1 - k))) 15 = (d : Int) := by
        have e : ((x : Int) / 2 ^ (4 * (n - 1 - k))) = ((x / 16 ^ (n - (k + 1)) : Nat) : Int) := by
          rw [show n - 1 - k = n - (k + 1) by omega, Int.natCast_ediv, ← pow16]
          simp
        have hle : x / 16 ^ (n - (k + 1)) ≤ x := Nat.div_le_self _ _
        rw [e, show (15 : Int) = ((15 : Nat) : Int) from rfl, u32_and_nat _ 15 (by omega) (by decide), show (15 : Nat) = 2 ^ 4 - 1 from rfl, Nat.and_two_pow_sub_one_eq_mod, ← hd]
      have hsl := slice_hex d hd16
      have hlen : (W.hexL (x / 16 ^ (n - k)) k).length ≤ 8 := by rw [hexL_len2]; omega
      have HT : Hid (W.hexL (x / 16 ^ (n - (k + 1))) (k + 1) = W.hexL (x / 16 ^ (n - k)) k ++ [W.hd d]) := by
        have := hexL_step x n k hlt
        rw [hd] at this
        exact this
      clear hd
      go_wp2
      go_round
      case rel =>
        refine ⟨k + 1, by omega, by go_num, ?_⟩
        rw [HT.out]
        exact congrArg Value.string (ba_append _ [W.hd d])
      case measure => simp [intOf]; omega
    · obtain rfl : k = n := by omega
      go_wp2
      go_ret
      exact ⟨rfl, rfl⟩

theorem rhex_8 (x : Nat) (hx : x < 4294967296) (w : World) : Calls Tryz.prog 34 #[.int .u32 x, .int .i64 8] w fun e w' => e = .returned (.string ⟨(W.hexL x 8).toArray⟩) ∧ w = w' := rhex_any x 8 hx (by decide) w

/-- The document's text of a word that is none. -/
theorem raw_any (x : Nat) (hx : x < 4294967296) (w : World) : Calls Tryz.prog 21 #[.int .u32 x] w fun e w' => e = .returned (.string ⟨([46, 119, 111, 114, 100, 32] ++ (48 :: 120 :: W.hexL x 8)).toArray⟩) ∧ w = w' := by
  have ha := ba_append [46, 119, 111, 114, 100, 32, 48, 120] (W.hexL x 8)
  have HA : Hid (_ = _) := ha
  have hlen : (W.hexL x 8).length ≤ 8 := by rw [hexL_len2]; omega
  clear ha
  go_enter Tryz.func21, Tryz.ntmps21
  go_wp2_with (go_at_call 34; refine (rhex_8 x hx _).mono ?_; rintro e w' ⟨rfl, rfl⟩)
  go_ret
  exact ⟨congrArg (fun s => Ending.returned (Value.string s)) HA.out, rfl⟩
end Go.Proofs.YtbndaiombnikfaaGreatDoor

/- AsmBack, where all words are instructions. -/
namespace Go.Proofs.YtbndaiombnikfaaGreatDoor
open Go.ChangeShapes Go.WideShapes Go.ChangeAt Go.RowKit
set_option linter.unusedVariables false
set_option linter.unusedSimpArgs false

theorem line_parses (A : Nat → Addr) (x : Int) (x0 : 0 ≤ x) (x1 : x < 4294967296) (hb : W.decB x = true) : Parses A (W.lineL x) (W.decI x) 0 := fun w hS => parse_line A x x0 x1 hb w hS
theorem line_none (A : Nat → Addr) (x : Int) (x0 : 0 ≤ x) (hb : W.decB x = false) : Parses A (W.lineL x) ⟨0, 0, 0, 0, 0, 0, false, false⟩ 6 := fun w hS => parse_line_no A x x0 hb w hS

set_option maxRecDepth 100000 in
set_option maxHeartbeats 3200000 in
theorem back_all (A : Nat → Addr) (b off n cap : Nat) (X : Nat → Int) (w : World) (hS : Sg A w) (hn : n ≤ 100) (hbB : b < w.heap.size) (hX : ∀ j, j < n → 0 ≤ X j ∧ X j < 4294967296)
    (hc : ∀ j, j < n → w.cell? ⟨b, off + j, none⟩ = some (.int .u32 (X j))) (hD : ∀ j, j < n → W.decB (X j) = true) :
    Calls Tryz.prog 4 #[.slice (some ⟨b, off, none⟩) n cap] w fun e w' => e = .returned (.bool true) ∧ Below w.heap.size w w' := by
  have HS : Hid (Sg A w) := hS
  have HX : Hid (∀ j, j < n → 0 ≤ X j ∧ X j < 4294967296) := hX
  have HC : Hid (∀ j, j < n → w.cell? ⟨b, off + j, none⟩ = some (.int .u32 (X j))) := hc
  have HD : Hid (∀ j, j < n → W.decB (X j) = true) := hD
  have hd100 : decide ((100 : Int) < (n : Int)) = false := by simp; omega
  clear hS hX hc hD
  go_enter Tryz.func4, Tryz.ntmps4
  go_wp2_with (go_at_call 8; refine (first5_any A _ HS.out).mono ?_; rintro e w1 ⟨rfl, hb1⟩)
  refine (lines_any A b off n cap X w1 (HS.out.below hb1) (by omega) (Nat.lt_of_lt_of_le hbB hb1.size) HX.out (fun j hj => (hb1.cell (p := ⟨b, off + j, none⟩) hbB).trans (HC.out j hj))).mono ?_
  rintro e w2 ⟨rfl, hb2, hl2, hs2⟩
  have HL : Hid (∀ j, j < n → w2.cell? ⟨w1.heap.size, 0 + j, none⟩ = some (.string ⟨(W.lineL (X j)).toArray⟩)) := fun j hj => by rw [Nat.zero_add]; exact hl2 j hj
  have hbl2 : Below w.heap.size w w2 := hb1.trans (hb2.mono hb1.size)
  clear hl2
  go_wp2_with fail
  refine (prog_ok A w1.heap.size 0 n n (fun j => W.lineL (X j)) (fun j => W.decI (X j)) w2 (HS.out.below hbl2) (by omega) hs2 (fun j hj => line_parses A _ (HX.out j hj).1 (HX.out j hj).2 (HD.out j hj)) (fun j hj => (W.enc_dec (HX.out j hj).1 (HX.out j hj).2 (HD.out j hj)).1) HL.out).mono ?_
  rintro e w3 ⟨rfl, hb3, hw3, hs3⟩
  have HW : Hid (∀ j, j < n → w3.cell? ⟨w2.heap.size, 0 + j, none⟩ = some (.int .u32 (X j))) := fun j hj => by
    rw [Nat.zero_add, hw3 j hj, wordV, (W.enc_dec (HX.out j hj).1 (HX.out j hj).2 (HD.out j hj)).2]
  have hbl3 : Below w.heap.size w w3 := hbl2.trans (hb3.mono hbl2.size)
  clear hw3
  go_wp2_with fail
  go_loopw [7] (fun i wr => ∃ k : Nat, k ≤ n ∧ i = .int .i64 k ∧ Below w3.heap.size w3 wr) (fun i _ => n - (intOf i).toNat)
  case atStart => exact ⟨0, by omega, rfl, Below.refl _ _⟩
  case round =>
    obtain ⟨k, hk, rfl, hbl⟩ := hrel
    have hblk : Below w.heap.size w wr := hbl3.trans (hbl.mono hbl3.size)
    by_cases hlt : k < n
    · have g0 : wr.cell? ⟨b, off + k, none⟩ = some (.int .u32 (X k)) := (hblk.cell (p := ⟨b, off + k, none⟩) hbB).trans (HC.out k hlt)
      have x0 := (HX.out k hlt).1
      have x1 := (HX.out k hlt).2
      have HDk : Hid (W.decB (X k) = true) := HD.out k hlt
      generalize X k = x at *
      generalize hI : W.decI x = i
      have HI : Hid (W.decI x = i) := hI
      clear hI
      go_wp2_with (go_at_call 18; refine (rdec_any x _ x0 x1).mono ?_; rintro e w4 ⟨rfl, hb4⟩; rw [HDk.out, HI.out]; unfold inV)
      go_roundw
      case rel => exact ⟨k + 1, by omega, by go_num, (hbl.trans (hb4.mono hbl.size)).alloc (by have := hbl.size; have := hb4.size; omega) _⟩
      case measure => simp [intOf]; omega
    · go_wp2_with fail
      refine (sameWords_any w2.heap.size 0 b off n n cap X wr (by omega) (fun j hj => (hbl.cell (p := ⟨w2.heap.size, 0 + j, none⟩) hs3).trans (HW.out j hj)) (fun j hj => (hblk.cell (p := ⟨b, off + j, none⟩) hbB).trans (HC.out j hj))).mono ?_
      rintro e w5 ⟨rfl, hb5⟩
      go_wp2
      go_ret
      exact ⟨rfl, hblk.trans (hb5.mono hblk.size)⟩
end Go.Proofs.YtbndaiombnikfaaGreatDoor

/- AsmBack, where a word is none. -/
namespace Go.Proofs.YtbndaiombnikfaaGreatDoor
open Go.ChangeShapes Go.WideShapes Go.ChangeAt Go.RowKit
set_option linter.unusedVariables false
set_option linter.unusedSimpArgs false

set_option maxRecDepth 100000 in
set_option maxHeartbeats 3200000 in
theorem back_bad (A : Nat → Addr) (b off n cap m : Nat) (X : Nat → Int) (w : World) (hS : Sg A w) (hn : n ≤ 100) (hbB : b < w.heap.size) (hX : ∀ j, j < n → 0 ≤ X j ∧ X j < 4294967296)
    (hc : ∀ j, j < n → w.cell? ⟨b, off + j, none⟩ = some (.int .u32 (X j))) (hm : m < n) (hD : ∀ j, j < m → W.decB (X j) = true) (hM : W.decB (X m) = false) :
    Calls Tryz.prog 4 #[.slice (some ⟨b, off, none⟩) n cap] w fun e w' => e = .returned (.bool true) ∧ Below w.heap.size w w' := by
  have HS : Hid (Sg A w) := hS
  have HX : Hid (∀ j, j < n → 0 ≤ X j ∧ X j < 4294967296) := hX
  have HC : Hid (∀ j, j < n → w.cell? ⟨b, off + j, none⟩ = some (.int .u32 (X j))) := hc
  have HD : Hid (∀ j, j < m → W.decB (X j) = true) := hD
  have HM : Hid (W.decB (X m) = false) := hM
  have hd100 : decide ((100 : Int) < (n : Int)) = false := by simp; omega
  clear hS hX hc hD hM
  go_enter Tryz.func4, Tryz.ntmps4
  go_wp2_with (go_at_call 8; refine (first5_any A _ HS.out).mono ?_; rintro e w1 ⟨rfl, hb1⟩)
  refine (lines_any A b off n cap X w1 (HS.out.below hb1) (by omega) (Nat.lt_of_lt_of_le hbB hb1.size) HX.out (fun j hj => (hb1.cell (p := ⟨b, off + j, none⟩) hbB).trans (HC.out j hj))).mono ?_
  rintro e w2 ⟨rfl, hb2, hl2, hs2⟩
  have HL : Hid (∀ j, j < n → w2.cell? ⟨w1.heap.size, 0 + j, none⟩ = some (.string ⟨(W.lineL (X j)).toArray⟩)) := fun j hj => by rw [Nat.zero_add]; exact hl2 j hj
  have hbl2 : Below w.heap.size w w2 := hb1.trans (hb2.mono hb1.size)
  clear hl2
  go_wp2_with fail
  refine (prog_bad A w1.heap.size 0 n n m (fun j => W.lineL (X j)) (fun j => bif W.decB (X j) then W.decI (X j) else ⟨0, 0, 0, 0, 0, 0, false, false⟩) w2 (HS.out.below hbl2) (by omega) hs2 hm (fun j hj => by have h := HX.out j (by omega); simp only [HD.out j hj, cond_true]; exact line_parses A _ h.1 h.2 (HD.out j hj)) (fun j hj => by have h := HX.out j (by omega); simp only [HD.out j hj, cond_true]; exact (W.enc_dec h.1 h.2 (HD.out j hj)).1) (by simp only [HM.out, cond_false]; exact line_none A _ (HX.out m hm).1 HM.out) HL.out).mono ?_
  rintro e w3 ⟨q, rfl, hb3, hq3, hc3⟩
  have hbl3 : Below w.heap.size w w3 := hbl2.trans (hb3.mono hbl2.size)
  have HQ : Hid (w3.heap[q]? = some (.cells #[.int .i64 m, errV A 6] 79)) := hc3
  clear hc3
  go_wp2_with fail
  go_loopw [7] (fun i wr => ∃ k : Nat, k ≤ m ∧ i = .int .i64 k ∧ Below w3.heap.size w3 wr) (fun i _ => m - (intOf i).toNat)
  case atStart => exact ⟨0, by omega, rfl, Below.refl _ _⟩
  case round =>
    obtain ⟨k, hk, rfl, hbl⟩ := hrel
    have hblk : Below w.heap.size w wr := hbl3.trans (hbl.mono hbl3.size)
    have hkn : k < n := by omega
    by_cases hlt : k < m
    · have g0 : wr.cell? ⟨b, off + k, none⟩ = some (.int .u32 (X k)) := (hblk.cell (p := ⟨b, off + k, none⟩) hbB).trans (HC.out k hkn)
      have x0 := (HX.out k hkn).1
      have x1 := (HX.out k hkn).2
      have HDk : Hid (W.decB (X k) = true) := HD.out k hlt
      generalize X k = x at *
      generalize hI : W.decI x = i
      have HI : Hid (W.decI x = i) := hI
      clear hI
      go_wp2_with (go_at_call 18; refine (rdec_any x _ x0 x1).mono ?_; rintro e w4 ⟨rfl, hb4⟩; rw [HDk.out, HI.out]; unfold inV)
      go_roundw
      case rel => exact ⟨k + 1, by omega, by go_num, (hbl.trans (hb4.mono hbl.size)).alloc (by have := hbl.size; have := hb4.size; omega) _⟩
      case measure => simp [intOf]; omega
    · obtain rfl : k = m := by omega
      have g0 : wr.cell? ⟨b, off + k, none⟩ = some (.int .u32 (X k)) := (hblk.cell (p := ⟨b, off + k, none⟩) hbB).trans (HC.out k hkn)
      have g1 : wr.cell? ⟨w1.heap.size, k, none⟩ = some (.string ⟨(W.lineL (X k)).toArray⟩) := by
        have := HL.out k hkn
        rw [Nat.zero_add] at this
        exact ((hb3.trans (hbl.mono hb3.size)).cell (p := ⟨w1.heap.size, k, none⟩) hs2).trans this
      have x0 := (HX.out k hkn).1
      have x1 := (HX.out k hkn).2
      rw [W.lineL, HM.out, cond_false] at g1
      generalize X k = x at *
      obtain ⟨y, rfl⟩ := Int.eq_ofNat_of_zero_le x0
      rw [Int.toNat_natCast] at g1
      have y1 : y < 4294967296 := by omega
      generalize hI : W.decI (y : Int) = i
      have HI : Hid (W.decI (y : Int) = i) := hI
      clear hI
      go_wp2_with (go_at_call 18; refine (rdec_any y _ x0 x1).mono ?_; rintro e w4 ⟨rfl, hb4⟩; rw [HM.out, HI.out]; unfold inV)
      have hb5 : Below w4.heap.size w4 (w4.alloc (.cells #[.int .i64 i.op, .int .i64 i.rd, .int .i64 i.rs1, .int .i64 i.rs2, .int .i64 i.csr, .int .u32 i.imm, .bool i.aq, .bool i.rl] 24)) := (Below.refl _ _).alloc (Nat.le_refl _) _
      generalize World.alloc w4 _ = w5 at *
      have hb35 : Below w3.heap.size w3 w5 := (hbl.trans (hb4.mono hbl.size)).trans (hb5.mono (hbl.trans (hb4.mono hbl.size)).size)
      have hbl5 : Below w.heap.size w w5 := hbl3.trans (hb35.mono hbl3.size)
      have hbr5 : Below wr.heap.size wr w5 := hb4.trans (hb5.mono hb4.size)
      have hlr : b < wr.heap.size := Nat.lt_of_lt_of_le hbB hblk.size
      have hl1 : w1.heap.size < wr.heap.size := Nat.lt_of_lt_of_le hs2 (hb3.trans (hbl.mono hb3.size)).size
      have hC : Below w5.heap.size w5 w5.drew := (Below.refl _ _).drew
      have k0 : w5.drew.cell? ⟨b, off + k, none⟩ = some (.int .u32 (y : Int)) := (hbr5.cell (p := ⟨b, off + k, none⟩) hlr).trans g0
      have k1 : w5.drew.cell? ⟨w1.heap.size, k, none⟩ = some (.string ⟨([46, 119, 111, 114, 100, 32] ++ (48 :: 120 :: W.hexL y 8)).toArray⟩) := (hbr5.cell (p := ⟨w1.heap.size, k, none⟩) hl1).trans g1
      have hl5 : b < w5.heap.size := Nat.lt_of_lt_of_le hlr hbr5.size
      have hl15 : w1.heap.size < w5.heap.size := Nat.lt_of_lt_of_le hl1 hbr5.size
      have hq5 : w5.heap[q]? = some (.cells #[.int .i64 (k : Int), errV A 6] 79) := (hb35.block q (Array.getElem?_eq_some_iff.1 HQ.out).1).trans HQ.out
      have HQ5 : Hid (w5.heap[q]? = some (.cells #[.int .i64 (k : Int), errV A 6] 79)) := hq5
      have HS5 : Hid (Sg A w5) := HS.out.below hbl5
      have K0 : Hid (∀ w', Below w5.heap.size w5 w' → w'.cell? ⟨b, off + k, none⟩ = some (.int .u32 (y : Int)) ∧ w'.cell? ⟨w1.heap.size, k, none⟩ = some (.string ⟨([46, 119, 111, 114, 100, 32] ++ (48 :: 120 :: W.hexL y 8)).toArray⟩)) := fun w' h => ⟨(h.cell (p := ⟨b, off + k, none⟩) hl5).trans k0, (h.cell (p := ⟨w1.heap.size, k, none⟩) hl15).trans k1⟩
      clear hq5 g0 g1
      go_region_held3 (fun w' => w'.cell? ⟨b, off + k, none⟩ = some (.int .u32 (y : Int)) ∧ w'.cell? ⟨w1.heap.size, k, none⟩ = some (.string ⟨([46, 119, 111, 114, 100, 32] ++ (48 :: 120 :: W.hexL y 8)).toArray⟩))
        (first | (refine ⟨?_, ?_⟩ <;> assumption) | go_keep)
        (first
          | (go_at_call 20; refine (placed_any (k : Int) _).mono ?_; rintro e w6 ⟨rfl, hb6, hc6, hs6⟩; replace hC : Below w5.heap.size w5 w6 := hC.trans (hb6.mono hC.size); have HC6 : Hid (w6.cell? ⟨_, 0, none⟩ = some (.int .i64 (k : Int))) := hc6; clear hc6 k0 k1; obtain ⟨k0, k1⟩ := K0.out _ hC)
          | (go_at_call 19; refine (same_at A q _ (k : Int) _ (HS5.out.below hC).sent ((hC.block q (Array.getElem?_eq_some_iff.1 HQ5.out).1).trans HQ5.out) HC6.out).mono ?_; rintro e w7 ⟨rfl, hb7⟩; replace hC : Below w5.heap.size w5 w7 := hC.trans (hb7.mono hC.size); clear k0 k1; obtain ⟨k0, k1⟩ := K0.out _ hC)
          | (go_at_call 21; refine (raw_any y y1 _).mono ?_; rintro e w8 ⟨rfl, rfl⟩))
      all_goals
        go_wp2
        go_ret
        exact ⟨rfl, hbl5.trans (hC.mono hbl5.size)⟩
end Go.Proofs.YtbndaiombnikfaaGreatDoor

/- What the program's text lays for package asm: the tables, and the errors: pointers of their own. -/
namespace Go.Proofs.YtbndaiombnikfaaGreatDoor
open Go.ChangeShapes Go.WideShapes Go.ChangeAt Go.RowKit
set_option linter.unusedVariables false

abbrev theErrs : List (String × DataW Unit) := [("corral/api.ErrMany", Rows.laid_corral_api_ErrMany), ("corral/api.ErrKind", Rows.laid_corral_api_ErrKind), ("corral/api.ErrPlace", Rows.laid_corral_api_ErrPlace), ("corral/api.ErrShape", Rows.laid_corral_api_ErrShape), ("corral/api.ErrWord", Rows.laid_corral_api_ErrWord), ("corral/api.ErrRange", Rows.laid_corral_api_ErrRange), ("corral/api.ErrFull", Rows.laid_corral_api_ErrFull), ("corral/api.ErrNone", Rows.laid_corral_api_ErrNone), ("corral/api.ErrTrace", Rows.laid_corral_api_ErrTrace), ("corral/api.ErrOrder", Rows.laid_corral_api_ErrOrder), ("corral/api.ErrValue", Rows.laid_corral_api_ErrValue)]
abbrev theLaid : List (String × DataW Unit) := ("math/bits.deBruijn32tab", Rows.laid_math_bits_deBruijn32tab) :: ("math/bits.deBruijn64tab", Rows.laid_math_bits_deBruijn64tab) :: ("internal/strconv.uint64pow10", Rows.laid_internal_strconv_uint64pow10) :: ("strconv.ErrRange", Rows.laid_strconv_ErrRange) :: ("strconv.ErrSyntax", Rows.laid_strconv_ErrSyntax) :: theErrs

theorem star : "*" ++ "errors.errorString" = "*errors.errorString" := by decide
theorem rowE (u : TypeId) (h : Tryz.prog.typeName? 3 u = some "*errors.errorString") : u = 194 :=
  typeName_ptr_named (nm := "errors.errorString") (by rw [star]; kernel_rfl) (by kernel_rfl) (by decide) u (by rw [star]; exact h)

set_option maxRecDepth 100000 in
/-- One error out of the list. -/
theorem laid_one {W : World} {n : String} {g : Nat} {text : List UInt8} {rest : List (String × DataW Unit)} {ps : List MemPlace} (hg : Tryz.prog.globalNamed n = some g) (ht : (Tryz.prog.globals[g]?).map (·.type) = some 27)
    (hrows : ∀ b off, MemPlace.cell b off ∈ ps → (∃ c t, W.heap[b]? = some (.cells c t (0, 0))) ∧ ∀ u v, W.cell? ⟨b, off, none⟩ = some (.iface u v) → Value.okWide Tryz.prog W .any 0 u v)
    (h : DataW.LaidVars Tryz.prog W ((n, .iface "*errors.errorString" (.ptr (.agg [.lit (.string text)]))) :: rest) ps) :
    ∃ a q, W.cell? ⟨g, 0, none⟩ = some (.iface 194 (.pointer (some a))) ∧ (∃ c t, W.heap[a.block]? = some (.cells c t (0, 0))) ∧ DataW.LaidVars Tryz.prog W rest q ∧ ps = MemPlace.cell g 0 :: MemPlace.cell a.block a.off :: q := by
  obtain ⟨g0, t0, cs0, f0, p0, q0, hg0, ht0, hv0, hd0, hq, e0⟩ := h
  obtain rfl := Option.some.inj (hg.symm.trans hg0)
  obtain rfl := Option.some.inj (ht.symm.trans ht0)
  subst e0
  obtain ⟨l0⟩ := cs0
  have ok0 : ∀ u v, l0 = [.iface u v] → Value.okWide Tryz.prog W .any 0 u v := fun u v e => by
    subst e
    exact (hrows g 0 (by simp [MemPlace.row])).2 u v (by simpa using World.var?_cell hg0 hv0 0)
  obtain ⟨a0, s0, rfl, hc0, hs0, hz0, rfl⟩ := errorString_of_trod Tryz.underlying27 rowE Tryz.underlying194 Tryz.underlying196 rfl rfl Tryz.underlying9 (by kernel_rfl) (by kernel_rfl) hd0 ok0
  refine ⟨a0, q0, by simpa using World.var?_cell hg0 hv0 0, (hrows a0.block a0.off (by simp [MemPlace.row])).1, hq, by simp [MemPlace.row]⟩

theorem permL {α : Type} (a0 a1 a2 a3 a4 a5 a6 a7 a8 a9 a10 : α) : [a1, a5, a3, a0, a2, a4, a6, a7, a8, a9, a10].Perm [a0, a1, a2, a3, a4, a5, a6, a7, a8, a9, a10] := by
  have h : ([1, 5, 3, 0, 2, 4, 6, 7, 8, 9, 10] : List Nat).Perm [0, 1, 2, 3, 4, 5, 6, 7, 8, 9, 10] := by decide
  exact h.map (fun k => [a0, a1, a2, a3, a4, a5, a6, a7, a8, a9, a10].getD k a0)

set_option maxRecDepth 100000 in
theorem sent_of_errs {W : World} (h : laidMet Tryz.prog theErrs W) : ∃ A, Sent A W := by
  obtain ⟨ps, h0, hnd, hrows⟩ := h
  obtain ⟨a0, q0, x0, y0, h1, e0⟩ := laid_one (g := 6) (by kernel_rfl) (by kernel_rfl) hrows h0
  obtain ⟨a1, q1, x1, y1, h2, e1⟩ := laid_one (g := 1) (by kernel_rfl) (by kernel_rfl) (fun b o hm => hrows b o (by rw [e0]; simp [hm])) h1
  obtain ⟨a2, q2, x2, y2, h3, e2⟩ := laid_one (g := 7) (by kernel_rfl) (by kernel_rfl) (fun b o hm => hrows b o (by rw [e0, e1]; simp [hm])) h2
  obtain ⟨a3, q3, x3, y3, h4, e3⟩ := laid_one (g := 3) (by kernel_rfl) (by kernel_rfl) (fun b o hm => hrows b o (by rw [e0, e1, e2]; simp [hm])) h3
  obtain ⟨a4, q4, x4, y4, h5, e4⟩ := laid_one (g := 0) (by kernel_rfl) (by kernel_rfl) (fun b o hm => hrows b o (by rw [e0, e1, e2, e3]; simp [hm])) h4
  obtain ⟨a5, q5, x5, y5, h6, e5⟩ := laid_one (g := 2) (by kernel_rfl) (by kernel_rfl) (fun b o hm => hrows b o (by rw [e0, e1, e2, e3, e4]; simp [hm])) h5
  obtain ⟨a6, q6, x6, y6, h7, e6⟩ := laid_one (g := 8) (by kernel_rfl) (by kernel_rfl) (fun b o hm => hrows b o (by rw [e0, e1, e2, e3, e4, e5]; simp [hm])) h6
  obtain ⟨a7, q7, x7, y7, h8, e7⟩ := laid_one (g := 9) (by kernel_rfl) (by kernel_rfl) (fun b o hm => hrows b o (by rw [e0, e1, e2, e3, e4, e5, e6]; simp [hm])) h7
  obtain ⟨a8, q8, x8, y8, h9, e8⟩ := laid_one (g := 10) (by kernel_rfl) (by kernel_rfl) (fun b o hm => hrows b o (by rw [e0, e1, e2, e3, e4, e5, e6, e7]; simp [hm])) h8
  obtain ⟨a9, q9, x9, y9, h10, e9⟩ := laid_one (g := 11) (by kernel_rfl) (by kernel_rfl) (fun b o hm => hrows b o (by rw [e0, e1, e2, e3, e4, e5, e6, e7, e8]; simp [hm])) h9
  obtain ⟨a10, q10, x10, y10, h11, e10⟩ := laid_one (g := 12) (by kernel_rfl) (by kernel_rfl) (fun b o hm => hrows b o (by rw [e0, e1, e2, e3, e4, e5, e6, e7, e8, e9]; simp [hm])) h10
  subst e10 e9 e8 e7 e6 e5 e4 e3 e2 e1 e0
  let L : List Addr := [a1, a5, a3, a0, a2, a4, a6, a7, a8, a9, a10]
  have hN : (List.map (fun a : Addr => MemPlace.cell a.block a.off) [a0, a1, a2, a3, a4, a5, a6, a7, a8, a9, a10]).Nodup := by
    refine List.Sublist.nodup ?_ hnd
    exact .cons _ (.cons_cons _ (.cons _ (.cons_cons _ (.cons _ (.cons_cons _ (.cons _ (.cons_cons _ (.cons _ (.cons_cons _ (.cons _ (.cons_cons _ (.cons _ (.cons_cons _ (.cons _ (.cons_cons _ (.cons _ (.cons_cons _ (.cons _ (.cons_cons _ (.cons _ (.cons_cons _ (List.nil_sublist _))))))))))))))))))))))
  have hN2 : (List.map (fun a : Addr => MemPlace.cell a.block a.off) L).Nodup := by
    refine (List.Perm.nodup_iff (List.Perm.map _ ?_)).2 hN
    exact permL a0 a1 a2 a3 a4 a5 a6 a7 a8 a9 a10
  refine ⟨fun j => L.getD j a0, ?_, ?_, ?_⟩
  · intro j hj
    match j, hj with
    | 0, _ => exact x1
    | 1, _ => exact x5
    | 2, _ => exact x3
    | 3, _ => exact x0
    | 4, _ => exact x2
    | 5, _ => exact x4
    | 6, _ => exact x6
    | 7, _ => exact x7
    | 8, _ => exact x8
    | 9, _ => exact x9
    | 10, _ => exact x10
  · intro i j hi hj e
    have hl : L.length = 11 := rfl
    have hp := List.pairwise_iff_getElem.1 hN2
    have e' : ∀ k (hk : k < L.length), L.getD k a0 = L[k] := fun k hk => by simp [List.getD, hk]
    have e : L[i]'(by rw [hl]; exact hi) = L[j]'(by rw [hl]; exact hj) := by rw [← e' i (by rw [hl]; exact hi), ← e' j (by rw [hl]; exact hj)]; exact e
    rcases Nat.lt_trichotomy i j with h | h | h
    · exact (hp i j (by simp [hl]; omega) (by simp [hl]; omega) h (by rw [List.getElem_map, List.getElem_map, e])).elim
    · exact h
    · exact (hp j i (by simp [hl]; omega) (by simp [hl]; omega) h (by rw [List.getElem_map, List.getElem_map, e])).elim
  · intro j hj
    match j, hj with
    | 0, _ => exact y1
    | 1, _ => exact y5
    | 2, _ => exact y3
    | 3, _ => exact y0
    | 4, _ => exact y2
    | 5, _ => exact y4
    | 6, _ => exact y6
    | 7, _ => exact y7
    | 8, _ => exact y8
    | 9, _ => exact y9
    | 10, _ => exact y10


def tab64 : List Int := [0, 1, 56, 2, 57, 49, 28, 3, 61, 58, 42, 50, 38, 29, 17, 4, 62, 47, 59, 36, 45, 43, 51, 22, 53, 39, 33, 30, 24, 18, 12, 5, 63, 55, 48, 27, 60, 41, 37, 16, 46, 35, 44, 21, 52, 32, 23, 11, 54, 26, 40, 15, 34, 20, 31, 10, 25, 14, 19, 9, 13, 8, 7, 6]

/-- One error's cell, of a list's head. -/
theorem head_err {W : World} {n : String} {g : Nat} {text : List UInt8} {rest : List (String × DataW Unit)} (hg : Tryz.prog.globalNamed n = some g) (ht : (Tryz.prog.globals[g]?).map (·.type) = some 27)
    (h : laidMet Tryz.prog ((n, .iface "*errors.errorString" (.ptr (.agg [.lit (.string text)]))) :: rest) W) : ∃ te pe, W.cell? ⟨g, 0, none⟩ = some (.iface te pe) := by
  obtain ⟨ps, hv, hnd, hrows⟩ := h
  obtain ⟨a, q, hc, _⟩ := laid_one hg ht hrows hv
  exact ⟨_, _, hc⟩

set_option maxRecDepth 100000 in
theorem sg_of_laid {W : World} (h : laidMetH Tryz.prog theLaid W) (hsh : W.ShapedOpen Tryz.prog) : ∃ A, Sg A W := by
  rw [MakeChecks.laidMetH_plain _ _ _ (by kernel_rfl)] at h
  have h1 := h.tail
  have t64 := Lib.tabIs_of_head (k := .u8) (zs := tab64) (g := 16) (t := 193) (e := 5) (n := 64) (by kernel_rfl) (by kernel_rfl) Tryz.underlying193 Tryz.underlying5 (by kernel_rfl) (by kernel_rfl) (rest := ("internal/strconv.uint64pow10", Rows.laid_internal_strconv_uint64pow10) :: ("strconv.ErrRange", Rows.laid_strconv_ErrRange) :: ("strconv.ErrSyntax", Rows.laid_strconv_ErrSyntax) :: theErrs) h1
  have h2 := h1.tail
  have t10 := Lib.tabIs_of_head (k := .u64) (zs := Lib.pow10Tab) (g := 4) (t := 174) (e := 141) (n := 20) (by kernel_rfl) (by kernel_rfl) Tryz.underlying174 Tryz.underlying141 (by kernel_rfl) (by kernel_rfl) (rest := ("strconv.ErrRange", Rows.laid_strconv_ErrRange) :: ("strconv.ErrSyntax", Rows.laid_strconv_ErrSyntax) :: theErrs) h2
  have h3 := h2.tail
  have hr := head_err (g := 14) (by kernel_rfl) (by kernel_rfl) h3
  have h4 := h3.tail
  have hs := head_err (g := 13) (by kernel_rfl) (by kernel_rfl) h4
  obtain ⟨A, hA⟩ := sent_of_errs h4.tail
  refine ⟨A, hA, t10, ?_, hs, hr, ?_⟩
  · exact cell_of_shapedOpen_int hsh (g := 5) (t := 3) (by decide +kernel) (zero := #[.int .i64 0]) (by kernel_rfl) rfl (by kernel_rfl) (by kernel_rfl) Tryz.underlying3
  · have := t64.cell (g := 16) (by kernel_rfl) 15 (by decide)
    exact this

theorem lift5 {H : Type} {enc : TypeId × Value → H} {a : Assume} {C : Checked} {os : Os} {f : FuncId} {fn : Func} {s : ChangeSpec} {conds : List PathCond} {apart fresh handsOn again : Bool} {X : World → Array Value → Prop}
    (hX : ∀ (w w' : World) (args : Array Value), w.heap = w'.heap → X w args → X w' args)
    (own : ownKnob C.prog.godebug = none) (started : os.Started) (noInit : C.prog.inits.idxOf? f = none) (hfn : C.prog.funcs[f]? = some fn)
    (witness : ∃ (w : World) (tape : Tape) (i : Input), w.os = os ∧ (w.forCall tape i).Shaped C.prog ∧ i.vars = [] ∧ Input.okWide C.prog (w.forCall tape i) .any w.heap.size f i ∧
      ((s.pre enc C.prog fn conds apart (w.forCall tape i).memory i.args ∧ X (w.forCall tape i).memory i.args) ∧ sizedMet enc C.prog fn (OpenSpec.ofChange s) apart (w.forCall tape i).memory i.args) ∧ a.holds C.prog (lone (Frame.enter C.prog f i.args .normal) [] (w.forCall tape i)))
    (contract : ∀ (W : World) (base : Nat) (args : Array Value) (ds gs : List (DataW H)) (before : List MemPlace),
      (∀ (j : Nat) t v, fn.params[j]? = some t → args[j]? = some v → Value.okWide C.prog W .any base t v) →
      DataW.Whole enc C.prog fn.params.toList s.vars apart W args.toList ds gs before → W.ShapedOpen C.prog → X W args →
      Calls C.prog f args W fun e W' => ∃ v, e = .returned v ∧ s.post enc C.prog fn apart fresh handsOn again W args v W') :
    ReturnsInHanded a C os f .any (fun w args => (s.pre enc C.prog fn conds apart w args ∧ X w args) ∧ sizedMet enc C.prog fn (OpenSpec.ofChange s) apart w args) (s.post enc C.prog fn apart fresh handsOn again) := by
  refine returnsInHanded_of_calls own started noInit witness fun w tape i _ hsh _ hok hpre _ => ?_
  obtain ⟨_, _, _, fn', hfn', _, _, _, _, hval⟩ := hok
  cases Option.some.inj (hfn'.symm.trans hfn)
  obtain ⟨⟨⟨ds, gs, before, hw, _⟩, hx⟩, _⟩ := hpre
  refine (contract _ _ _ ds gs before hval (DataW.Whole.of_heap (by rfl) hw) hsh (hX _ _ _ (by rfl) hx)).mono ?_
  rintro e W' ⟨v, rfl, hp⟩
  exact ChangeSpec.post_blind hp

end Go.Proofs.YtbndaiombnikfaaGreatDoor
