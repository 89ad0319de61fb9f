/- Texts in one: AsmB, AsmP, AsmX, AsmH, AsmQ. -/
import Derived.Deep.QuietTactic
import Derived.BigQuiet
import Derived.Deep.RegionWith
import Derived.Lib.ItoaLen
import Derived.LoopN
import Derived.Laws.IdiomStrings
import Derived.Test.YtbndaiombnikfaaGreatDoorJ06
import Derived.Test.YtbndaiombnikfaaGreatDoorJ07
import Derived.Test.YtbndaiombnikfaaGreatDoorJ11
import Derived.Test.YtbndaiombnikfaaGreatDoorJ17
/- What stands between the parts of a form. -/
namespace Go.Proofs.YtbndaiombnikfaaGreatDoor
open Go.ChangeShapes Go.WideShapes Go.ChangeAt Go.RowKit
set_option linter.unusedVariables false
set_option linter.unusedSimpArgs false

namespace W
/-- Space, comma, the two brackets. -/
def btw (r : Nat) : Bool := r == 32 || (r == 44 || (r == 40 || r == 41))
theorem btw_small : ((List.range 128).all fun r => decide (0 ≤ Lib.indexByte [32, 44, 40, 41] (r : Int).toNat.toUInt8) == btw r) = true := by decide +kernel
end W

theorem between_lo (r : Nat) (hr : r < 128) (w : World) : Calls Tryz.prog 57 #[.int .i32 r] w fun e w' => e = .returned (.bool (W.btw r)) ∧ w = w' := by
  have h0 : (0 : Int) ≤ (r : Int) := by omega
  have h1 : (r : Int) < 128 := by omega
  have hv : Hid (decide (0 ≤ Lib.indexByte [32, 44, 40, 41] (r : Int).toNat.toUInt8) = W.btw r) := by
    have := List.all_eq_true.1 W.btw_small r (List.mem_range.2 hr)
    exact beq_iff_eq.1 this
  go_enter Tryz.func57, Tryz.ntmps57
  go_wp2_with (go_at_call 88; refine (Tryz.strings_ContainsRune_ascii _ _ _ h0 h1).mono ?_; rintro e w' ⟨rfl, rfl⟩)
  go_ret
  exact ⟨by rw [← hv.out]; rfl, rfl⟩

theorem rune_at (j : Nat) (hj : j < 4) : ((⟨#[32, 44, 40, 41]⟩ : ByteArray)[j]'hj).toNat < 128 ∧ (((⟨#[32, 44, 40, 41]⟩ : ByteArray)[j]'hj).toNat : Int) ≠ 65533 := by
  match j, hj with
  | 0, _ => exact ⟨(by decide : (32 : Nat) < 128), (by decide : (32 : Int) ≠ 65533)⟩
  | 1, _ => exact ⟨(by decide : (44 : Nat) < 128), (by decide : (44 : Int) ≠ 65533)⟩
  | 2, _ => exact ⟨(by decide : (40 : Nat) < 128), (by decide : (40 : Int) ≠ 65533)⟩
  | 3, _ => exact ⟨(by decide : (41 : Nat) < 128), (by decide : (41 : Int) ≠ 65533)⟩

set_option maxRecDepth 100000 in
theorem indexRune_err (w : World) : Calls Tryz.prog 114 #[.string ⟨#[32, 44, 40, 41]⟩, .int .i32 65533] w fun e w' => e = .returned (.int .i64 (-1)) ∧ Below w.heap.size w w' := by
  go_enter Tryz.func114, Tryz.ntmps114
  go_wp2
  go_loopg [] 4 (fun gf wx => ∃ pos : Nat, wx.heap[w.heap.size]? = some (.stringIter ⟨#[32, 44, 40, 41]⟩ pos) ∧ Below w.heap.size w wx ∧ 4 ≤ pos + gf)
  case atStart => exact ⟨0, World.iter_heap w _ 0, (Below.refl _ w).alloc (Nat.le_refl _) _, by omega⟩
  case round =>
    obtain ⟨pos, hit, hbw, hfu⟩ := hrel
    by_cases hps : pos < 4
    · obtain ⟨g', rfl⟩ : ∃ g', gk = g' + 1 := ⟨gk - 1, by omega⟩
      obtain ⟨ha, hne⟩ := rune_at pos hps
      have hnx : ∀ ty, (Instr.next (.pointer (some ⟨w.heap.size, 0, none⟩)) true ty).run Tryz.prog wr = _ := fun ty => Lib.run_next_ascii_at wr w.heap.size _ pos ty hit hps ha
      have hit2 := Lib.iterAt_heap wr w.heap.size _ pos (pos + 1) hit
      have hbw2 := Lib.below_iterAt hbw (k := w.heap.size) (Nat.le_refl _) ⟨#[32, 44, 40, 41]⟩ (pos + 1)
      have hne' : (((((⟨#[32, 44, 40, 41]⟩ : ByteArray)[pos]'hps).toNat : Int)) == 65533) = false := by simpa using hne
      go_wp2
      go_roundg g'
      case measure => omega
      case rel => exact ⟨pos + 1, hit2, hbw2, by omega⟩
    · have hnx : ∀ ty, (Instr.next (.pointer (some ⟨w.heap.size, 0, none⟩)) true ty).run Tryz.prog wr = _ := fun ty => Lib.run_next_end_at wr w.heap.size _ pos ty hit hps
      go_wp2
      go_ret
      exact ⟨rfl, hbw⟩

theorem enc_hi (r : Nat) (h1 : 128 ≤ r) (hv : Lib.validRune (r : Int) = true) : ∃ d : UInt8, 128 ≤ d.toNat ∧ ((∃ a, Utf8.encode (r : Int) = ⟨#[a, d]⟩) ∨ (∃ a b, Utf8.encode (r : Int) = ⟨#[a, b, d]⟩) ∨ (∃ a b c, Utf8.encode (r : Int) = ⟨#[a, b, c, d]⟩)) := by
  have hval : Utf8.valid (r : Int) = true := by
    have : (0 ≤ (r : Int) ∧ (r : Int) < 55296) ∨ (57343 < (r : Int) ∧ (r : Int) ≤ 1114111) := of_decide_eq_true hv
    simp [Utf8.valid]
    omega
  have hd : 128 ≤ (UInt8.ofNat (0x80 + r % 64)).toNat := by
    simp [UInt8.toNat_ofNat]
    omega
  refine ⟨UInt8.ofNat (0x80 + r % 64), hd, ?_⟩
  unfold Utf8.encode
  simp only [hval, if_true, Int.toNat_natCast]
  by_cases c1 : r < 0x80
  · omega
  rw [if_neg c1]
  by_cases c2 : r < 0x800
  · rw [if_pos c2]; exact Or.inl ⟨_, rfl⟩
  rw [if_neg c2]
  by_cases c3 : r < 0x10000
  · rw [if_pos c3]; exact Or.inr (Or.inl ⟨_, _, rfl⟩)
  · rw [if_neg c3]; exact Or.inr (Or.inr ⟨_, _, _, rfl⟩)

theorem idx_hi (d : UInt8) (h : 128 ≤ d.toNat) : Lib.indexByte [40, 41] (d.toNat : Int).toNat.toUInt8 = -1 ∧ Lib.indexByte [41] (d.toNat : Int).toNat.toUInt8 = -1 ∧ Lib.indexByte [] (d.toNat : Int).toNat.toUInt8 = -1 := by
  have e : (d.toNat : Int).toNat.toUInt8 = d := by simp
  have n40 : ¬ d = 40 := fun e => by rw [e] at h; exact absurd h (by decide)
  have n41 : ¬ d = 41 := fun e => by rw [e] at h; exact absurd h (by decide)
  rw [e]
  simp [Lib.indexByte, n40, n41, Ne.symm n40, Ne.symm n41]

theorem ib_hi (s : ByteArray) (d : UInt8) (w : World) (hs : Lib.indexByte s.data.toList (d.toNat : Int).toNat.toUInt8 = -1) : Calls Tryz.prog 131 #[.string s, .int .u8 d.toNat] w fun e w' => e = .returned (.int .i64 (-1)) ∧ w' = w :=
  (Tryz.strings_IndexByte s d.toNat w).mono fun e w' ⟨h, h'⟩ => ⟨by rw [h, hs], h'⟩

set_option maxRecDepth 1000000 in
set_option maxHeartbeats 1600000 in
theorem indexRune_hi (r : Nat) (h1 : 128 ≤ r) (h3 : ¬ (r : Int) = 65533) (hv : Lib.validRune (r : Int) = true) (w : World) : Calls Tryz.prog 114 #[.string ⟨#[32, 44, 40, 41]⟩, .int .i32 r] w fun e w' => e = .returned (.int .i64 (-1)) ∧ Below w.heap.size w w' := by
  have g0 : (0 : Int) ≤ (r : Int) := by omega
  have g1 : ¬ (r : Int) < 128 := by omega
  have g3 : ((r : Int) == 65533) = false := by simpa using h3
  have HV : Hid (Lib.validRune (r : Int) = true) := hv
  obtain ⟨d, hd, ⟨a, he⟩ | ⟨a, b, he⟩ | ⟨a, b, c, he⟩⟩ := enc_hi r h1 hv
  · have hx : Hid (_ ∧ _ ∧ _) := idx_hi d hd
    have k1 : (44 != (d.toNat : Int)) = true := by simp; omega
    have k2 : (40 != (d.toNat : Int)) = true := by simp; omega
    have k3 : (41 != (d.toNat : Int)) = true := by simp; omega
    have q : ((((⟨#[32, 44, 40, 41]⟩ : ByteArray)[1]'(by decide)).toNat : Int) != (((⟨#[a, d]⟩ : ByteArray)[1]'(by show 1 < 2; decide)).toNat : Int)) = true := k1
    clear k1 k2 k3
    go_enter Tryz.func114, Tryz.ntmps114
    go_wp2_with (go_at_call 132; refine (Tryz.utf8_ValidRune _ _).mono ?_; rintro e w' ⟨rfl, rfl⟩; rw [HV.out])
    go_step3
    go_wp2
    go_loopw [9] (fun i wr => i = .int .i64 1 ∧ w' = wr) (fun _ _ => 0)
    case atStart => exact ⟨rfl, rfl⟩
    case round =>
      obtain ⟨rfl, rfl⟩ := hrel
      have hw1 : IntKind.i64.wrap 2 = 2 := by decide
      go_wp2
      go_step3 
      go_wp2
      go_quiet (fail)
      generalize hW : w'.drewN nq = W1
      go_wp2
      go_quiet ((go_at_call 131; exact Calls.quiet_of_same (ib_hi ((⟨#[32, 44, 40, 41]⟩ : ByteArray).extract 2 4) d _ hx.out.1)))
      go_wp2
      subst hW
      change bodyPost Tryz.prog Tryz.f114 (fun e w'' => e = .returned (.int .i64 (-1)) ∧ Below w'.heap.size w' w'') Exit.ret _ _
      go_ret
      exact ⟨rfl, below_drewN' (below_drewN' (Below.refl _ _) _) _⟩
  · have hx : Hid (_ ∧ _ ∧ _) := idx_hi d hd
    have k1 : (44 != (d.toNat : Int)) = true := by simp; omega
    have k2 : (40 != (d.toNat : Int)) = true := by simp; omega
    have k3 : (41 != (d.toNat : Int)) = true := by simp; omega
    have q : ((((⟨#[32, 44, 40, 41]⟩ : ByteArray)[2]'(by decide)).toNat : Int) != (((⟨#[a, b, d]⟩ : ByteArray)[2]'(by show 2 < 3; decide)).toNat : Int)) = true := k2
    clear k1 k2 k3
    go_enter Tryz.func114, Tryz.ntmps114
    go_wp2_with (go_at_call 132; refine (Tryz.utf8_ValidRune _ _).mono ?_; rintro e w' ⟨rfl, rfl⟩; rw [HV.out])
    go_step3
    go_wp2
    go_loopw [9] (fun i wr => i = .int .i64 2 ∧ w' = wr) (fun _ _ => 0)
    case atStart => exact ⟨rfl, rfl⟩
    case round =>
      obtain ⟨rfl, rfl⟩ := hrel
      have hw2 : IntKind.i64.wrap 3 = 3 := by decide
      go_wp2
      go_step3 
      go_wp2
      go_quiet (fail)
      generalize hW : w'.drewN nq = W1
      go_wp2
      go_quiet ((go_at_call 131; exact Calls.quiet_of_same (ib_hi ((⟨#[32, 44, 40, 41]⟩ : ByteArray).extract 3 4) d _ hx.out.2.1)))
      go_wp2
      subst hW
      change bodyPost Tryz.prog Tryz.f114 (fun e w'' => e = .returned (.int .i64 (-1)) ∧ Below w'.heap.size w' w'') Exit.ret _ _
      go_ret
      exact ⟨rfl, below_drewN' (below_drewN' (Below.refl _ _) _) _⟩
  · have hx : Hid (_ ∧ _ ∧ _) := idx_hi d hd
    have k1 : (44 != (d.toNat : Int)) = true := by simp; omega
    have k2 : (40 != (d.toNat : Int)) = true := by simp; omega
    have k3 : (41 != (d.toNat : Int)) = true := by simp; omega
    have q : ((((⟨#[32, 44, 40, 41]⟩ : ByteArray)[3]'(by decide)).toNat : Int) != (((⟨#[a, b, c, d]⟩ : ByteArray)[3]'(by show 3 < 4; decide)).toNat : Int)) = true := k3
    clear k1 k2 k3
    go_enter Tryz.func114, Tryz.ntmps114
    go_wp2_with (go_at_call 132; refine (Tryz.utf8_ValidRune _ _).mono ?_; rintro e w' ⟨rfl, rfl⟩; rw [HV.out])
    go_step3
    go_wp2
    go_loopw [9] (fun i wr => i = .int .i64 3 ∧ w' = wr) (fun _ _ => 0)
    case atStart => exact ⟨rfl, rfl⟩
    case round =>
      obtain ⟨rfl, rfl⟩ := hrel
      have hw3 : IntKind.i64.wrap 4 = 4 := by decide
      go_wp2
      go_step3 
      go_wp2
      go_quiet (fail)
      generalize hW : w'.drewN nq = W1
      go_wp2
      go_quiet ((go_at_call 131; exact Calls.quiet_of_same (ib_hi ((⟨#[32, 44, 40, 41]⟩ : ByteArray).extract 4 4) d _ hx.out.2.2)))
      go_wp2
      subst hW
      change bodyPost Tryz.prog Tryz.f114 (fun e w'' => e = .returned (.int .i64 (-1)) ∧ Below w'.heap.size w' w'') Exit.ret _ _
      go_ret
      exact ⟨rfl, below_drewN' (below_drewN' (Below.refl _ _) _) _⟩

set_option maxRecDepth 100000 in
theorem indexRune_bad (r : Nat) (h1 : 128 ≤ r) (h3 : ¬ (r : Int) = 65533) (hv : Lib.validRune (r : Int) = false) (w : World) : Calls Tryz.prog 114 #[.string ⟨#[32, 44, 40, 41]⟩, .int .i32 r] w fun e w' => e = .returned (.int .i64 (-1)) ∧ Below w.heap.size w w' := by
  have g0 : (0 : Int) ≤ (r : Int) := by omega
  have g1 : ¬ (r : Int) < 128 := by omega
  have g3 : ((r : Int) == 65533) = false := by simpa using h3
  have HV : Hid (Lib.validRune (r : Int) = false) := hv
  clear hv
  go_enter Tryz.func114, Tryz.ntmps114
  go_wp2_with (go_at_call 132; refine (Tryz.utf8_ValidRune _ _).mono ?_; rintro e w' ⟨rfl, rfl⟩; rw [HV.out])
  go_ret
  exact ⟨rfl, Below.refl _ _⟩

theorem containsRune_hi (r : Nat) (h1 : 128 ≤ r) (w : World) : Calls Tryz.prog 88 #[.string ⟨#[32, 44, 40, 41]⟩, .int .i32 r] w fun e w' => e = .returned (.bool false) ∧ Below w.heap.size w w' := by
  have H : Hid (∀ w : World, Calls Tryz.prog 114 #[.string ⟨#[32, 44, 40, 41]⟩, .int .i32 r] w fun e w' => e = .returned (.int .i64 (-1)) ∧ Below w.heap.size w w') := fun w => by
    by_cases h3 : (r : Int) = 65533
    · rw [h3]; exact indexRune_err w
    · cases hv : Lib.validRune (r : Int)
      · exact indexRune_bad r h1 h3 hv w
      · exact indexRune_hi r h1 h3 hv w
  go_enter Tryz.func88, Tryz.ntmps88
  go_wp2_with (go_at_call 114; refine (H.out _).mono ?_; rintro e w1 ⟨rfl, hm⟩)
  go_ret
  exact ⟨rfl, hm⟩

theorem between_any (r : Nat) (w : World) : Calls Tryz.prog 57 #[.int .i32 r] w fun e w' => e = .returned (.bool (W.btw r)) ∧ Below w.heap.size w w' := by
  by_cases h : r < 128
  · exact (between_lo r h w).mono fun e w' ⟨he, hw⟩ => ⟨he, hw ▸ Below.refl _ _⟩
  · have hb : W.btw r = false := by simp [W.btw]; omega
    rw [hb]
    have hr : 128 ≤ r := by omega
    go_enter Tryz.func57, Tryz.ntmps57
    go_wp2_with (go_at_call 88; refine (containsRune_hi r hr _).mono ?_; rintro e w1 ⟨rfl, hm⟩)
    go_ret
    exact ⟨rfl, hm⟩
end Go.Proofs.YtbndaiombnikfaaGreatDoor

/- The parts of a text: registers, numbers. -/
namespace Go.Proofs.YtbndaiombnikfaaGreatDoor
open Go.ChangeShapes Go.WideShapes Go.ChangeAt Go.RowKit
set_option linter.unusedVariables false
set_option linter.unusedSimpArgs false

theorem tab_below {n : String} {g : Nat} {k : IntKind} {zs : List Int} {w w' : World} (hg : Tryz.prog.globalNamed n = some g) (h : Lib.TabIs Tryz.prog w n k zs) (hb : Below w.heap.size w w') : Lib.TabIs Tryz.prog w' n k zs := by
  unfold Lib.TabIs World.var? at h ⊢
  rw [hg] at h ⊢
  simp only [Option.bind_some] at h ⊢
  have hlt : g < w.heap.size := by
    rcases Nat.lt_or_ge g w.heap.size with h' | h'
    · exact h'
    · rw [Array.getElem?_eq_none h'] at h; cases h
  rw [hb.block g hlt]
  exact h
/-- What the program's variables hold while package asm goes on. -/
structure Sg (A : Nat → Addr) (w : World) : Prop where
  sent : Sent A w
  tab : Lib.TabIs Tryz.prog w "internal/strconv.uint64pow10" .u64 Lib.pow10Tab
  maxl : ∃ m, w.cell? ⟨5, 0, none⟩ = some (.int .i64 m)
  esyn : ∃ te pe, w.cell? ⟨13, 0, none⟩ = some (.iface te pe)
  eran : ∃ te pe, w.cell? ⟨14, 0, none⟩ = some (.iface te pe)
  tz : w.cell? ⟨16, 15, none⟩ = some (.int .u8 4)
theorem Sg.below {A : Nat → Addr} {a b : World} (h : Sg A a) (hm : Below a.heap.size a b) : Sg A b where
  sent := h.sent.below hm
  tab := tab_below (g := 4) (by kernel_rfl) h.tab hm
  maxl := by
    obtain ⟨m, e⟩ := h.maxl
    exact ⟨m, (hm.cell (World.block_lt_of_cell? _ _ e)).trans e⟩
  esyn := by
    obtain ⟨m, q, e⟩ := h.esyn
    exact ⟨m, q, (hm.cell (World.block_lt_of_cell? _ _ e)).trans e⟩
  eran := by
    obtain ⟨m, q, e⟩ := h.eran
    exact ⟨m, q, (hm.cell (World.block_lt_of_cell? _ _ e)).trans e⟩
  tz := (hm.cell (World.block_lt_of_cell? _ _ h.tz)).trans h.tz

namespace W
def regL (n : Nat) : List UInt8 := 120 :: Lib.decDigits n
end W

theorem grow_bel (w : World) (k : Nat) (os : Array Obj) : Below w.heap.size w (Go.Sort.grow (w.drewN k) os) :=
  ⟨rfl, rfl, rfl, by show w.heap.size ≤ (w.heap ++ os).size; rw [Array.size_append]; omega, fun j hj => by show (w.heap ++ os)[j]? = w.heap[j]?; rw [Array.getElem?_append, if_pos hj]⟩
theorem ba_append (l m : List UInt8) : ((⟨l.toArray⟩ : ByteArray) ++ (⟨m.toArray⟩ : ByteArray)) = ⟨(l ++ m).toArray⟩ := by
  apply ByteArray.ext
  rw [ByteArray.data_append]
  simp
theorem dec_len (n : Nat) (h : n < 18446744073709551616) : (Lib.decDigits n).length ≤ 20 := by rw [Lib.decDigits_length]; exact Lib.nDigits_le20 n h
theorem itoa_len (n : Int) (h0 : -9223372036854775808 ≤ n) (h1 : n ≤ 9223372036854775807) : (Lib.itoa n).length ≤ 21 := by
  unfold Lib.itoa
  split
  · have := dec_len n.natAbs (by omega)
    simp; omega
  · have := dec_len n.toNat (by omega)
    omega
theorem wrap_in (x : Int) : wrap64 (wrap32 x) = wrap32 x ∧ -2147483648 ≤ wrap32 x ∧ wrap32 x ≤ 2147483647 := by
  simp only [wrap64, wrap32]; omega

theorem register_any (n : Nat) (hn : n < 100) (w : World) : Calls Tryz.prog 90 #[.int .i64 n] w fun e w' => e = .returned (.string ⟨(W.regL n).toArray⟩) ∧ w = w' := by
  have hl : ¬ 9223372036854775807 < 1 + (Lib.decDigits n).length := by have := dec_len n (by omega); omega
  go_enter Tryz.func90, Tryz.ntmps90
  go_wp2_with (go_at_call 32; refine (Tryz.strconv_Itoa_small n hn _).mono ?_; rintro e w' ⟨rfl, rfl⟩)
  go_ret
  exact ⟨congrArg (fun s => Ending.returned (.string s)) (ba_append [120] _), rfl⟩

theorem decimal_any (A : Nat → Addr) (x : Int) (w : World) (hS : Sg A w) : Calls Tryz.prog 91 #[.int .u32 x] w fun e w' => e = .returned (.string ⟨(Lib.itoa (wrap32 x)).toArray⟩) ∧ Below w.heap.size w w' := by
  have HS : Hid (Sg A w) := hS
  have hx : Hid (wrap64 (wrap32 x) = wrap32 x ∧ -2147483648 ≤ wrap32 x ∧ wrap32 x ≤ 2147483647) := wrap_in x
  clear hS
  go_enter Tryz.func91, Tryz.ntmps91
  go_wp2_with (go_at_call 32; rw [hx.out.1]; refine (Tryz.strconv_Itoa _ (by have := hx.out.2; omega) (by have := hx.out.2; omega) _ HS.out.tab).mono ?_; rintro e w' ⟨rfl, k, os, rfl⟩)
  go_ret
  exact ⟨rfl, (grow_bel _ _ _)⟩
end Go.Proofs.YtbndaiombnikfaaGreatDoor

/- Hexadecimal digits. -/
namespace Go.Proofs.YtbndaiombnikfaaGreatDoor
open Go.ChangeShapes Go.WideShapes Go.ChangeAt Go.RowKit
set_option linter.unusedVariables false
set_option linter.unusedSimpArgs false

theorem pow2_16 (w : World) : Calls Tryz.prog 138 #[.int .i64 16] w fun e w' => e = .returned (.bool true) ∧ w = w' := by
  go_enter Tryz.func138, Tryz.ntmps138
  go_wp2
  go_ret
  exact ⟨rfl, rfl⟩

set_option maxRecDepth 100000 in
theorem tz64_16 (w : World) (hc : w.cell? ⟨16, 15, none⟩ = some (.int .u8 4)) : Calls Tryz.prog 148 #[.int .u64 16] w fun e w' => e = .returned (.int .i64 4) ∧ w = w' := by
  have r1 : IntKind.u64.wrap (-16) = 18446744073709551600 := by decide
  have r2 : bits .and .u64 16 18446744073709551600 = 16 := by decide +kernel
  have r3 : IntKind.u64.wrap 4573923408821661840 = 4573923408821661840 := by decide
  go_enter Tryz.func148, Tryz.ntmps148
  go_wp2
  go_ret
  exact ⟨rfl, rfl⟩

theorem tz_16 (w : World) (hc : w.cell? ⟨16, 15, none⟩ = some (.int .u8 4)) : Calls Tryz.prog 139 #[.int .u64 16] w fun e w' => e = .returned (.int .i64 4) ∧ w = w' := by
  have HC : Hid (w.cell? ⟨16, 15, none⟩ = some (.int .u8 4)) := hc
  clear hc
  go_enter Tryz.func139, Tryz.ntmps139
  go_wp2_with (go_at_call 148; refine (tz64_16 _ HC.out).mono ?_; rintro e w' ⟨rfl, rfl⟩)
  go_ret
  exact ⟨rfl, rfl⟩

/-- The digits. -/
abbrev digB : ByteArray := ⟨#[48, 49, 50, 51, 52, 53, 54, 55, 56, 57, 97, 98, 99, 100, 101, 102, 103, 104, 105, 106, 107, 108, 109, 110, 111, 112, 113, 114, 115, 116, 117, 118, 119, 120, 121, 122]⟩
theorem zc_size : Tryz.zeroCells175.size = 65 := by kernel_rfl

theorem conv_back (w : World) (a : Addr) (cap n : Nat) (l : List UInt8) (hn : l.length = n) (hc : ∀ j (hj : j < l.length), w.cell? (a.add j) = some (.int .u8 (l[j].toNat : Int))) : (convert 54 9 (.slice (some a) n cap)).run Tryz.prog w = .ok (.string ⟨l.toArray⟩) w := by
  subst hn
  exact run_convert_bytes_back w 54 9 5 a cap l Tryz.underlying54 Tryz.underlying5 Tryz.underlying9 hc

set_option maxRecDepth 1000000 in
set_option maxHeartbeats 3200000 in
theorem fbits_3 (U u1 u2 : Int) (d0 d1 d2 : Nat) (h1 : U / 16 = u1) (h2 : u1 / 16 = u2) (h3 : u2 / 16 = 1) (g0 : 16 ≤ U) (g1 : 16 ≤ u1) (g2 : 16 ≤ u2) (k0 : bits .and .u64 U 15 = (d0 : Int)) (k1 : bits .and .u64 u1 15 = (d1 : Int)) (k2 : bits .and .u64 u2 15 = (d2 : Int)) (j0 : d0 < 36) (j1 : d1 < 36) (j2 : d2 < 36) (w : World) (hc : w.cell? ⟨16, 15, none⟩ = some (.int .u8 4)) :
    Calls Tryz.prog 119 #[.slice none 0 0, .int .u64 U, .int .i64 16, .bool false, .bool false] w fun e w' => e = .returned (.tuple #[.slice none 0 0, .string ⟨([49, digB[d2]'j2, digB[d1]'j1, digB[d0]'j0] : List UInt8).toArray⟩]) ∧ Below w.heap.size w w' := by
  have HC : Hid (w.cell? ⟨16, 15, none⟩ = some (.int .u8 4)) := hc
  clear hc
  have n0 : (0 : Int) ≤ (d0 : Int) := Int.natCast_nonneg _
  have m0 : (d0 : Int) < 36 := by omega
  have n1 : (0 : Int) ≤ (d1 : Int) := Int.natCast_nonneg _
  have m1 : (d1 : Int) < 36 := by omega
  have n2 : (0 : Int) ≤ (d2 : Int) := Int.natCast_nonneg _
  have m2 : (d2 : Int) < 36 := by omega
  go_enter Tryz.func119, Tryz.ntmps119
  go_wp2_with (first
    | (go_at_call 138; refine (pow2_16 _).mono ?_; rintro e w' ⟨rfl, rfl⟩)
    | (go_at_call 139; refine (tz_16 _ ?_).mono ?_; exact (((Below.refl w.heap.size w).alloc (Nat.le_refl _) _).cell (World.block_lt_of_cell? _ _ HC.out)).trans HC.out; rintro e w' ⟨rfl, rfl⟩))
  refine wp_loop_rounds 4 ?_
  rw [rounds_succ]
  go_wp2
  rw [rounds_succ]
  go_wp2
  rw [rounds_succ]
  go_wp2
  rw [rounds_succ]
  go_wp2
  rw [conv_back _ ⟨w.heap.size, 61, none⟩ 4 4 [49, digB[d2]'j2, digB[d1]'j1, digB[d0]'j0] rfl ?hc]
  case hc =>
    intro j hj
    match j, hj with
    | 0, _ => simp [go_sem, Addr.add, Array.getElem?_setIfInBounds, zc_size]; rfl
    | 1, _ => simp [go_sem, Addr.add, Array.getElem?_setIfInBounds, zc_size]
    | 2, _ => simp [go_sem, Addr.add, Array.getElem?_setIfInBounds, zc_size]
    | 3, _ => simp [go_sem, Addr.add, Array.getElem?_setIfInBounds, zc_size]
  simp only [Result.andThen]
  rw [Oper.upon_value]
  go_wp2
  exact bodyPost_ret (v := .tuple #[.slice none 0 0, .string ⟨([49, digB[d2]'j2, digB[d1]'j1, digB[d0]'j0] : List UInt8).toArray⟩]) (by simp [results, Tryz.results119, go_sem]) rfl ⟨rfl, (Below.refl _ _).alloc (Nat.le_refl _) _⟩

set_option maxRecDepth 1000000 in
set_option maxHeartbeats 3200000 in
theorem fbits_8 (U u1 u2 u3 u4 u5 u6 u7 : Int) (d0 d1 d2 d3 d4 d5 d6 d7 : Nat) (h1 : U / 16 = u1) (h2 : u1 / 16 = u2) (h3 : u2 / 16 = u3) (h4 : u3 / 16 = u4) (h5 : u4 / 16 = u5) (h6 : u5 / 16 = u6) (h7 : u6 / 16 = u7) (h8 : u7 / 16 = 1) (g0 : 16 ≤ U) (g1 : 16 ≤ u1) (g2 : 16 ≤ u2) (g3 : 16 ≤ u3) (g4 : 16 ≤ u4) (g5 : 16 ≤ u5) (g6 : 16 ≤ u6) (g7 : 16 ≤ u7) (k0 : bits .and .u64 U 15 = (d0 : Int)) (k1 : bits .and .u64 u1 15 = (d1 : Int)) (k2 : bits .and .u64 u2 15 = (d2 : Int)) (k3 : bits .and .u64 u3 15 = (d3 : Int)) (k4 : bits .and .u64 u4 15 = (d4 : Int)) (k5 : bits .and .u64 u5 15 = (d5 : Int)) (k6 : bits .and .u64 u6 15 = (d6 : Int)) (k7 : bits .and .u64 u7 15 = (d7 : Int)) (j0 : d0 < 36) (j1 : d1 < 36) (j2 : d2 < 36) (j3 : d3 < 36) (j4 : d4 < 36) (j5 : d5 < 36) (j6 : d6 < 36) (j7 : d7 < 36) (w : World) (hc : w.cell? ⟨16, 15, none⟩ = some (.int .u8 4)) :
    Calls Tryz.prog 119 #[.slice none 0 0, .int .u64 U, .int .i64 16, .bool false, .bool false] w fun e w' => e = .returned (.tuple #[.slice none 0 0, .string ⟨([49, digB[d7]'j7, digB[d6]'j6, digB[d5]'j5, digB[d4]'j4, digB[d3]'j3, digB[d2]'j2, digB[d1]'j1, digB[d0]'j0] : List UInt8).toArray⟩]) ∧ Below w.heap.size w w' := by
  have HC : Hid (w.cell? ⟨16, 15, none⟩ = some (.int .u8 4)) := hc
  clear hc
  have n0 : (0 : Int) ≤ (d0 : Int) := Int.natCast_nonneg _
  have m0 : (d0 : Int) < 36 := by omega
  have n1 : (0 : Int) ≤ (d1 : Int) := Int.natCast_nonneg _
  have m1 : (d1 : Int) < 36 := by omega
  have n2 : (0 : Int) ≤ (d2 : Int) := Int.natCast_nonneg _
  have m2 : (d2 : Int) < 36 := by omega
  have n3 : (0 : Int) ≤ (d3 : Int) := Int.natCast_nonneg _
  have m3 : (d3 : Int) < 36 := by omega
  have n4 : (0 : Int) ≤ (d4 : Int) := Int.natCast_nonneg _
  have m4 : (d4 : Int) < 36 := by omega
  have n5 : (0 : Int) ≤ (d5 : Int) := Int.natCast_nonneg _
  have m5 : (d5 : Int) < 36 := by omega
  have n6 : (0 : Int) ≤ (d6 : Int) := Int.natCast_nonneg _
  have m6 : (d6 : Int) < 36 := by omega
  have n7 : (0 : Int) ≤ (d7 : Int) := Int.natCast_nonneg _
  have m7 : (d7 : Int) < 36 := by omega
  go_enter Tryz.func119, Tryz.ntmps119
  go_wp2_with (first
    | (go_at_call 138; refine (pow2_16 _).mono ?_; rintro e w' ⟨rfl, rfl⟩)
    | (go_at_call 139; refine (tz_16 _ ?_).mono ?_; exact (((Below.refl w.heap.size w).alloc (Nat.le_refl _) _).cell (World.block_lt_of_cell? _ _ HC.out)).trans HC.out; rintro e w' ⟨rfl, rfl⟩))
  refine wp_loop_rounds 9 ?_
  rw [rounds_succ]
  go_wp2
  rw [rounds_succ]
  go_wp2
  rw [rounds_succ]
  go_wp2
  rw [rounds_succ]
  go_wp2
  rw [rounds_succ]
  go_wp2
  rw [rounds_succ]
  go_wp2
  rw [rounds_succ]
  go_wp2
  rw [rounds_succ]
  go_wp2
  rw [rounds_succ]
  go_wp2
  rw [conv_back _ ⟨w.heap.size, 56, none⟩ 9 9 [49, digB[d7]'j7, digB[d6]'j6, digB[d5]'j5, digB[d4]'j4, digB[d3]'j3, digB[d2]'j2, digB[d1]'j1, digB[d0]'j0] rfl ?hc]
  case hc =>
    intro j hj
    match j, hj with
    | 0, _ => simp [go_sem, Addr.add, Array.getElem?_setIfInBounds, zc_size]; rfl
    | 1, _ => simp [go_sem, Addr.add, Array.getElem?_setIfInBounds, zc_size]
    | 2, _ => simp [go_sem, Addr.add, Array.getElem?_setIfInBounds, zc_size]
    | 3, _ => simp [go_sem, Addr.add, Array.getElem?_setIfInBounds, zc_size]
    | 4, _ => simp [go_sem, Addr.add, Array.getElem?_setIfInBounds, zc_size]
    | 5, _ => simp [go_sem, Addr.add, Array.getElem?_setIfInBounds, zc_size]
    | 6, _ => simp [go_sem, Addr.add, Array.getElem?_setIfInBounds, zc_size]
    | 7, _ => simp [go_sem, Addr.add, Array.getElem?_setIfInBounds, zc_size]
    | 8, _ => simp [go_sem, Addr.add, Array.getElem?_setIfInBounds, zc_size]
  simp only [Result.andThen]
  rw [Oper.upon_value]
  go_wp2
  exact bodyPost_ret (v := .tuple #[.slice none 0 0, .string ⟨([49, digB[d7]'j7, digB[d6]'j6, digB[d5]'j5, digB[d4]'j4, digB[d3]'j3, digB[d2]'j2, digB[d1]'j1, digB[d0]'j0] : List UInt8).toArray⟩]) (by simp [results, Tryz.results119, go_sem]) rfl ⟨rfl, (Below.refl _ _).alloc (Nat.le_refl _) _⟩

end Go.Proofs.YtbndaiombnikfaaGreatDoor

/- A word's hexadecimal digits, so many. -/
namespace Go.Proofs.YtbndaiombnikfaaGreatDoor
open Go.ChangeShapes Go.WideShapes Go.ChangeAt Go.RowKit
set_option linter.unusedVariables false
set_option linter.unusedSimpArgs false

namespace W
/-- A hexadecimal small digit. -/
def hd (d : Nat) : UInt8 := if d < 10 then UInt8.ofNat (48 + d) else UInt8.ofNat (87 + d)
/-- The last n hexadecimal digits of x. -/
def hexL (x : Nat) : Nat → List UInt8
  | 0 => []
  | n + 1 => hexL (x / 16) n ++ [hd (x % 16)]
end W
theorem ba_extract (L : List UInt8) (i j : Nat) : (⟨L.toArray⟩ : ByteArray).extract i j = ⟨((L.drop i).take (j - i)).toArray⟩ := by
  apply ByteArray.ext
  rw [ByteArray.data_extract]
  simp [List.extract_eq_take_drop]
theorem digB_at (d : Nat) (h : d < 36) (h' : d < 16) : digB[d]'h = W.hd d := by
  have : ∀ d : Fin 16, digB.data[d.val]! = W.hd d.val := by decide
  have e := this ⟨d, h'⟩
  rw [← e]
  show digB.data[d] = _
  rw [getElem!_pos]
theorem and15 (a : Nat) (h : a < 18446744073709551616) : bits .and .u64 (a : Int) 15 = ((a % 16 : Nat) : Int) := by
  rw [show (15 : Int) = ((15 : Nat) : Int) from rfl, u64_and_nat a 15 h (by decide), show (15 : Nat) = 2 ^ 4 - 1 from rfl, Nat.and_two_pow_sub_one_eq_mod]
theorem or_top (k x : Nat) (hx : x < 2 ^ k) (hk : k ≤ 60) : bits .or .u64 ((2 ^ k : Nat) : Int) (x : Int) = ((2 ^ k + x : Nat) : Int) := by
  have hp : 2 ^ k ≤ 2 ^ 60 := Nat.pow_le_pow_right (by decide) hk
  have e60 : (2 : Nat) ^ 60 = 1152921504606846976 := by decide
  rw [u64_or_nat _ _ (by omega) (by omega)]
  have := Nat.two_pow_add_eq_or_of_lt hx 1
  rw [Nat.mul_one] at this
  rw [this]

theorem fb3 (x : Nat) (hx : x < 4096) (w : World) (hc : w.cell? ⟨16, 15, none⟩ = some (.int .u8 4)) :
    Calls Tryz.prog 119 #[.slice none 0 0, .int .u64 ((4096 + x : Nat) : Int), .int .i64 16, .bool false, .bool false] w fun e w' => e = .returned (.tuple #[.slice none 0 0, .string ⟨(49 :: W.hexL x 3).toArray⟩]) ∧ Below w.heap.size w w' := by
  have h := fbits_3 ((4096 + x : Nat) : Int) ((256 + x / 16 : Nat) : Int) ((16 + x / 256 : Nat) : Int) (x % 16) (x / 16 % 16) (x / 256 % 16) (by omega) (by omega) (by omega) (by omega) (by omega) (by omega) (by rw [and15 _ (by omega)]; congr 1; omega) (by rw [and15 _ (by omega)]; congr 1; omega) (by rw [and15 _ (by omega)]; congr 1; omega) (by omega) (by omega) (by omega) w hc
  have e : ([49, W.hd (x / 256 % 16), W.hd (x / 16 % 16), W.hd (x % 16)] : List UInt8) = 49 :: W.hexL x 3 := by
    simp only [W.hexL, List.nil_append, List.cons_append, List.append_assoc, Nat.div_div_eq_div_mul]
  rw [← e]
  rw [digB_at (x % 16) (by omega) (by omega)] at h
  rw [digB_at (x / 16 % 16) (by omega) (by omega)] at h
  rw [digB_at (x / 256 % 16) (by omega) (by omega)] at h
  exact h

theorem fui3 (x : Nat) (hx : x < 4096) (w : World) (hc : w.cell? ⟨16, 15, none⟩ = some (.int .u8 4)) :
    Calls Tryz.prog 127 #[.int .u64 ((4096 + x : Nat) : Int), .int .i64 16] w fun e w' => e = .returned (.string ⟨(49 :: W.hexL x 3).toArray⟩) ∧ Below w.heap.size w w' := by
  have HC : Hid (w.cell? ⟨16, 15, none⟩ = some (.int .u8 4)) := hc
  clear hc
  generalize hU : ((4096 + x : Nat) : Int) = U
  have HU : Hid (((4096 + x : Nat) : Int) = U) := hU
  clear hU
  go_enter Tryz.func127, Tryz.ntmps127
  go_wp2_with (go_at_call 119; rw [← HU.out]; refine (fb3 x hx _ HC.out).mono ?_; rintro e w1 ⟨rfl, hm⟩)
  go_ret
  exact ⟨rfl, hm⟩

theorem fu3 (x : Nat) (hx : x < 4096) (w : World) (hc : w.cell? ⟨16, 15, none⟩ = some (.int .u8 4)) :
    Calls Tryz.prog 103 #[.int .u64 ((4096 + x : Nat) : Int), .int .i64 16] w fun e w' => e = .returned (.string ⟨(49 :: W.hexL x 3).toArray⟩) ∧ Below w.heap.size w w' := by
  have HC : Hid (w.cell? ⟨16, 15, none⟩ = some (.int .u8 4)) := hc
  clear hc
  generalize hU : ((4096 + x : Nat) : Int) = U
  have HU : Hid (((4096 + x : Nat) : Int) = U) := hU
  clear hU
  go_enter Tryz.func103, Tryz.ntmps103
  go_wp2_with (go_at_call 127; rw [← HU.out]; refine (fui3 x hx _ HC.out).mono ?_; rintro e w1 ⟨rfl, hm⟩)
  go_ret
  exact ⟨rfl, hm⟩

set_option maxRecDepth 100000 in
theorem hex3 (A : Nat → Addr) (x : Nat) (hx : x < 4096) (w : World) (hS : Sg A w) :
    Calls Tryz.prog 74 #[.int .u32 x, .int .i64 3] w fun e w' => e = .returned (.string ⟨(48 :: 120 :: W.hexL x 3).toArray⟩) ∧ Below w.heap.size w w' := by
  have HS : Hid (Sg A w) := hS
  have hor : bits .or .u64 4096 (x : Int) = ((4096 + x : Nat) : Int) := or_top 12 x hx (by decide)
  generalize hU : ((4096 + x : Nat) : Int) = U at hor
  have HU : Hid (((4096 + x : Nat) : Int) = U) := hU
  have hl : (W.hexL x 3).length = 3 := by simp [W.hexL]
  generalize hL : W.hexL x 3 = L at hl
  have HL : Hid (W.hexL x 3 = L) := hL
  clear hU hS hL
  go_enter Tryz.func74, Tryz.ntmps74
  go_wp2_with (go_at_call 103; rw [← HU.out]; refine (fu3 x hx _ HS.out.tz).mono ?_; rintro e w1 ⟨rfl, hm⟩; have HM : Hid (Below w.heap.size w w1) := hm; clear hm; rw [HL.out])
  go_ret
  refine ⟨?_, HM.out⟩
  have e1 : (⟨(49 :: L).toArray⟩ : ByteArray).extract 1 4 = ⟨L.toArray⟩ := by
    rw [ba_extract]
    simp [List.take_of_length_le, hl]
  have e2 : ((⟨#[48, 120]⟩ : ByteArray) ++ (⟨(49 :: L).toArray⟩ : ByteArray).extract 1 4) = ⟨(48 :: 120 :: L).toArray⟩ := by
    rw [e1]
    exact ba_append [48, 120] L
  exact congrArg (fun s => Ending.returned (.string s)) e2

theorem fb8 (x : Nat) (hx : x < 4294967296) (w : World) (hc : w.cell? ⟨16, 15, none⟩ = some (.int .u8 4)) :
    Calls Tryz.prog 119 #[.slice none 0 0, .int .u64 ((4294967296 + x : Nat) : Int), .int .i64 16, .bool false, .bool false] w fun e w' => e = .returned (.tuple #[.slice none 0 0, .string ⟨(49 :: W.hexL x 8).toArray⟩]) ∧ Below w.heap.size w w' := by
  have h := fbits_8 ((4294967296 + x : Nat) : Int) ((268435456 + x / 16 : Nat) : Int) ((16777216 + x / 256 : Nat) : Int) ((1048576 + x / 4096 : Nat) : Int) ((65536 + x / 65536 : Nat) : Int) ((4096 + x / 1048576 : Nat) : Int) ((256 + x / 16777216 : Nat) : Int) ((16 + x / 268435456 : Nat) : Int) (x % 16) (x / 16 % 16) (x / 256 % 16) (x / 4096 % 16) (x / 65536 % 16) (x / 1048576 % 16) (x / 16777216 % 16) (x / 268435456 % 16) (by omega) (by omega) (by omega) (by omega) (by omega) (by omega) (by omega) (by omega) (by omega) (by omega) (by omega) (by omega) (by omega) (by omega) (by omega) (by omega) (by rw [and15 _ (by omega)]; congr 1; omega) (by rw [and15 _ (by omega)]; congr 1; omega) (by rw [and15 _ (by omega)]; congr 1; omega) (by rw [and15 _ (by omega)]; congr 1; omega) (by rw [and15 _ (by omega)]; congr 1; omega) (by rw [and15 _ (by omega)]; congr 1; omega) (by rw [and15 _ (by omega)]; congr 1; omega) (by rw [and15 _ (by omega)]; congr 1; omega) (by omega) (by omega) (by omega) (by omega) (by omega) (by omega) (by omega) (by omega) w hc
  have e : ([49, W.hd (x / 268435456 % 16), W.hd (x / 16777216 % 16), W.hd (x / 1048576 % 16), W.hd (x / 65536 % 16), W.hd (x / 4096 % 16), W.hd (x / 256 % 16), W.hd (x / 16 % 16), W.hd (x % 16)] : List UInt8) = 49 :: W.hexL x 8 := by
    simp only [W.hexL, List.nil_append, List.cons_append, List.append_assoc, Nat.div_div_eq_div_mul]
  rw [← e]
  rw [digB_at (x % 16) (by omega) (by omega)] at h
  rw [digB_at (x / 16 % 16) (by omega) (by omega)] at h
  rw [digB_at (x / 256 % 16) (by omega) (by omega)] at h
  rw [digB_at (x / 4096 % 16) (by omega) (by omega)] at h
  rw [digB_at (x / 65536 % 16) (by omega) (by omega)] at h
  rw [digB_at (x / 1048576 % 16) (by omega) (by omega)] at h
  rw [digB_at (x / 16777216 % 16) (by omega) (by omega)] at h
  rw [digB_at (x / 268435456 % 16) (by omega) (by omega)] at h
  exact h

theorem fui8 (x : Nat) (hx : x < 4294967296) (w : World) (hc : w.cell? ⟨16, 15, none⟩ = some (.int .u8 4)) :
    Calls Tryz.prog 127 #[.int .u64 ((4294967296 + x : Nat) : Int), .int .i64 16] w fun e w' => e = .returned (.string ⟨(49 :: W.hexL x 8).toArray⟩) ∧ Below w.heap.size w w' := by
  have HC : Hid (w.cell? ⟨16, 15, none⟩ = some (.int .u8 4)) := hc
  clear hc
  generalize hU : ((4294967296 + x : Nat) : Int) = U
  have HU : Hid (((4294967296 + x : Nat) : Int) = U) := hU
  clear hU
  go_enter Tryz.func127, Tryz.ntmps127
  go_wp2_with (go_at_call 119; rw [← HU.out]; refine (fb8 x hx _ HC.out).mono ?_; rintro e w1 ⟨rfl, hm⟩)
  go_ret
  exact ⟨rfl, hm⟩

theorem fu8 (x : Nat) (hx : x < 4294967296) (w : World) (hc : w.cell? ⟨16, 15, none⟩ = some (.int .u8 4)) :
    Calls Tryz.prog 103 #[.int .u64 ((4294967296 + x : Nat) : Int), .int .i64 16] w fun e w' => e = .returned (.string ⟨(49 :: W.hexL x 8).toArray⟩) ∧ Below w.heap.size w w' := by
  have HC : Hid (w.cell? ⟨16, 15, none⟩ = some (.int .u8 4)) := hc
  clear hc
  generalize hU : ((4294967296 + x : Nat) : Int) = U
  have HU : Hid (((4294967296 + x : Nat) : Int) = U) := hU
  clear hU
  go_enter Tryz.func103, Tryz.ntmps103
  go_wp2_with (go_at_call 127; rw [← HU.out]; refine (fui8 x hx _ HC.out).mono ?_; rintro e w1 ⟨rfl, hm⟩)
  go_ret
  exact ⟨rfl, hm⟩

set_option maxRecDepth 100000 in
theorem hex8 (A : Nat → Addr) (x : Nat) (hx : x < 4294967296) (w : World) (hS : Sg A w) :
    Calls Tryz.prog 74 #[.int .u32 x, .int .i64 8] w fun e w' => e = .returned (.string ⟨(48 :: 120 :: W.hexL x 8).toArray⟩) ∧ Below w.heap.size w w' := by
  have HS : Hid (Sg A w) := hS
  have hor : bits .or .u64 4294967296 (x : Int) = ((4294967296 + x : Nat) : Int) := or_top 32 x hx (by decide)
  generalize hU : ((4294967296 + x : Nat) : Int) = U at hor
  have HU : Hid (((4294967296 + x : Nat) : Int) = U) := hU
  have hl : (W.hexL x 8).length = 8 := by simp [W.hexL]
  generalize hL : W.hexL x 8 = L at hl
  have HL : Hid (W.hexL x 8 = L) := hL
  clear hU hS hL
  go_enter Tryz.func74, Tryz.ntmps74
  go_wp2_with (go_at_call 103; rw [← HU.out]; refine (fu8 x hx _ HS.out.tz).mono ?_; rintro e w1 ⟨rfl, hm⟩; have HM : Hid (Below w.heap.size w w1) := hm; clear hm; rw [HL.out])
  go_ret
  refine ⟨?_, HM.out⟩
  have e1 : (⟨(49 :: L).toArray⟩ : ByteArray).extract 1 9 = ⟨L.toArray⟩ := by
    rw [ba_extract]
    simp [List.take_of_length_le, hl]
  have e2 : ((⟨#[48, 120]⟩ : ByteArray) ++ (⟨(49 :: L).toArray⟩ : ByteArray).extract 1 9) = ⟨(48 :: 120 :: L).toArray⟩ := by
    rw [e1]
    exact ba_append [48, 120] L
  exact congrArg (fun s => Ending.returned (.string s)) e2

end Go.Proofs.YtbndaiombnikfaaGreatDoor

/- How a part of an instruction is written. -/
namespace Go.Proofs.YtbndaiombnikfaaGreatDoor
open Go.ChangeShapes Go.WideShapes Go.ChangeAt Go.RowKit
set_option linter.unusedVariables false
set_option linter.unusedSimpArgs false

namespace W
def pU (i : I) : List UInt8 := Lib.itoa (wrap32 (bitsOf i.imm 12 20))
def pP (i : I) : List UInt8 := Lib.itoa (wrap32 (bitsOf i.imm 4 4))
def pS (i : I) : List UInt8 := Lib.itoa (wrap32 (bitsOf i.imm 0 4))
def pick8 (k : Nat) (a b c d e f g h : List UInt8) : List UInt8 := bif k == 100 then a else bif k == 49 then b else bif k == 50 then c else bif k == 99 then d else bif k == 105 then e else bif k == 117 then f else bif k == 112 then g else bif k == 115 then h else []
theorem pick8_100 (a b c d e f g h : List UInt8) : pick8 100 a b c d e f g h = a := rfl
theorem pick8_49 (a b c d e f g h : List UInt8) : pick8 49 a b c d e f g h = b := rfl
theorem pick8_50 (a b c d e f g h : List UInt8) : pick8 50 a b c d e f g h = c := rfl
theorem pick8_99 (a b c d e f g h : List UInt8) : pick8 99 a b c d e f g h = d := rfl
theorem pick8_105 (a b c d e f g h : List UInt8) : pick8 105 a b c d e f g h = e := rfl
theorem pick8_117 (a b c d e f g h : List UInt8) : pick8 117 a b c d e f g h = f := rfl
theorem pick8_112 (a b c d e f g h : List UInt8) : pick8 112 a b c d e f g h = g := rfl
theorem pick8_115 (a b c d e f g h : List UInt8) : pick8 115 a b c d e f g h = h := rfl
/-- A part, by its letter. -/
def partL (i : I) (c : Nat) : List UInt8 := pick8 c (regL i.rd.toNat) (regL i.rs1.toNat) (regL i.rs2.toNat) (48 :: 120 :: hexL i.csr.toNat 3) (Lib.itoa (wrap32 i.imm)) (pU i) (pP i) (pS i)
theorem partL_100 (i : I) : partL i 100 = regL i.rd.toNat := pick8_100 _ _ _ _ _ _ _ _
theorem partL_49 (i : I) : partL i 49 = regL i.rs1.toNat := pick8_49 _ _ _ _ _ _ _ _
theorem partL_50 (i : I) : partL i 50 = regL i.rs2.toNat := pick8_50 _ _ _ _ _ _ _ _
theorem partL_99 (i : I) : partL i 99 = 48 :: 120 :: hexL i.csr.toNat 3 := pick8_99 _ _ _ _ _ _ _ _
theorem partL_105 (i : I) : partL i 105 = Lib.itoa (wrap32 i.imm) := pick8_105 _ _ _ _ _ _ _ _
theorem partL_117 (i : I) : partL i 117 = pU i := pick8_117 _ _ _ _ _ _ _ _
theorem partL_112 (i : I) : partL i 112 = pP i := pick8_112 _ _ _ _ _ _ _ _
theorem partL_115 (i : I) : partL i 115 = pS i := pick8_115 _ _ _ _ _ _ _ _
end W

theorem part_100 (A : Nat → Addr) (i : W.I) (hr : W.InR i) (w : World) (hS : Sg A w) : Calls Tryz.prog 59 #[inV i, .int .i32 100] w fun e w' => e = .returned (.string ⟨(W.partL i 100).toArray⟩) ∧ Below w.heap.size w w' := by
  obtain ⟨n, hn⟩ := Int.eq_ofNat_of_zero_le hr.rd0
  have hn' : n < 100 := by have := hr.rd1; omega
  have hv : Hid (W.partL i 100 = W.regL n) := (by rw [W.partL_100, hn, Int.toNat_natCast] : W.partL i 100 = W.regL n)
  clear hr hS
  unfold inV
  rw [hn]
  go_enter Tryz.func59, Tryz.ntmps59
  go_wp2_with (go_at_call 90; refine (register_any n hn' _).mono ?_; rintro e w1 ⟨rfl, rfl⟩)
  go_ret
  exact ⟨by rw [hv.out]; rfl, (Below.refl _ _).alloc (Nat.le_refl _) _⟩

theorem part_49 (A : Nat → Addr) (i : W.I) (hr : W.InR i) (w : World) (hS : Sg A w) : Calls Tryz.prog 59 #[inV i, .int .i32 49] w fun e w' => e = .returned (.string ⟨(W.partL i 49).toArray⟩) ∧ Below w.heap.size w w' := by
  obtain ⟨n, hn⟩ := Int.eq_ofNat_of_zero_le hr.rs10
  have hn' : n < 100 := by have := hr.rs11; omega
  have hv : Hid (W.partL i 49 = W.regL n) := (by rw [W.partL_49, hn, Int.toNat_natCast] : W.partL i 49 = W.regL n)
  clear hr hS
  unfold inV
  rw [hn]
  go_enter Tryz.func59, Tryz.ntmps59
  go_wp2_with (go_at_call 90; refine (register_any n hn' _).mono ?_; rintro e w1 ⟨rfl, rfl⟩)
  go_ret
  exact ⟨by rw [hv.out]; rfl, (Below.refl _ _).alloc (Nat.le_refl _) _⟩

theorem part_50 (A : Nat → Addr) (i : W.I) (hr : W.InR i) (w : World) (hS : Sg A w) : Calls Tryz.prog 59 #[inV i, .int .i32 50] w fun e w' => e = .returned (.string ⟨(W.partL i 50).toArray⟩) ∧ Below w.heap.size w w' := by
  obtain ⟨n, hn⟩ := Int.eq_ofNat_of_zero_le hr.rs20
  have hn' : n < 100 := by have := hr.rs21; omega
  have hv : Hid (W.partL i 50 = W.regL n) := (by rw [W.partL_50, hn, Int.toNat_natCast] : W.partL i 50 = W.regL n)
  clear hr hS
  unfold inV
  rw [hn]
  go_enter Tryz.func59, Tryz.ntmps59
  go_wp2_with (go_at_call 90; refine (register_any n hn' _).mono ?_; rintro e w1 ⟨rfl, rfl⟩)
  go_ret
  exact ⟨by rw [hv.out]; rfl, (Below.refl _ _).alloc (Nat.le_refl _) _⟩

theorem part_99 (A : Nat → Addr) (i : W.I) (hr : W.InR i) (w : World) (hS : Sg A w) : Calls Tryz.prog 59 #[inV i, .int .i32 99] w fun e w' => e = .returned (.string ⟨(W.partL i 99).toArray⟩) ∧ Below w.heap.size w w' := by
  obtain ⟨n, hn⟩ := Int.eq_ofNat_of_zero_le hr.csr0
  have hn' : n < 4096 := by have := hr.csr1; omega
  have hv : Hid (W.partL i 99 = 48 :: 120 :: W.hexL n 3) := (by rw [W.partL_99, hn, Int.toNat_natCast] : W.partL i 99 = 48 :: 120 :: W.hexL n 3)
  have HS : Hid (∀ o, Sg A (w.alloc o)) := (fun o => hS.below ((Below.refl _ _).alloc (Nat.le_refl _) _) : ∀ o, Sg A (w.alloc o))
  have hm32 : (n : Int) % 4294967296 = n := by omega
  clear hr hS
  unfold inV
  rw [hn]
  go_enter Tryz.func59, Tryz.ntmps59
  go_wp2_with (go_at_call 74; refine (hex3 A n hn' _ (HS.out _)).mono ?_; rintro e w1 ⟨rfl, hm⟩; have HM : Hid (Below w.heap.size w w1) := ((Below.refl _ _).alloc (Nat.le_refl _) _).trans (hm.mono (by simp)); clear hm)
  go_ret
  exact ⟨by rw [hv.out]; rfl, HM.out⟩

theorem part_105 (A : Nat → Addr) (i : W.I) (w : World) (hS : Sg A w) : Calls Tryz.prog 59 #[inV i, .int .i32 105] w fun e w' => e = .returned (.string ⟨(W.partL i 105).toArray⟩) ∧ Below w.heap.size w w' := by
  have HS : Hid (∀ o, Sg A (w.alloc o)) := (fun o => hS.below ((Below.refl _ _).alloc (Nat.le_refl _) _) : ∀ o, Sg A (w.alloc o))
  clear hS
  rw [W.partL_105]
  generalize hz : Lib.itoa _ = L
  have HZ : Hid (Lib.itoa _ = L) := hz
  clear hz
  unfold inV
  go_enter Tryz.func59, Tryz.ntmps59
  go_wp2_with (go_at_call 91; refine (decimal_any A _ _ (HS.out _)).mono ?_; rintro e w1 ⟨rfl, hm⟩; rw [HZ.out]; have HM : Hid (Below w.heap.size w w1) := ((Below.refl _ _).alloc (Nat.le_refl _) _).trans (hm.mono (by simp)); clear hm)
  go_ret
  exact ⟨rfl, HM.out⟩

theorem part_117 (A : Nat → Addr) (i : W.I) (w : World) (hS : Sg A w) : Calls Tryz.prog 59 #[inV i, .int .i32 117] w fun e w' => e = .returned (.string ⟨(W.partL i 117).toArray⟩) ∧ Below w.heap.size w w' := by
  have HS : Hid (∀ o w', Below (w.alloc o).heap.size (w.alloc o) w' → Sg A w') := (fun o w' hb => (hS.below ((Below.refl _ _).alloc (Nat.le_refl _) _)).below hb : ∀ o w', Below (w.alloc o).heap.size (w.alloc o) w' → Sg A w')
  clear hS
  rw [W.partL_117, W.pU]
  generalize hz : Lib.itoa _ = L
  have HZ : Hid (Lib.itoa _ = L) := hz
  clear hz
  unfold inV
  go_enter Tryz.func59, Tryz.ntmps59
  go_wp2_with (first
    | (go_at_call 92; refine (bits_bel _ _ _ _).mono ?_; rintro e w1 ⟨rfl, hm⟩; have HG : Hid (Sg A w1) := HS.out _ _ hm; have HB : Hid (Below w.heap.size w w1) := ((Below.refl _ _).alloc (Nat.le_refl _) _).trans (hm.mono (by simp)); clear hm)
    | (go_at_call 91; refine (decimal_any A _ _ HG.out).mono ?_; rintro e w2 ⟨rfl, hm⟩; rw [HZ.out]; have HM : Hid (Below w.heap.size w w2) := HB.out.trans (hm.mono HB.out.size); clear hm))
  go_ret
  exact ⟨rfl, HM.out⟩

theorem part_112 (A : Nat → Addr) (i : W.I) (w : World) (hS : Sg A w) : Calls Tryz.prog 59 #[inV i, .int .i32 112] w fun e w' => e = .returned (.string ⟨(W.partL i 112).toArray⟩) ∧ Below w.heap.size w w' := by
  have HS : Hid (∀ o w', Below (w.alloc o).heap.size (w.alloc o) w' → Sg A w') := (fun o w' hb => (hS.below ((Below.refl _ _).alloc (Nat.le_refl _) _)).below hb : ∀ o w', Below (w.alloc o).heap.size (w.alloc o) w' → Sg A w')
  clear hS
  rw [W.partL_112, W.pP]
  generalize hz : Lib.itoa _ = L
  have HZ : Hid (Lib.itoa _ = L) := hz
  clear hz
  unfold inV
  go_enter Tryz.func59, Tryz.ntmps59
  go_wp2_with (first
    | (go_at_call 92; refine (bits_bel _ _ _ _).mono ?_; rintro e w1 ⟨rfl, hm⟩; have HG : Hid (Sg A w1) := HS.out _ _ hm; have HB : Hid (Below w.heap.size w w1) := ((Below.refl _ _).alloc (Nat.le_refl _) _).trans (hm.mono (by simp)); clear hm)
    | (go_at_call 91; refine (decimal_any A _ _ HG.out).mono ?_; rintro e w2 ⟨rfl, hm⟩; rw [HZ.out]; have HM : Hid (Below w.heap.size w w2) := HB.out.trans (hm.mono HB.out.size); clear hm))
  go_ret
  exact ⟨rfl, HM.out⟩

theorem part_115 (A : Nat → Addr) (i : W.I) (w : World) (hS : Sg A w) : Calls Tryz.prog 59 #[inV i, .int .i32 115] w fun e w' => e = .returned (.string ⟨(W.partL i 115).toArray⟩) ∧ Below w.heap.size w w' := by
  have HS : Hid (∀ o w', Below (w.alloc o).heap.size (w.alloc o) w' → Sg A w') := (fun o w' hb => (hS.below ((Below.refl _ _).alloc (Nat.le_refl _) _)).below hb : ∀ o w', Below (w.alloc o).heap.size (w.alloc o) w' → Sg A w')
  clear hS
  rw [W.partL_115, W.pS]
  generalize hz : Lib.itoa _ = L
  have HZ : Hid (Lib.itoa _ = L) := hz
  clear hz
  unfold inV
  go_enter Tryz.func59, Tryz.ntmps59
  go_wp2_with (first
    | (go_at_call 92; refine (bits_bel _ _ _ _).mono ?_; rintro e w1 ⟨rfl, hm⟩; have HG : Hid (Sg A w1) := HS.out _ _ hm; have HB : Hid (Below w.heap.size w w1) := ((Below.refl _ _).alloc (Nat.le_refl _) _).trans (hm.mono (by simp)); clear hm)
    | (go_at_call 91; refine (decimal_any A _ _ HG.out).mono ?_; rintro e w2 ⟨rfl, hm⟩; rw [HZ.out]; have HM : Hid (Below w.heap.size w w2) := HB.out.trans (hm.mono HB.out.size); clear hm))
  go_ret
  exact ⟨rfl, HM.out⟩

theorem part_any (A : Nat → Addr) (i : W.I) (hr : W.InR i) (c : Nat) (hc : c = 100 ∨ c = 49 ∨ c = 50 ∨ c = 99 ∨ c = 105 ∨ c = 117 ∨ c = 112 ∨ c = 115) (w : World) (hS : Sg A w) : Calls Tryz.prog 59 #[inV i, .int .i32 c] w fun e w' => e = .returned (.string ⟨(W.partL i c).toArray⟩) ∧ Below w.heap.size w w' := by
  rcases hc with rfl | rfl | rfl | rfl | rfl | rfl | rfl | rfl
  · exact part_100 A i hr w hS
  · exact part_49 A i hr w hS
  · exact part_50 A i hr w hS
  · exact part_99 A i hr w hS
  · exact part_105 A i w hS
  · exact part_117 A i w hS
  · exact part_112 A i w hS
  · exact part_115 A i w hS
end Go.Proofs.YtbndaiombnikfaaGreatDoor
