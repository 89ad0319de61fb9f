/- Texts in one: AsmB, AsmP, Laid5, AsmX, AsmH, AsmRaw, PrA. -/
import Derived.Deep.QuietTactic
import Derived.BigQuiet
import Derived.Deep.RegionWith
import Derived.Lib.ItoaLen
import Derived.LaidLaws
import Derived.LaidMore
import Derived.Lib.LaidTab
import Derived.Shelf.Vars
import Derived.Lay
import Derived.HandedShaped
import Derived.Stop.LaidErr
import Derived.Stop.Joined
import Derived.Stop.ErrReads
import Derived.RowKitTokens
import Derived.LoopN
import Derived.Laws.IdiomStrings
import Derived.Test.YtmihcicepgjogaaGreatDoorJ06
import Derived.Test.YtmihcicepgjogaaGreatDoorJ07
import Derived.Test.YtmihcicepgjogaaGreatDoorJ17
import Derived.Test.YtmihcicepgjogaaGreatDoorJ18
/- What stands between the parts of a form. -/
namespace Go.Proofs.YtmihcicepgjogaaGreatDoor
open Go.ChangeShapes Go.WideShapes Go.ChangeAt Go.RowKit
set_option linter.unusedVariables false
set_option linter.unusedSimpArgs false

namespace W
/-- Space, comma, the two brackets. -/
def btw (r : Nat) : Bool := r == 32 || (r == 44 || (r == 40 || r == 41))
theorem btw_small : ((List.range 128).all fun r => decide (0 ≤ Lib.indexByte [32, 44, 40, 41] (r : Int).toNat.toUInt8) == btw r) = true := by decide +kernel
end W

theorem between_lo (r : Nat) (hr : r < 128) (w : World) : Calls Tryz.prog 57 #[.int .i32 r] w fun e w' => e = .returned (.bool (W.btw r)) ∧ w = w' := by
  have h0 : (0 : Int) ≤ (r : Int) := by omega
  have h1 : (r : Int) < 128 := by omega
  have hv : Hid (decide (0 ≤ Lib.indexByte [32, 44, 40, 41] (r : Int).toNat.toUInt8) = W.btw r) := by
    have := List.all_eq_true.1 W.btw_small r (List.mem_range.2 hr)
    exact beq_iff_eq.1 this
  go_enter Tryz.func57, Tryz.ntmps57
  go_wp2_with (go_at_call 88; refine (Tryz.strings_ContainsRune_ascii _ _ _ h0 h1).mono ?_; rintro e w' ⟨rfl, rfl⟩)
  go_ret
  exact ⟨by rw [← hv.out]; rfl, rfl⟩

theorem rune_at (j : Nat) (hj : j < 4) : ((⟨#[32, 44, 40, 41]⟩ : ByteArray)[j]'hj).toNat < 128 ∧ (((⟨#[32, 44, 40, 41]⟩ : ByteArray)[j]'hj).toNat : Int) ≠ 65533 := by
  match j, hj with
  | 0, _ => exact ⟨(by decide : (32 : Nat) < 128), (by decide : (32 : Int) ≠ 65533)⟩
  | 1, _ => exact ⟨(by decide : (44 : Nat) < 128), (by decide : (44 : Int) ≠ 65533)⟩
  | 2, _ => exact ⟨(by decide : (40 : Nat) < 128), (by decide : (40 : Int) ≠ 65533)⟩
  | 3, _ => exact ⟨(by decide : (41 : Nat) < 128), (by decide : (41 : Int) ≠ 65533)⟩

set_option maxRecDepth 100000 in
theorem indexRune_err (w : World) : Calls Tryz.prog 114 #[.string ⟨#[32, 44, 40, 41]⟩, .int .i32 65533] w fun e w' => e = .returned (.int .i64 (-1)) ∧ Below w.heap.size w w' := by
  go_enter Tryz.func114, Tryz.ntmps114
  go_wp2
  go_loopg [] 4 (fun gf wx => ∃ pos : Nat, wx.heap[w.heap.size]? = some (.stringIter ⟨#[32, 44, 40, 41]⟩ pos) ∧ Below w.heap.size w wx ∧ 4 ≤ pos + gf)
  case atStart => exact ⟨0, World.iter_heap w _ 0, (Below.refl _ w).alloc (Nat.le_refl _) _, by omega⟩
  case round =>
    obtain ⟨pos, hit, hbw, hfu⟩ := hrel
    by_cases hps : pos < 4
    · obtain ⟨g', rfl⟩ : ∃ g', gk = g' + 1 := ⟨gk - 1, by omega⟩
      obtain ⟨ha, hne⟩ := rune_at pos hps
      have hnx : ∀ ty, (Instr.next (.pointer (some ⟨w.heap.size, 0, none⟩)) true ty).run Tryz.prog wr = _ := fun ty => Lib.run_next_ascii_at wr w.heap.size _ pos ty hit hps ha
      have hit2 := Lib.iterAt_heap wr w.heap.size _ pos (pos + 1) hit
      have hbw2 := Lib.below_iterAt hbw (k := w.heap.size) (Nat.le_refl _) ⟨#[32, 44, 40, 41]⟩ (pos + 1)
      have hne' : (((((⟨#[32, 44, 40, 41]⟩ : ByteArray)[pos]'hps).toNat : Int)) == 65533) = false := by simpa using hne
      go_wp2
      go_roundg g'
      case measure => omega
      case rel => exact ⟨pos + 1, hit2, hbw2, by omega⟩
    · have hnx : ∀ ty, (Instr.next (.pointer (some ⟨w.heap.size, 0, none⟩)) true ty).run Tryz.prog wr = _ := fun ty => Lib.run_next_end_at wr w.heap.size _ pos ty hit hps
      go_wp2
      go_ret
      exact ⟨rfl, hbw⟩

theorem enc_hi (r : Nat) (h1 : 128 ≤ r) (hv : Lib.validRune (r : Int) = true) : ∃ d : UInt8, 128 ≤ d.toNat ∧ ((∃ a, Utf8.encode (r : Int) = ⟨#[a, d]⟩) ∨ (∃ a b, Utf8.encode (r : Int) = ⟨#[a, b, d]⟩) ∨ (∃ a b c, Utf8.encode (r : Int) = ⟨#[a, b, c, d]⟩)) := by
  have hval : Utf8.valid (r : Int) = true := by
    have : (0 ≤ (r : Int) ∧ (r : Int) < 55296) ∨ (57343 < (r : Int) ∧ (r : Int) ≤ 1114111) := of_decide_eq_true hv
    simp [Utf8.valid]
    omega
  have hd : 128 ≤ (UInt8.ofNat (0x80 + r % 64)).toNat := by
    simp [UInt8.toNat_ofNat]
    omega
  refine ⟨UInt8.ofNat (0x80 + r % 64), hd, ?_⟩
  unfold Utf8.encode
  simp only [hval, if_true, Int.toNat_natCast]
  by_cases c1 : r < 0x80
  · omega
  rw [if_neg c1]
  by_cases c2 : r < 0x800
  · rw [if_pos c2]; exact Or.inl ⟨_, rfl⟩
  rw [if_neg c2]
  by_cases c3 : r < 0x10000
  · rw [if_pos c3]; exact Or.inr (Or.inl ⟨_, _, rfl⟩)
  · rw [if_neg c3]; exact Or.inr (Or.inr ⟨_, _, _, rfl⟩)

theorem idx_hi (d : UInt8) (h : 128 ≤ d.toNat) : Lib.indexByte [40, 41] (d.toNat : Int).toNat.toUInt8 = -1 ∧ Lib.indexByte [41] (d.toNat : Int).toNat.toUInt8 = -1 ∧ Lib.indexByte [] (d.toNat : Int).toNat.toUInt8 = -1 := by
  have e : (d.toNat : Int).toNat.toUInt8 = d := by simp
  have n40 : ¬ d = 40 := fun e => by rw [e] at h; exact absurd h (by decide)
  have n41 : ¬ d = 41 := fun e => by rw [e] at h; exact absurd h (by decide)
  rw [e]
  simp [Lib.indexByte, n40, n41, Ne.symm n40, Ne.symm n41]

theorem ib_hi (s : ByteArray) (d : UInt8) (w : World) (hs : Lib.indexByte s.data.toList (d.toNat : Int).toNat.toUInt8 = -1) : Calls Tryz.prog 131 #[.string s, .int .u8 d.toNat] w fun e w' => e = .returned (.int .i64 (-1)) ∧ w' = w :=
  (Tryz.strings_IndexByte s d.toNat w).mono fun e w' ⟨h, h'⟩ => ⟨by rw [h, hs], h'⟩

set_option maxRecDepth 1000000 in
set_option maxHeartbeats 1600000 in
theorem indexRune_hi (r : Nat) (h1 : 128 ≤ r) (h3 : ¬ (r : Int) = 65533) (hv : Lib.validRune (r : Int) = true) (w : World) : Calls Tryz.prog 114 #[.string ⟨#[32, 44, 40, 41]⟩, .int .i32 r] w fun e w' => e = .returned (.int .i64 (-1)) ∧ Below w.heap.size w w' := by
  have g0 : (0 : Int) ≤ (r : Int) := by omega
  have g1 : ¬ (r : Int) < 128 := by omega
  have g3 : ((r : Int) == 65533) = false := by simpa using h3
  have HV : Hid (Lib.validRune (r : Int) = true) := hv
  obtain ⟨d, hd, ⟨a, he⟩ | ⟨a, b, he⟩ | ⟨a, b, c, he⟩⟩ := enc_hi r h1 hv
  · have hx : Hid (_ ∧ _ ∧ _) := idx_hi d hd
    have k1 : (44 != (d.toNat : Int)) = true := by simp; omega
    have k2 : (40 != (d.toNat : Int)) = true := by simp; omega
    have k3 : (41 != (d.toNat : Int)) = true := by simp; omega
    have q : ((((⟨#[32, 44, 40, 41]⟩ : ByteArray)[1]'(by decide)).toNat : Int) != (((⟨#[a, d]⟩ : ByteArray)[1]'(by show 1 < 2; decide)).toNat : Int)) = true := k1
    clear k1 k2 k3
    go_enter Tryz.func114, Tryz.ntmps114
    go_wp2_with (go_at_call 132; refine (Tryz.utf8_ValidRune _ _).mono ?_; rintro e w' ⟨rfl, rfl⟩; rw [HV.out])
    go_step3
    go_wp2
    go_loopw [9] (fun i wr => i = .int .i64 1 ∧ w' = wr) (fun _ _ => 0)
    case atStart => exact ⟨rfl, rfl⟩
    case round =>
      obtain ⟨rfl, rfl⟩ := hrel
      have hw1 : IntKind.i64.wrap 2 = 2 := by decide
      go_wp2
      go_step3 
      go_wp2
      go_quiet (fail)
      generalize hW : w'.drewN nq = W1
      go_wp2
      go_quiet ((go_at_call 131; exact Calls.quiet_of_same (ib_hi ((⟨#[32, 44, 40, 41]⟩ : ByteArray).extract 2 4) d _ hx.out.1)))
      go_wp2
      subst hW
      change bodyPost Tryz.prog Tryz.f114 (fun e w'' => e = .returned (.int .i64 (-1)) ∧ Below w'.heap.size w' w'') Exit.ret _ _
      go_ret
      exact ⟨rfl, below_drewN' (below_drewN' (Below.refl _ _) _) _⟩
  · have hx : Hid (_ ∧ _ ∧ _) := idx_hi d hd
    have k1 : (44 != (d.toNat : Int)) = true := by simp; omega
    have k2 : (40 != (d.toNat : Int)) = true := by simp; omega
    have k3 : (41 != (d.toNat : Int)) = true := by simp; omega
    have q : ((((⟨#[32, 44, 40, 41]⟩ : ByteArray)[2]'(by decide)).toNat : Int) != (((⟨#[a, b, d]⟩ : ByteArray)[2]'(by show 2 < 3; decide)).toNat : Int)) = true := k2
    clear k1 k2 k3
    go_enter Tryz.func114, Tryz.ntmps114
    go_wp2_with (go_at_call 132; refine (Tryz.utf8_ValidRune _ _).mono ?_; rintro e w' ⟨rfl, rfl⟩; rw [HV.out])
    go_step3
    go_wp2
    go_loopw [9] (fun i wr => i = .int .i64 2 ∧ w' = wr) (fun _ _ => 0)
    case atStart => exact ⟨rfl, rfl⟩
    case round =>
      obtain ⟨rfl, rfl⟩ := hrel
      have hw2 : IntKind.i64.wrap 3 = 3 := by decide
      go_wp2
      go_step3 
      go_wp2
      go_quiet (fail)
      generalize hW : w'.drewN nq = W1
      go_wp2
      go_quiet ((go_at_call 131; exact Calls.quiet_of_same (ib_hi ((⟨#[32, 44, 40, 41]⟩ : ByteArray).extract 3 4) d _ hx.out.2.1)))
      go_wp2
      subst hW
      change bodyPost Tryz.prog Tryz.f114 (fun e w'' => e = .returned (.int .i64 (-1)) ∧ Below w'.heap.size w' w'') Exit.ret _ _
      go_ret
      exact ⟨rfl, below_drewN' (below_drewN' (Below.refl _ _) _) _⟩
  · have hx : Hid (_ ∧ _ ∧ _) := idx_hi d hd
    have k1 : (44 != (d.toNat : Int)) = true := by simp; omega
    have k2 : (40 != (d.toNat : Int)) = true := by simp; omega
    have k3 : (41 != (d.toNat : Int)) = true := by simp; omega
    have q : ((((⟨#[32, 44, 40, 41]⟩ : ByteArray)[3]'(by decide)).toNat : Int) != (((⟨#[a, b, c, d]⟩ : ByteArray)[3]'(by show 3 < 4; decide)).toNat : Int)) = true := k3
    clear k1 k2 k3
    go_enter Tryz.func114, Tryz.ntmps114
    go_wp2_with (go_at_call 132; refine (Tryz.utf8_ValidRune _ _).mono ?_; rintro e w' ⟨rfl, rfl⟩; rw [HV.out])
    go_step3
    go_wp2
    go_loopw [9] (fun i wr => i = .int .i64 3 ∧ w' = wr) (fun _ _ => 0)
    case atStart => exact ⟨rfl, rfl⟩
    case round =>
      obtain ⟨rfl, rfl⟩ := hrel
      have hw3 : IntKind.i64.wrap 4 = 4 := by decide
      go_wp2
      go_step3 
      go_wp2
      go_quiet (fail)
      generalize hW : w'.drewN nq = W1
      go_wp2
      go_quiet ((go_at_call 131; exact Calls.quiet_of_same (ib_hi ((⟨#[32, 44, 40, 41]⟩ : ByteArray).extract 4 4) d _ hx.out.2.2)))
      go_wp2
      subst hW
      change bodyPost Tryz.prog Tryz.f114 (fun e w'' => e = .returned (.int .i64 (-1)) ∧ Below w'.heap.size w' w'') Exit.ret _ _
      go_ret
      exact ⟨rfl, below_drewN' (below_drewN' (Below.refl _ _) _) _⟩

set_option maxRecDepth 100000 in
theorem indexRune_bad (r : Nat) (h1 : 128 ≤ r) (h3 : ¬ (r : Int) = 65533) (hv : Lib.validRune (r : Int) = false) (w : World) : Calls Tryz.prog 114 #[.string ⟨#[32, 44, 40, 41]⟩, .int .i32 r] w fun e w' => e = .returned (.int .i64 (-1)) ∧ Below w.heap.size w w' := by
  have g0 : (0 : Int) ≤ (r : Int) := by omega
  have g1 : ¬ (r : Int) < 128 := by omega
  have g3 : ((r : Int) == 65533) = false := by simpa using h3
  have HV : Hid (Lib.validRune (r : Int) = false) := hv
  clear hv
  go_enter Tryz.func114, Tryz.ntmps114
  go_wp2_with (go_at_call 132; refine (Tryz.utf8_ValidRune _ _).mono ?_; rintro e w' ⟨rfl, rfl⟩; rw [HV.out])
  go_ret
  exact ⟨rfl, Below.refl _ _⟩

theorem containsRune_hi (r : Nat) (h1 : 128 ≤ r) (w : World) : Calls Tryz.prog 88 #[.string ⟨#[32, 44, 40, 41]⟩, .int .i32 r] w fun e w' => e = .returned (.bool false) ∧ Below w.heap.size w w' := by
  have H : Hid (∀ w : World, Calls Tryz.prog 114 #[.string ⟨#[32, 44, 40, 41]⟩, .int .i32 r] w fun e w' => e = .returned (.int .i64 (-1)) ∧ Below w.heap.size w w') := fun w => by
    by_cases h3 : (r : Int) = 65533
    · rw [h3]; exact indexRune_err w
    · cases hv : Lib.validRune (r : Int)
      · exact indexRune_bad r h1 h3 hv w
      · exact indexRune_hi r h1 h3 hv w
  go_enter Tryz.func88, Tryz.ntmps88
  go_wp2_with (go_at_call 114; refine (H.out _).mono ?_; rintro e w1 ⟨rfl, hm⟩)
  go_ret
  exact ⟨rfl, hm⟩

theorem between_any (r : Nat) (w : World) : Calls Tryz.prog 57 #[.int .i32 r] w fun e w' => e = .returned (.bool (W.btw r)) ∧ Below w.heap.size w w' := by
  by_cases h : r < 128
  · exact (between_lo r h w).mono fun e w' ⟨he, hw⟩ => ⟨he, hw ▸ Below.refl _ _⟩
  · have hb : W.btw r = false := by simp [W.btw]; omega
    rw [hb]
    have hr : 128 ≤ r := by omega
    go_enter Tryz.func57, Tryz.ntmps57
    go_wp2_with (go_at_call 88; refine (containsRune_hi r hr _).mono ?_; rintro e w1 ⟨rfl, hm⟩)
    go_ret
    exact ⟨rfl, hm⟩
end Go.Proofs.YtmihcicepgjogaaGreatDoor

/- The parts of a text: registers, numbers. -/
namespace Go.Proofs.YtmihcicepgjogaaGreatDoor
open Go.ChangeShapes Go.WideShapes Go.ChangeAt Go.RowKit
set_option linter.unusedVariables false
set_option linter.unusedSimpArgs false

theorem tab_below {n : String} {g : Nat} {k : IntKind} {zs : List Int} {w w' : World} (hg : Tryz.prog.globalNamed n = some g) (h : Lib.TabIs Tryz.prog w n k zs) (hb : Below w.heap.size w w') : Lib.TabIs Tryz.prog w' n k zs := by
  unfold Lib.TabIs World.var? at h ⊢
  rw [hg] at h ⊢
  simp only [Option.bind_some] at h ⊢
  have hlt : g < w.heap.size := by
    rcases Nat.lt_or_ge g w.heap.size with h' | h'
    · exact h'
    · rw [Array.getElem?_eq_none h'] at h; cases h
  rw [hb.block g hlt]
  exact h
/-- What the program's variables hold while package asm goes on. -/
structure Sg (A : Nat → Addr) (w : World) : Prop where
  sent : Sent A w
  tab : Lib.TabIs Tryz.prog w "internal/strconv.uint64pow10" .u64 Lib.pow10Tab
  maxl : ∃ m, w.cell? ⟨5, 0, none⟩ = some (.int .i64 m)
  esyn : ∃ te pe, w.cell? ⟨13, 0, none⟩ = some (.iface te pe)
  eran : ∃ te pe, w.cell? ⟨14, 0, none⟩ = some (.iface te pe)
  tz : w.cell? ⟨16, 15, none⟩ = some (.int .u8 4)
theorem Sg.below {A : Nat → Addr} {a b : World} (h : Sg A a) (hm : Below a.heap.size a b) : Sg A b where
  sent := h.sent.below hm
  tab := tab_below (g := 4) (by kernel_rfl) h.tab hm
  maxl := by
    obtain ⟨m, e⟩ := h.maxl
    exact ⟨m, (hm.cell (World.block_lt_of_cell? _ _ e)).trans e⟩
  esyn := by
    obtain ⟨m, q, e⟩ := h.esyn
    exact ⟨m, q, (hm.cell (World.block_lt_of_cell? _ _ e)).trans e⟩
  eran := by
    obtain ⟨m, q, e⟩ := h.eran
    exact ⟨m, q, (hm.cell (World.block_lt_of_cell? _ _ e)).trans e⟩
  tz := (hm.cell (World.block_lt_of_cell? _ _ h.tz)).trans h.tz

namespace W
def regL (n : Nat) : List UInt8 := 120 :: Lib.decDigits n
end W

theorem grow_bel (w : World) (k : Nat) (os : Array Obj) : Below w.heap.size w (Go.Sort.grow (w.drewN k) os) :=
  ⟨rfl, rfl, rfl, by show w.heap.size ≤ (w.heap ++ os).size; rw [Array.size_append]; omega, fun j hj => by show (w.heap ++ os)[j]? = w.heap[j]?; rw [Array.getElem?_append, if_pos hj]⟩
theorem ba_append (l m : List UInt8) : ((⟨l.toArray⟩ : ByteArray) ++ (⟨m.toArray⟩ : ByteArray)) = ⟨(l ++ m).toArray⟩ := by
  apply ByteArray.ext
  rw [ByteArray.data_append]
  simp
theorem dec_len (n : Nat) (h : n < 18446744073709551616) : (Lib.decDigits n).length ≤ 20 := by rw [Lib.decDigits_length]; exact Lib.nDigits_le20 n h
theorem itoa_len (n : Int) (h0 : -9223372036854775808 ≤ n) (h1 : n ≤ 9223372036854775807) : (Lib.itoa n).length ≤ 21 := by
  unfold Lib.itoa
  split
  · have := dec_len n.natAbs (by omega)
    simp; omega
  · have := dec_len n.toNat (by omega)
    omega
theorem wrap_in (x : Int) : wrap64 (wrap32 x) = wrap32 x ∧ -2147483648 ≤ wrap32 x ∧ wrap32 x ≤ 2147483647 := by
  simp only [wrap64, wrap32]; omega

theorem register_any (n : Nat) (hn : n < 100) (w : World) : Calls Tryz.prog 90 #[.int .i64 n] w fun e w' => e = .returned (.string ⟨(W.regL n).toArray⟩) ∧ w = w' := by
  have hl : ¬ 9223372036854775807 < 1 + (Lib.decDigits n).length := by have := dec_len n (by omega); omega
  go_enter Tryz.func90, Tryz.ntmps90
  go_wp2_with (go_at_call 32; refine (Tryz.strconv_Itoa_small n hn _).mono ?_; rintro e w' ⟨rfl, rfl⟩)
  go_ret
  exact ⟨congrArg (fun s => Ending.returned (.string s)) (ba_append [120] _), rfl⟩

theorem decimal_any (A : Nat → Addr) (x : Int) (w : World) (hS : Sg A w) : Calls Tryz.prog 91 #[.int .u32 x] w fun e w' => e = .returned (.string ⟨(Lib.itoa (wrap32 x)).toArray⟩) ∧ Below w.heap.size w w' := by
  have HS : Hid (Sg A w) := hS
  have hx : Hid (wrap64 (wrap32 x) = wrap32 x ∧ -2147483648 ≤ wrap32 x ∧ wrap32 x ≤ 2147483647) := wrap_in x
  clear hS
  go_enter Tryz.func91, Tryz.ntmps91
  go_wp2_with (go_at_call 32; rw [hx.out.1]; refine (Tryz.strconv_Itoa _ (by have := hx.out.2; omega) (by have := hx.out.2; omega) _ HS.out.tab).mono ?_; rintro e w' ⟨rfl, k, os, rfl⟩)
  go_ret
  exact ⟨rfl, (grow_bel _ _ _)⟩
end Go.Proofs.YtmihcicepgjogaaGreatDoor

/- What the program's text lays for package asm: the tables, and the errors: pointers of their own. -/
namespace Go.Proofs.YtmihcicepgjogaaGreatDoor
open Go.ChangeShapes Go.WideShapes Go.ChangeAt Go.RowKit
set_option linter.unusedVariables false

abbrev theErrs : List (String × DataW Unit) := [("corral/api.ErrMany", Rows.laid_corral_api_ErrMany), ("corral/api.ErrKind", Rows.laid_corral_api_ErrKind), ("corral/api.ErrPlace", Rows.laid_corral_api_ErrPlace), ("corral/api.ErrShape", Rows.laid_corral_api_ErrShape), ("corral/api.ErrWord", Rows.laid_corral_api_ErrWord), ("corral/api.ErrRange", Rows.laid_corral_api_ErrRange), ("corral/api.ErrFull", Rows.laid_corral_api_ErrFull), ("corral/api.ErrNone", Rows.laid_corral_api_ErrNone), ("corral/api.ErrTrace", Rows.laid_corral_api_ErrTrace), ("corral/api.ErrOrder", Rows.laid_corral_api_ErrOrder), ("corral/api.ErrValue", Rows.laid_corral_api_ErrValue)]
abbrev theLaid : List (String × DataW Unit) := ("math/bits.deBruijn32tab", Rows.laid_math_bits_deBruijn32tab) :: ("math/bits.deBruijn64tab", Rows.laid_math_bits_deBruijn64tab) :: ("internal/strconv.uint64pow10", Rows.laid_internal_strconv_uint64pow10) :: ("strconv.ErrRange", Rows.laid_strconv_ErrRange) :: ("strconv.ErrSyntax", Rows.laid_strconv_ErrSyntax) :: theErrs

theorem star : "*" ++ "errors.errorString" = "*errors.errorString" := by decide
theorem rowE (u : TypeId) (h : Tryz.prog.typeName? 3 u = some "*errors.errorString") : u = 194 :=
  typeName_ptr_named (nm := "errors.errorString") (by rw [star]; kernel_rfl) (by kernel_rfl) (by decide) u (by rw [star]; exact h)

set_option maxRecDepth 100000 in
/-- One error out of the list. -/
theorem laid_one {W : World} {n : String} {g : Nat} {text : List UInt8} {rest : List (String × DataW Unit)} {ps : List MemPlace} (hg : Tryz.prog.globalNamed n = some g) (ht : (Tryz.prog.globals[g]?).map (·.type) = some 27)
    (hrows : ∀ b off, MemPlace.cell b off ∈ ps → (∃ c t, W.heap[b]? = some (.cells c t (0, 0))) ∧ ∀ u v, W.cell? ⟨b, off, none⟩ = some (.iface u v) → Value.okWide Tryz.prog W .any 0 u v)
    (h : DataW.LaidVars Tryz.prog W ((n, .iface "*errors.errorString" (.ptr (.agg [.lit (.string text)]))) :: rest) ps) :
    ∃ a q, W.cell? ⟨g, 0, none⟩ = some (.iface 194 (.pointer (some a))) ∧ (∃ c t, W.heap[a.block]? = some (.cells c t (0, 0))) ∧ DataW.LaidVars Tryz.prog W rest q ∧ ps = MemPlace.cell g 0 :: MemPlace.cell a.block a.off :: q := by
  obtain ⟨g0, t0, cs0, f0, p0, q0, hg0, ht0, hv0, hd0, hq, e0⟩ := h
  obtain rfl := Option.some.inj (hg.symm.trans hg0)
  obtain rfl := Option.some.inj (ht.symm.trans ht0)
  subst e0
  obtain ⟨l0⟩ := cs0
  have ok0 : ∀ u v, l0 = [.iface u v] → Value.okWide Tryz.prog W .any 0 u v := fun u v e => by
    subst e
    exact (hrows g 0 (by simp [MemPlace.row])).2 u v (by simpa using World.var?_cell hg0 hv0 0)
  obtain ⟨a0, s0, rfl, hc0, hs0, hz0, rfl⟩ := errorString_of_trod Tryz.underlying27 rowE Tryz.underlying194 Tryz.underlying196 rfl rfl Tryz.underlying9 (by kernel_rfl) (by kernel_rfl) hd0 ok0
  refine ⟨a0, q0, by simpa using World.var?_cell hg0 hv0 0, (hrows a0.block a0.off (by simp [MemPlace.row])).1, hq, by simp [MemPlace.row]⟩

theorem permL {α : Type} (a0 a1 a2 a3 a4 a5 a6 a7 a8 a9 a10 : α) : [a1, a5, a3, a0, a2, a4, a6, a7, a8, a9, a10].Perm [a0, a1, a2, a3, a4, a5, a6, a7, a8, a9, a10] := by
  have h : ([1, 5, 3, 0, 2, 4, 6, 7, 8, 9, 10] : List Nat).Perm [0, 1, 2, 3, 4, 5, 6, 7, 8, 9, 10] := by decide
  exact h.map (fun k => [a0, a1, a2, a3, a4, a5, a6, a7, a8, a9, a10].getD k a0)

set_option maxRecDepth 100000 in
theorem sent_of_errs {W : World} (h : laidMet Tryz.prog theErrs W) : ∃ A, Sent A W := by
  obtain ⟨ps, h0, hnd, hrows⟩ := h
  obtain ⟨a0, q0, x0, y0, h1, e0⟩ := laid_one (g := 6) (by kernel_rfl) (by kernel_rfl) hrows h0
  obtain ⟨a1, q1, x1, y1, h2, e1⟩ := laid_one (g := 1) (by kernel_rfl) (by kernel_rfl) (fun b o hm => hrows b o (by rw [e0]; simp [hm])) h1
  obtain ⟨a2, q2, x2, y2, h3, e2⟩ := laid_one (g := 7) (by kernel_rfl) (by kernel_rfl) (fun b o hm => hrows b o (by rw [e0, e1]; simp [hm])) h2
  obtain ⟨a3, q3, x3, y3, h4, e3⟩ := laid_one (g := 3) (by kernel_rfl) (by kernel_rfl) (fun b o hm => hrows b o (by rw [e0, e1, e2]; simp [hm])) h3
  obtain ⟨a4, q4, x4, y4, h5, e4⟩ := laid_one (g := 0) (by kernel_rfl) (by kernel_rfl) (fun b o hm => hrows b o (by rw [e0, e1, e2, e3]; simp [hm])) h4
  obtain ⟨a5, q5, x5, y5, h6, e5⟩ := laid_one (g := 2) (by kernel_rfl) (by kernel_rfl) (fun b o hm => hrows b o (by rw [e0, e1, e2, e3, e4]; simp [hm])) h5
  obtain ⟨a6, q6, x6, y6, h7, e6⟩ := laid_one (g := 8) (by kernel_rfl) (by kernel_rfl) (fun b o hm => hrows b o (by rw [e0, e1, e2, e3, e4, e5]; simp [hm])) h6
  obtain ⟨a7, q7, x7, y7, h8, e7⟩ := laid_one (g := 9) (by kernel_rfl) (by kernel_rfl) (fun b o hm => hrows b o (by rw [e0, e1, e2, e3, e4, e5, e6]; simp [hm])) h7
  obtain ⟨a8, q8, x8, y8, h9, e8⟩ := laid_one (g := 10) (by kernel_rfl) (by kernel_rfl) (fun b o hm => hrows b o (by rw [e0, e1, e2, e3, e4, e5, e6, e7]; simp [hm])) h8
  obtain ⟨a9, q9, x9, y9, h10, e9⟩ := laid_one (g := 11) (by kernel_rfl) (by kernel_rfl) (fun b o hm => hrows b o (by rw [e0, e1, e2, e3, e4, e5, e6, e7, e8]; simp [hm])) h9
  obtain ⟨a10, q10, x10, y10, h11, e10⟩ := laid_one (g := 12) (by kernel_rfl) (by kernel_rfl) (fun b o hm => hrows b o (by rw [e0, e1, e2, e3, e4, e5, e6, e7, e8, e9]; simp [hm])) h10
  subst e10 e9 e8 e7 e6 e5 e4 e3 e2 e1 e0
  let L : List Addr := [a1, a5, a3, a0, a2, a4, a6, a7, a8, a9, a10]
  have hN : (List.map (fun a : Addr => MemPlace.cell a.block a.off) [a0, a1, a2, a3, a4, a5, a6, a7, a8, a9, a10]).Nodup := by
    refine List.Sublist.nodup ?_ hnd
    exact .cons _ (.cons_cons _ (.cons _ (.cons_cons _ (.cons _ (.cons_cons _ (.cons _ (.cons_cons _ (.cons _ (.cons_cons _ (.cons _ (.cons_cons _ (.cons _ (.cons_cons _ (.cons _ (.cons_cons _ (.cons _ (.cons_cons _ (.cons _ (.cons_cons _ (.cons _ (.cons_cons _ (List.nil_sublist _))))))))))))))))))))))
  have hN2 : (List.map (fun a : Addr => MemPlace.cell a.block a.off) L).Nodup := by
    refine (List.Perm.nodup_iff (List.Perm.map _ ?_)).2 hN
    exact permL a0 a1 a2 a3 a4 a5 a6 a7 a8 a9 a10
  refine ⟨fun j => L.getD j a0, ?_, ?_, ?_⟩
  · intro j hj
    match j, hj with
    | 0, _ => exact x1
    | 1, _ => exact x5
    | 2, _ => exact x3
    | 3, _ => exact x0
    | 4, _ => exact x2
    | 5, _ => exact x4
    | 6, _ => exact x6
    | 7, _ => exact x7
    | 8, _ => exact x8
    | 9, _ => exact x9
    | 10, _ => exact x10
  · intro i j hi hj e
    have hl : L.length = 11 := rfl
    have hp := List.pairwise_iff_getElem.1 hN2
    have e' : ∀ k (hk : k < L.length), L.getD k a0 = L[k] := fun k hk => by simp [List.getD, hk]
    have e : L[i]'(by rw [hl]; exact hi) = L[j]'(by rw [hl]; exact hj) := by rw [← e' i (by rw [hl]; exact hi), ← e' j (by rw [hl]; exact hj)]; exact e
    rcases Nat.lt_trichotomy i j with h | h | h
    · exact (hp i j (by simp [hl]; omega) (by simp [hl]; omega) h (by rw [List.getElem_map, List.getElem_map, e])).elim
    · exact h
    · exact (hp j i (by simp [hl]; omega) (by simp [hl]; omega) h (by rw [List.getElem_map, List.getElem_map, e])).elim
  · intro j hj
    match j, hj with
    | 0, _ => exact y1
    | 1, _ => exact y5
    | 2, _ => exact y3
    | 3, _ => exact y0
    | 4, _ => exact y2
    | 5, _ => exact y4
    | 6, _ => exact y6
    | 7, _ => exact y7
    | 8, _ => exact y8
    | 9, _ => exact y9
    | 10, _ => exact y10


def tab64 : List Int := [0, 1, 56, 2, 57, 49, 28, 3, 61, 58, 42, 50, 38, 29, 17, 4, 62, 47, 59, 36, 45, 43, 51, 22, 53, 39, 33, 30, 24, 18, 12, 5, 63, 55, 48, 27, 60, 41, 37, 16, 46, 35, 44, 21, 52, 32, 23, 11, 54, 26, 40, 15, 34, 20, 31, 10, 25, 14, 19, 9, 13, 8, 7, 6]

/-- One error's cell, of a list's head. -/
theorem head_err {W : World} {n : String} {g : Nat} {text : List UInt8} {rest : List (String × DataW Unit)} (hg : Tryz.prog.globalNamed n = some g) (ht : (Tryz.prog.globals[g]?).map (·.type) = some 27)
    (h : laidMet Tryz.prog ((n, .iface "*errors.errorString" (.ptr (.agg [.lit (.string text)]))) :: rest) W) : ∃ te pe, W.cell? ⟨g, 0, none⟩ = some (.iface te pe) := by
  obtain ⟨ps, hv, hnd, hrows⟩ := h
  obtain ⟨a, q, hc, _⟩ := laid_one hg ht hrows hv
  exact ⟨_, _, hc⟩

set_option maxRecDepth 100000 in
theorem sg_of_laid {W : World} (h : laidMetH Tryz.prog theLaid W) (hsh : W.ShapedOpen Tryz.prog) : ∃ A, Sg A W := by
  rw [MakeChecks.laidMetH_plain _ _ _ (by kernel_rfl)] at h
  have h1 := h.tail
  have t64 := Lib.tabIs_of_head (k := .u8) (zs := tab64) (g := 16) (t := 193) (e := 5) (n := 64) (by kernel_rfl) (by kernel_rfl) Tryz.underlying193 Tryz.underlying5 (by kernel_rfl) (by kernel_rfl) (rest := ("internal/strconv.uint64pow10", Rows.laid_internal_strconv_uint64pow10) :: ("strconv.ErrRange", Rows.laid_strconv_ErrRange) :: ("strconv.ErrSyntax", Rows.laid_strconv_ErrSyntax) :: theErrs) h1
  have h2 := h1.tail
  have t10 := Lib.tabIs_of_head (k := .u64) (zs := Lib.pow10Tab) (g := 4) (t := 174) (e := 141) (n := 20) (by kernel_rfl) (by kernel_rfl) Tryz.underlying174 Tryz.underlying141 (by kernel_rfl) (by kernel_rfl) (rest := ("strconv.ErrRange", Rows.laid_strconv_ErrRange) :: ("strconv.ErrSyntax", Rows.laid_strconv_ErrSyntax) :: theErrs) h2
  have h3 := h2.tail
  have hr := head_err (g := 14) (by kernel_rfl) (by kernel_rfl) h3
  have h4 := h3.tail
  have hs := head_err (g := 13) (by kernel_rfl) (by kernel_rfl) h4
  obtain ⟨A, hA⟩ := sent_of_errs h4.tail
  refine ⟨A, hA, t10, ?_, hs, hr, ?_⟩
  · exact cell_of_shapedOpen_int hsh (g := 5) (t := 3) (by decide +kernel) (zero := #[.int .i64 0]) (by kernel_rfl) rfl (by kernel_rfl) (by kernel_rfl) Tryz.underlying3
  · have := t64.cell (g := 16) (by kernel_rfl) 15 (by decide)
    exact this

theorem lift5 {H : Type} {enc : TypeId × Value → H} {a : Assume} {C : Checked} {os : Os} {f : FuncId} {fn : Func} {s : ChangeSpec} {conds : List PathCond} {apart fresh handsOn again : Bool} {X : World → Array Value → Prop}
    (hX : ∀ (w w' : World) (args : Array Value), w.heap = w'.heap → X w args → X w' args)
    (own : ownKnob C.prog.godebug = none) (started : os.Started) (noInit : C.prog.inits.idxOf? f = none) (hfn : C.prog.funcs[f]? = some fn)
    (witness : ∃ (w : World) (tape : Tape) (i : Input), w.os = os ∧ (w.forCall tape i).Shaped C.prog ∧ i.vars = [] ∧ Input.okWide C.prog (w.forCall tape i) .any w.heap.size f i ∧
      ((s.pre enc C.prog fn conds apart (w.forCall tape i).memory i.args ∧ X (w.forCall tape i).memory i.args) ∧ sizedMet enc C.prog fn (OpenSpec.ofChange s) apart (w.forCall tape i).memory i.args) ∧ a.holds C.prog (lone (Frame.enter C.prog f i.args .normal) [] (w.forCall tape i)))
    (contract : ∀ (W : World) (base : Nat) (args : Array Value) (ds gs : List (DataW H)) (before : List MemPlace),
      (∀ (j : Nat) t v, fn.params[j]? = some t → args[j]? = some v → Value.okWide C.prog W .any base t v) →
      DataW.Whole enc C.prog fn.params.toList s.vars apart W args.toList ds gs before → W.ShapedOpen C.prog → X W args →
      Calls C.prog f args W fun e W' => ∃ v, e = .returned v ∧ s.post enc C.prog fn apart fresh handsOn again W args v W') :
    ReturnsInHanded a C os f .any (fun w args => (s.pre enc C.prog fn conds apart w args ∧ X w args) ∧ sizedMet enc C.prog fn (OpenSpec.ofChange s) apart w args) (s.post enc C.prog fn apart fresh handsOn again) := by
  refine returnsInHanded_of_calls own started noInit witness fun w tape i _ hsh _ hok hpre _ => ?_
  obtain ⟨_, _, _, fn', hfn', _, _, _, _, hval⟩ := hok
  cases Option.some.inj (hfn'.symm.trans hfn)
  obtain ⟨⟨⟨ds, gs, before, hw, _⟩, hx⟩, _⟩ := hpre
  refine (contract _ _ _ ds gs before hval (DataW.Whole.of_heap (by rfl) hw) hsh (hX _ _ _ (by rfl) hx)).mono ?_
  rintro e W' ⟨v, rfl, hp⟩
  exact ChangeSpec.post_blind hp

end Go.Proofs.YtmihcicepgjogaaGreatDoor

/- Hexadecimal digits. -/
namespace Go.Proofs.YtmihcicepgjogaaGreatDoor
open Go.ChangeShapes Go.WideShapes Go.ChangeAt Go.RowKit
set_option linter.unusedVariables false
set_option linter.unusedSimpArgs false

theorem pow2_16 (w : World) : Calls Tryz.prog 138 #[.int .i64 16] w fun e w' => e = .returned (.bool true) ∧ w = w' := by
  go_enter Tryz.func138, Tryz.ntmps138
  go_wp2
  go_ret
  exact ⟨rfl, rfl⟩

set_option maxRecDepth 100000 in
theorem tz64_16 (w : World) (hc : w.cell? ⟨16, 15, none⟩ = some (.int .u8 4)) : Calls Tryz.prog 148 #[.int .u64 16] w fun e w' => e = .returned (.int .i64 4) ∧ w = w' := by
  have r1 : IntKind.u64.wrap (-16) = 18446744073709551600 := by decide
  have r2 : bits .and .u64 16 18446744073709551600 = 16 := by decide +kernel
  have r3 : IntKind.u64.wrap 4573923408821661840 = 4573923408821661840 := by decide
  go_enter Tryz.func148, Tryz.ntmps148
  go_wp2
  go_ret
  exact ⟨rfl, rfl⟩

theorem tz_16 (w : World) (hc : w.cell? ⟨16, 15, none⟩ = some (.int .u8 4)) : Calls Tryz.prog 139 #[.int .u64 16] w fun e w' => e = .returned (.int .i64 4) ∧ w = w' := by
  have HC : Hid (w.cell? ⟨16, 15, none⟩ = some (.int .u8 4)) := hc
  clear hc
  go_enter Tryz.func139, Tryz.ntmps139
  go_wp2_with (go_at_call 148; refine (tz64_16 _ HC.out).mono ?_; rintro e w' ⟨rfl, rfl⟩)
  go_ret
  exact ⟨rfl, rfl⟩

/-- The digits. -/
abbrev digB : ByteArray := ⟨#[48, 49, 50, 51, 52, 53, 54, 55, 56, 57, 97, 98, 99, 100, 101, 102, 103, 104, 105, 106, 107, 108, 109, 110, 111, 112, 113, 114, 115, 116, 117, 118, 119, 120, 121, 122]⟩
theorem zc_size : Tryz.zeroCells175.size = 65 := by kernel_rfl

theorem conv_back (w : World) (a : Addr) (cap n : Nat) (l : List UInt8) (hn : l.length = n) (hc : ∀ j (hj : j < l.length), w.cell? (a.add j) = some (.int .u8 (l[j].toNat : Int))) : (convert 54 9 (.slice (some a) n cap)).run Tryz.prog w = .ok (.string ⟨l.toArray⟩) w := by
  subst hn
  exact run_convert_bytes_back w 54 9 5 a cap l Tryz.underlying54 Tryz.underlying5 Tryz.underlying9 hc

set_option maxRecDepth 1000000 in
set_option maxHeartbeats 3200000 in
theorem fbits_3 (U u1 u2 : Int) (d0 d1 d2 : Nat) (h1 : U / 16 = u1) (h2 : u1 / 16 = u2) (h3 : u2 / 16 = 1) (g0 : 16 ≤ U) (g1 : 16 ≤ u1) (g2 : 16 ≤ u2) (k0 : bits .and .u64 U 15 = (d0 : Int)) (k1 : bits .and .u64 u1 15 = (d1 : Int)) (k2 : bits .and .u64 u2 15 = (d2 : Int)) (j0 : d0 < 36) (j1 : d1 < 36) (j2 : d2 < 36) (w : World) (hc : w.cell? ⟨16, 15, none⟩ = some (.int .u8 4)) :
    Calls Tryz.prog 119 #[.slice none 0 0, .int .u64 U, .int .i64 16, .bool false, .bool false] w fun e w' => e = .returned (.tuple #[.slice none 0 0, .string ⟨([49, digB[d2]'j2, digB[d1]'j1, digB[d0]'j0] : List UInt8).toArray⟩]) ∧ Below w.heap.size w w' := by
  have HC : Hid (w.cell? ⟨16, 15, none⟩ = some (.int .u8 4)) := hc
  clear hc
  have n0 : (0 : Int) ≤ (d0 : Int) := Int.natCast_nonneg _
  have m0 : (d0 : Int) < 36 := by omega
  have n1 : (0 : Int) ≤ (d1 : Int) := Int.natCast_nonneg _
  have m1 : (d1 : Int) < 36 := by omega
  have n2 : (0 : Int) ≤ (d2 : Int) := Int.natCast_nonneg _
  have m2 : (d2 : Int) < 36 := by omega
  go_enter Tryz.func119, Tryz.ntmps119
  go_wp2_with (first
    | (go_at_call 138; refine (pow2_16 _).mono ?_; rintro e w' ⟨rfl, rfl⟩)
    | (go_at_call 139; refine (tz_16 _ ?_).mono ?_; exact (((Below.refl w.heap.size w).alloc (Nat.le_refl _) _).cell (World.block_lt_of_cell? _ _ HC.out)).trans HC.out; rintro e w' ⟨rfl, rfl⟩))
  refine wp_loop_rounds 4 ?_
  rw [rounds_succ]
  go_wp2
  rw [rounds_succ]
  go_wp2
  rw [rounds_succ]
  go_wp2
  rw [rounds_succ]
  go_wp2
  rw [conv_back _ ⟨w.heap.size, 61, none⟩ 4 4 [49, digB[d2]'j2, digB[d1]'j1, digB[d0]'j0] rfl ?hc]
  case hc =>
    intro j hj
    match j, hj with
    | 0, _ => simp [go_sem, Addr.add, Array.getElem?_setIfInBounds, zc_size]; rfl
    | 1, _ => simp [go_sem, Addr.add, Array.getElem?_setIfInBounds, zc_size]
    | 2, _ => simp [go_sem, Addr.add, Array.getElem?_setIfInBounds, zc_size]
    | 3, _ => simp [go_sem, Addr.add, Array.getElem?_setIfInBounds, zc_size]
  simp only [Result.andThen]
  rw [Oper.upon_value]
  go_wp2
  exact bodyPost_ret (v := .tuple #[.slice none 0 0, .string ⟨([49, digB[d2]'j2, digB[d1]'j1, digB[d0]'j0] : List UInt8).toArray⟩]) (by simp [results, Tryz.results119, go_sem]) rfl ⟨rfl, (Below.refl _ _).alloc (Nat.le_refl _) _⟩

set_option maxRecDepth 1000000 in
set_option maxHeartbeats 3200000 in
theorem fbits_8 (U u1 u2 u3 u4 u5 u6 u7 : Int) (d0 d1 d2 d3 d4 d5 d6 d7 : Nat) (h1 : U / 16 = u1) (h2 : u1 / 16 = u2) (h3 : u2 / 16 = u3) (h4 : u3 / 16 = u4) (h5 : u4 / 16 = u5) (h6 : u5 / 16 = u6) (h7 : u6 / 16 = u7) (h8 : u7 / 16 = 1) (g0 : 16 ≤ U) (g1 : 16 ≤ u1) (g2 : 16 ≤ u2) (g3 : 16 ≤ u3) (g4 : 16 ≤ u4) (g5 : 16 ≤ u5) (g6 : 16 ≤ u6) (g7 : 16 ≤ u7) (k0 : bits .and .u64 U 15 = (d0 : Int)) (k1 : bits .and .u64 u1 15 = (d1 : Int)) (k2 : bits .and .u64 u2 15 = (d2 : Int)) (k3 : bits .and .u64 u3 15 = (d3 : Int)) (k4 : bits .and .u64 u4 15 = (d4 : Int)) (k5 : bits .and .u64 u5 15 = (d5 : Int)) (k6 : bits .and .u64 u6 15 = (d6 : Int)) (k7 : bits .and .u64 u7 15 = (d7 : Int)) (j0 : d0 < 36) (j1 : d1 < 36) (j2 : d2 < 36) (j3 : d3 < 36) (j4 : d4 < 36) (j5 : d5 < 36) (j6 : d6 < 36) (j7 : d7 < 36) (w : World) (hc : w.cell? ⟨16, 15, none⟩ = some (.int .u8 4)) :
    Calls Tryz.prog 119 #[.slice none 0 0, .int .u64 U, .int .i64 16, .bool false, .bool false] w fun e w' => e = .returned (.tuple #[.slice none 0 0, .string ⟨([49, digB[d7]'j7, digB[d6]'j6, digB[d5]'j5, digB[d4]'j4, digB[d3]'j3, digB[d2]'j2, digB[d1]'j1, digB[d0]'j0] : List UInt8).toArray⟩]) ∧ Below w.heap.size w w' := by
  have HC : Hid (w.cell? ⟨16, 15, none⟩ = some (.int .u8 4)) := hc
  clear hc
  have n0 : (0 : Int) ≤ (d0 : Int) := Int.natCast_nonneg _
  have m0 : (d0 : Int) < 36 := by omega
  have n1 : (0 : Int) ≤ (d1 : Int) := Int.natCast_nonneg _
  have m1 : (d1 : Int) < 36 := by omega
  have n2 : (0 : Int) ≤ (d2 : Int) := Int.natCast_nonneg _
  have m2 : (d2 : Int) < 36 := by omega
  have n3 : (0 : Int) ≤ (d3 : Int) := Int.natCast_nonneg _
  have m3 : (d3 : Int) < 36 := by omega
  have n4 : (0 : Int) ≤ (d4 : Int) := Int.natCast_nonneg _
  have m4 : (d4 : Int) < 36 := by omega
  have n5 : (0 : Int) ≤ (d5 : Int) := Int.natCast_nonneg _
  have m5 : (d5 : Int) < 36 := by omega
  have n6 : (0 : Int) ≤ (d6 : Int) := Int.natCast_nonneg _
  have m6 : (d6 : Int) < 36 := by omega
  have n7 : (0 : Int) ≤ (d7 : Int) := Int.natCast_nonneg _
  have m7 : (d7 : Int) < 36 := by omega
  go_enter Tryz.func119, Tryz.ntmps119
  go_wp2_with (first
    | (go_at_call 138; refine (pow2_16 _).mono ?_; rintro e w' ⟨rfl, rfl⟩)
    | (go_at_call 139; refine (tz_16 _ ?_).mono ?_; exact (((Below.refl w.heap.size w).alloc (Nat.le_refl _) _).cell (World.block_lt_of_cell? _ _ HC.out)).trans HC.out; rintro e w' ⟨rfl, rfl⟩))
  refine wp_loop_rounds 9 ?_
  rw [rounds_succ]
  go_wp2
  rw [rounds_succ]
  go_wp2
  rw [rounds_succ]
  go_wp2
  rw [rounds_succ]
  go_wp2
  rw [rounds_succ]
  go_wp2
  rw [rounds_succ]
  go_wp2
  rw [rounds_succ]
  go_wp2
  rw [rounds_succ]
  go_wp2
  rw [rounds_succ]
  go_wp2
  rw [conv_back _ ⟨w.heap.size, 56, none⟩ 9 9 [49, digB[d7]'j7, digB[d6]'j6, digB[d5]'j5, digB[d4]'j4, digB[d3]'j3, digB[d2]'j2, digB[d1]'j1, digB[d0]'j0] rfl ?hc]
  case hc =>
    intro j hj
    match j, hj with
    | 0, _ => simp [go_sem, Addr.add, Array.getElem?_setIfInBounds, zc_size]; rfl
    | 1, _ => simp [go_sem, Addr.add, Array.getElem?_setIfInBounds, zc_size]
    | 2, _ => simp [go_sem, Addr.add, Array.getElem?_setIfInBounds, zc_size]
    | 3, _ => simp [go_sem, Addr.add, Array.getElem?_setIfInBounds, zc_size]
    | 4, _ => simp [go_sem, Addr.add, Array.getElem?_setIfInBounds, zc_size]
    | 5, _ => simp [go_sem, Addr.add, Array.getElem?_setIfInBounds, zc_size]
    | 6, _ => simp [go_sem, Addr.add, Array.getElem?_setIfInBounds, zc_size]
    | 7, _ => simp [go_sem, Addr.add, Array.getElem?_setIfInBounds, zc_size]
    | 8, _ => simp [go_sem, Addr.add, Array.getElem?_setIfInBounds, zc_size]
  simp only [Result.andThen]
  rw [Oper.upon_value]
  go_wp2
  exact bodyPost_ret (v := .tuple #[.slice none 0 0, .string ⟨([49, digB[d7]'j7, digB[d6]'j6, digB[d5]'j5, digB[d4]'j4, digB[d3]'j3, digB[d2]'j2, digB[d1]'j1, digB[d0]'j0] : List UInt8).toArray⟩]) (by simp [results, Tryz.results119, go_sem]) rfl ⟨rfl, (Below.refl _ _).alloc (Nat.le_refl _) _⟩

end Go.Proofs.YtmihcicepgjogaaGreatDoor

/- A word's hexadecimal digits, so many. -/
namespace Go.Proofs.YtmihcicepgjogaaGreatDoor
open Go.ChangeShapes Go.WideShapes Go.ChangeAt Go.RowKit
set_option linter.unusedVariables false
set_option linter.unusedSimpArgs false

namespace W
/-- A hexadecimal small digit. -/
def hd (d : Nat) : UInt8 := if d < 10 then UInt8.ofNat (48 + d) else UInt8.ofNat (87 + d)
/-- The last n hexadecimal digits of x. -/
def hexL (x : Nat) : Nat → List UInt8
  | 0 => []
  | n + 1 => hexL (x / 16) n ++ [hd (x % 16)]
end W
theorem ba_extract (L : List UInt8) (i j : Nat) : (⟨L.toArray⟩ : ByteArray).extract i j = ⟨((L.drop i).take (j - i)).toArray⟩ := by
  apply ByteArray.ext
  rw [ByteArray.data_extract]
  simp [List.extract_eq_take_drop]
theorem digB_at (d : Nat) (h : d < 36) (h' : d < 16) : digB[d]'h = W.hd d := by
  have : ∀ d : Fin 16, digB.data[d.val]! = W.hd d.val := by decide
  have e := this ⟨d, h'⟩
  rw [← e]
  show digB.data[d] = _
  rw [getElem!_pos]
theorem and15 (a : Nat) (h : a < 18446744073709551616) : bits .and .u64 (a : Int) 15 = ((a % 16 : Nat) : Int) := by
  rw [show (15 : Int) = ((15 : Nat) : Int) from rfl, u64_and_nat a 15 h (by decide), show (15 : Nat) = 2 ^ 4 - 1 from rfl, Nat.and_two_pow_sub_one_eq_mod]
theorem or_top (k x : Nat) (hx : x < 2 ^ k) (hk : k ≤ 60) : bits .or .u64 ((2 ^ k : Nat) : Int) (x : Int) = ((2 ^ k + x : Nat) : Int) := by
  have hp : 2 ^ k ≤ 2 ^ 60 := Nat.pow_le_pow_right (by decide) hk
  have e60 : (2 : Nat) ^ 60 = 1152921504606846976 := by decide
  rw [u64_or_nat _ _ (by omega) (by omega)]
  have := Nat.two_pow_add_eq_or_of_lt hx 1
  rw [Nat.mul_one] at this
  rw [this]

theorem fb3 (x : Nat) (hx : x < 4096) (w : World) (hc : w.cell? ⟨16, 15, none⟩ = some (.int .u8 4)) :
    Calls Tryz.prog 119 #[.slice none 0 0, .int .u64 ((4096 + x : Nat) : Int), .int .i64 16, .bool false, .bool false] w fun e w' => e = .returned (.tuple #[.slice none 0 0, .string ⟨(49 :: W.hexL x 3).toArray⟩]) ∧ Below w.heap.size w w' := by
  have h := fbits_3 ((4096 + x : Nat) : Int) ((256 + x / 16 : Nat) : Int) ((16 + x / 256 : Nat) : Int) (x % 16) (x / 16 % 16) (x / 256 % 16) (by omega) (by omega) (by omega) (by omega) (by omega) (by omega) (by rw [and15 _ (by omega)]; congr 1; omega) (by rw [and15 _ (by omega)]; congr 1; omega) (by rw [and15 _ (by omega)]; congr 1; omega) (by omega) (by omega) (by omega) w hc
  have e : ([49, W.hd (x / 256 % 16), W.hd (x / 16 % 16), W.hd (x % 16)] : List UInt8) = 49 :: W.hexL x 3 := by
    simp only [W.hexL, List.nil_append, List.cons_append, List.append_assoc, Nat.div_div_eq_div_mul]
  rw [← e]
  rw [digB_at (x % 16) (by omega) (by omega)] at h
  rw [digB_at (x / 16 % 16) (by omega) (by omega)] at h
  rw [digB_at (x / 256 % 16) (by omega) (by omega)] at h
  exact h

theorem fui3 (x : Nat) (hx : x < 4096) (w : World) (hc : w.cell? ⟨16, 15, none⟩ = some (.int .u8 4)) :
    Calls Tryz.prog 127 #[.int .u64 ((4096 + x : Nat) : Int), .int .i64 16] w fun e w' => e = .returned (.string ⟨(49 :: W.hexL x 3).toArray⟩) ∧ Below w.heap.size w w' := by
  have HC : Hid (w.cell? ⟨16, 15, none⟩ = some (.int .u8 4)) := hc
  clear hc
  generalize hU : ((4096 + x : Nat) : Int) = U
  have HU : Hid (((4096 + x : Nat) : Int) = U) := hU
  clear hU
  go_enter Tryz.func127, Tryz.ntmps127
  go_wp2_with (go_at_call 119; rw [← HU.out]; refine (fb3 x hx _ HC.out).mono ?_; rintro e w1 ⟨rfl, hm⟩)
  go_ret
  exact ⟨rfl, hm⟩

theorem fu3 (x : Nat) (hx : x < 4096) (w : World) (hc : w.cell? ⟨16, 15, none⟩ = some (.int .u8 4)) :
    Calls Tryz.prog 103 #[.int .u64 ((4096 + x : Nat) : Int), .int .i64 16] w fun e w' => e = .returned (.string ⟨(49 :: W.hexL x 3).toArray⟩) ∧ Below w.heap.size w w' := by
  have HC : Hid (w.cell? ⟨16, 15, none⟩ = some (.int .u8 4)) := hc
  clear hc
  generalize hU : ((4096 + x : Nat) : Int) = U
  have HU : Hid (((4096 + x : Nat) : Int) = U) := hU
  clear hU
  go_enter Tryz.func103, Tryz.ntmps103
  go_wp2_with (go_at_call 127; rw [← HU.out]; refine (fui3 x hx _ HC.out).mono ?_; rintro e w1 ⟨rfl, hm⟩)
  go_ret
  exact ⟨rfl, hm⟩

set_option maxRecDepth 100000 in
theorem hex3 (A : Nat → Addr) (x : Nat) (hx : x < 4096) (w : World) (hS : Sg A w) :
    Calls Tryz.prog 74 #[.int .u32 x, .int .i64 3] w fun e w' => e = .returned (.string ⟨(48 :: 120 :: W.hexL x 3).toArray⟩) ∧ Below w.heap.size w w' := by
  have HS : Hid (Sg A w) := hS
  have hor : bits .or .u64 4096 (x : Int) = ((4096 + x : Nat) : Int) := or_top 12 x hx (by decide)
  generalize hU : ((4096 + x : Nat) : Int) = U at hor
  have HU : Hid (((4096 + x : Nat) : Int) = U) := hU
  have hl : (W.hexL x 3).length = 3 := by simp [W.hexL]
  generalize hL : W.hexL x 3 = L at hl
  have HL : Hid (W.hexL x 3 = L) := hL
  clear hU hS hL
  go_enter Tryz.func74, Tryz.ntmps74
  go_wp2_with (go_at_call 103; rw [← HU.out]; refine (fu3 x hx _ HS.out.tz).mono ?_; rintro e w1 ⟨rfl, hm⟩; have HM : Hid (Below w.heap.size w w1) := hm; clear hm; rw [HL.out])
  go_ret
  refine ⟨?_, HM.out⟩
  have e1 : (⟨(49 :: L).toArray⟩ : ByteArray).extract 1 4 = ⟨L.toArray⟩ := by
    rw [ba_extract]
    simp [List.take_of_length_le, hl]
  have e2 : ((⟨#[48, 120]⟩ : ByteArray) ++ (⟨(49 :: L).toArray⟩ : ByteArray).extract 1 4) = ⟨(48 :: 120 :: L).toArray⟩ := by
    rw [e1]
    exact ba_append [48, 120] L
  exact congrArg (fun s => Ending.returned (.string s)) e2

theorem fb8 (x : Nat) (hx : x < 4294967296) (w : World) (hc : w.cell? ⟨16, 15, none⟩ = some (.int .u8 4)) :
    Calls Tryz.prog 119 #[.slice none 0 0, .int .u64 ((4294967296 + x : Nat) : Int), .int .i64 16, .bool false, .bool false] w fun e w' => e = .returned (.tuple #[.slice none 0 0, .string ⟨(49 :: W.hexL x 8).toArray⟩]) ∧ Below w.heap.size w w' := by
  have h := fbits_8 ((4294967296 + x : Nat) : Int) ((268435456 + x / 16 : Nat) : Int) ((16777216 + x / 256 : Nat) : Int) ((1048576 + x / 4096 : Nat) : Int) ((65536 + x / 65536 : Nat) : Int) ((4096 + x / 1048576 : Nat) : Int) ((256 + x / 16777216 : Nat) : Int) ((16 + x / 268435456 : Nat) : Int) (x % 16) (x / 16 % 16) (x / 256 % 16) (x / 4096 % 16) (x / 65536 % 16) (x / 1048576 % 16) (x / 16777216 % 16) (x / 268435456 % 16) (by omega) (by omega) (by omega) (by omega) (by omega) (by omega) (by omega) (by omega) (by omega) (by omega) (by omega) (by omega) (by omega) (by omega) (by omega) (by omega) (by rw [and15 _ (by omega)]; congr 1; omega) (by rw [and15 _ (by omega)]; congr 1; omega) (by rw [and15 _ (by omega)]; congr 1; omega) (by rw [and15 _ (by omega)]; congr 1; omega) (by rw [and15 _ (by omega)]; congr 1; omega) (by rw [and15 _ (by omega)]; congr 1; omega) (by rw [and15 _ (by omega)]; congr 1; omega) (by rw [and15 _ (by omega)]; congr 1; omega) (by omega) (by omega) (by omega) (by omega) (by omega) (by omega) (by omega) (by omega) w hc
  have e : ([49, W.hd (x / 268435456 % 16), W.hd (x / 16777216 % 16), W.hd (x / 1048576 % 16), W.hd (x / 65536 % 16), W.hd (x / 4096 % 16), W.hd (x / 256 % 16), W.hd (x / 16 % 16), W.hd (x % 16)] : List UInt8) = 49 :: W.hexL x 8 := by
    simp only [W.hexL, List.nil_append, List.cons_append, List.append_assoc, Nat.div_div_eq_div_mul]
  rw [← e]
  rw [digB_at (x % 16) (by omega) (by omega)] at h
  rw [digB_at (x / 16 % 16) (by omega) (by omega)] at h
  rw [digB_at (x / 256 % 16) (by omega) (by omega)] at h
  rw [digB_at (x / 4096 % 16) (by omega) (by omega)] at h
  rw [digB_at (x / 65536 % 16) (by omega) (by omega)] at h
  rw [digB_at (x / 1048576 % 16) (by omega) (by omega)] at h
  rw [digB_at (x / 16777216 % 16) (by omega) (by omega)] at h
  rw [digB_at (x / 268435456 % 16) (by omega) (by omega)] at h
  exact h

theorem fui8 (x : Nat) (hx : x < 4294967296) (w : World) (hc : w.cell? ⟨16, 15, none⟩ = some (.int .u8 4)) :
    Calls Tryz.prog 127 #[.int .u64 ((4294967296 + x : Nat) : Int), .int .i64 16] w fun e w' => e = .returned (.string ⟨(49 :: W.hexL x 8).toArray⟩) ∧ Below w.heap.size w w' := by
  have HC : Hid (w.cell? ⟨16, 15, none⟩ = some (.int .u8 4)) := hc
  clear hc
  generalize hU : ((4294967296 + x : Nat) : Int) = U
  have HU : Hid (((4294967296 + x : Nat) : Int) = U) := hU
  clear hU
  go_enter Tryz.func127, Tryz.ntmps127
  go_wp2_with (go_at_call 119; rw [← HU.out]; refine (fb8 x hx _ HC.out).mono ?_; rintro e w1 ⟨rfl, hm⟩)
  go_ret
  exact ⟨rfl, hm⟩

theorem fu8 (x : Nat) (hx : x < 4294967296) (w : World) (hc : w.cell? ⟨16, 15, none⟩ = some (.int .u8 4)) :
    Calls Tryz.prog 103 #[.int .u64 ((4294967296 + x : Nat) : Int), .int .i64 16] w fun e w' => e = .returned (.string ⟨(49 :: W.hexL x 8).toArray⟩) ∧ Below w.heap.size w w' := by
  have HC : Hid (w.cell? ⟨16, 15, none⟩ = some (.int .u8 4)) := hc
  clear hc
  generalize hU : ((4294967296 + x : Nat) : Int) = U
  have HU : Hid (((4294967296 + x : Nat) : Int) = U) := hU
  clear hU
  go_enter Tryz.func103, Tryz.ntmps103
  go_wp2_with (go_at_call 127; rw [← HU.out]; refine (fui8 x hx _ HC.out).mono ?_; rintro e w1 ⟨rfl, hm⟩)
  go_ret
  exact ⟨rfl, hm⟩

set_option maxRecDepth 100000 in
theorem hex8 (A : Nat → Addr) (x : Nat) (hx : x < 4294967296) (w : World) (hS : Sg A w) :
    Calls Tryz.prog 74 #[.int .u32 x, .int .i64 8] w fun e w' => e = .returned (.string ⟨(48 :: 120 :: W.hexL x 8).toArray⟩) ∧ Below w.heap.size w w' := by
  have HS : Hid (Sg A w) := hS
  have hor : bits .or .u64 4294967296 (x : Int) = ((4294967296 + x : Nat) : Int) := or_top 32 x hx (by decide)
  generalize hU : ((4294967296 + x : Nat) : Int) = U at hor
  have HU : Hid (((4294967296 + x : Nat) : Int) = U) := hU
  have hl : (W.hexL x 8).length = 8 := by simp [W.hexL]
  generalize hL : W.hexL x 8 = L at hl
  have HL : Hid (W.hexL x 8 = L) := hL
  clear hU hS hL
  go_enter Tryz.func74, Tryz.ntmps74
  go_wp2_with (go_at_call 103; rw [← HU.out]; refine (fu8 x hx _ HS.out.tz).mono ?_; rintro e w1 ⟨rfl, hm⟩; have HM : Hid (Below w.heap.size w w1) := hm; clear hm; rw [HL.out])
  go_ret
  refine ⟨?_, HM.out⟩
  have e1 : (⟨(49 :: L).toArray⟩ : ByteArray).extract 1 9 = ⟨L.toArray⟩ := by
    rw [ba_extract]
    simp [List.take_of_length_le, hl]
  have e2 : ((⟨#[48, 120]⟩ : ByteArray) ++ (⟨(49 :: L).toArray⟩ : ByteArray).extract 1 9) = ⟨(48 :: 120 :: L).toArray⟩ := by
    rw [e1]
    exact ba_append [48, 120] L
  exact congrArg (fun s => Ending.returned (.string s)) e2

end Go.Proofs.YtmihcicepgjogaaGreatDoor

/- The document's hexadecimal digits. -/
namespace Go.Proofs.YtmihcicepgjogaaGreatDoor
open Go.ChangeShapes Go.WideShapes Go.ChangeAt Go.RowKit
set_option linter.unusedVariables false
set_option linter.unusedSimpArgs false

theorem pow16 (r : Nat) : (2 : Nat) ^ (4 * r) = 16 ^ r := by rw [Nat.pow_mul]
theorem hexL_step (x n k : Nat) (h : k < n) : W.hexL (x / 16 ^ (n - (k + 1))) (k + 1) = W.hexL (x / 16 ^ (n - k)) k ++ [W.hd (x / 16 ^ (n - (k + 1)) % 16)] := by
  have e : x / 16 ^ (n - (k + 1)) / 16 = x / 16 ^ (n - k) := by
    rw [Nat.div_div_eq_div_mul, ← Nat.pow_succ]
    congr 2
    omega
  rw [W.hexL, e]

theorem hexL_len2 (n : Nat) : ∀ x, (W.hexL x n).length = n := by
  induction n with
  | zero => intro x; rfl
  | succ n ih => intro x; rw [W.hexL, List.length_append, ih]; rfl
theorem sixteen (d : Nat) (h : d < 16) : d = 0 ∨ d = 1 ∨ d = 2 ∨ d = 3 ∨ d = 4 ∨ d = 5 ∨ d = 6 ∨ d = 7 ∨ d = 8 ∨ d = 9 ∨ d = 10 ∨ d = 11 ∨ d = 12 ∨ d = 13 ∨ d = 14 ∨ d = 15 := by omega
theorem slice_hex (d : Nat) (h : d < 16) (w : World) : (Instr.slice 9 (.string ⟨#[48, 49, 50, 51, 52, 53, 54, 55, 56, 57, 97, 98, 99, 100, 101, 102]⟩) (some (.int .u32 (d : Int))) (some (.int .u32 ((d : Int) + 1))) none).run Tryz.prog w = .ok (.string ⟨#[W.hd d]⟩) w := by
  rcases sixteen d h with rfl | rfl | rfl | rfl | rfl | rfl | rfl | rfl | rfl | rfl | rfl | rfl | rfl | rfl | rfl | rfl <;> kernel_rfl

set_option maxRecDepth 100000 in
set_option maxHeartbeats 800000 in
theorem rhex_any (x n : Nat) (hx : x < 4294967296) (hn : n ≤ 8) (w : World) : Calls Tryz.prog 34 #[.int .u32 x, .int .i64 n] w fun e w' => e = .returned (.string ⟨(W.hexL x n).toArray⟩) ∧ w = w' := by
  go_enter Tryz.func34, Tryz.ntmps34
  go_wp2
  go_loop [6, 7] (fun s i => ∃ k : Nat, k ≤ n ∧ i = .int .i64 ((n : Int) - 1 - k) ∧ s = .string ⟨(W.hexL (x / 16 ^ (n - k)) k).toArray⟩) (fun _ i => (intOf i + 1).toNat)
  case atStart => exact ⟨0, by omega, by simp, by simp [W.hexL]⟩
  case round =>
    obtain ⟨k, hk, rfl, rfl⟩ := hrel
    by_cases hlt : k < n
    · obtain ⟨d, hd⟩ : ∃ d, x / 16 ^ (n - (k + 1)) % 16 = d := ⟨_, rfl⟩
      have hd16 : d < 16 := by omega
      have hq : bits .and .u32 ((x : Int) / 2 ^ (4 * (n - 1 - k))) 15 = (d : Int) := by
        have e : ((x : Int) / 2 ^ (4 * (n - 1 - k))) = ((x / 16 ^ (n - (k + 1)) : Nat) : Int) := by
          rw [show n - 1 - k = n - (k + 1) by omega, Int.natCast_ediv, ← pow16]
          simp
        have hle : x / 16 ^ (n - (k + 1)) ≤ x := Nat.div_le_self _ _
        rw [e, show (15 : Int) = ((15 : Nat) : Int) from rfl, u32_and_nat _ 15 (by omega) (by decide), show (15 : Nat) = 2 ^ 4 - 1 from rfl, Nat.and_two_pow_sub_one_eq_mod, ← hd]
      have hsl := slice_hex d hd16
      have hlen : (W.hexL (x / 16 ^ (n - k)) k).length ≤ 8 := by rw [hexL_len2]; omega
      have HT : Hid (W.hexL (x / 16 ^ (n - (k + 1))) (k + 1) = W.hexL (x / 16 ^ (n - k)) k ++ [W.hd d]) := by
        have := hexL_step x n k hlt
        rw [hd] at this
        exact this
      clear hd
      go_wp2
      go_round
      case rel =>
        refine ⟨k + 1, by omega, by go_num, ?_⟩
        rw [HT.out]
        exact congrArg Value.string (ba_append _ [W.hd d])
      case measure => simp [intOf]; omega
    · obtain rfl : k = n := by omega
      go_wp2
      go_ret
      exact ⟨rfl, rfl⟩

theorem rhex_8 (x : Nat) (hx : x < 4294967296) (w : World) : Calls Tryz.prog 34 #[.int .u32 x, .int .i64 8] w fun e w' => e = .returned (.string ⟨(W.hexL x 8).toArray⟩) ∧ w = w' := rhex_any x 8 hx (by decide) w

/-- The document's text of a word that is none. -/
theorem raw_any (x : Nat) (hx : x < 4294967296) (w : World) : Calls Tryz.prog 21 #[.int .u32 x] w fun e w' => e = .returned (.string ⟨([46, 119, 111, 114, 100, 32] ++ (48 :: 120 :: W.hexL x 8)).toArray⟩) ∧ w = w' := by
  have ha := ba_append [46, 119, 111, 114, 100, 32, 48, 120] (W.hexL x 8)
  have HA : Hid (_ = _) := ha
  have hlen : (W.hexL x 8).length ≤ 8 := by rw [hexL_len2]; omega
  clear ha
  go_enter Tryz.func21, Tryz.ntmps21
  go_wp2_with (go_at_call 34; refine (rhex_8 x hx _).mono ?_; rintro e w' ⟨rfl, rfl⟩)
  go_ret
  exact ⟨congrArg (fun s => Ending.returned (Value.string s)) HA.out, rfl⟩
end Go.Proofs.YtmihcicepgjogaaGreatDoor

/- The document's registers and signed numbers as texts. -/
namespace Go.Proofs.YtmihcicepgjogaaGreatDoor
open Go.ChangeShapes Go.WideShapes Go.ChangeAt Go.RowKit
set_option linter.unusedVariables false
set_option linter.unusedSimpArgs false

theorem rreg_any (n : Nat) (hn : n < 100) (w : World) : Calls Tryz.prog 31 #[.int .i64 n] w fun e w' => e = .returned (.string ⟨(W.regL n).toArray⟩) ∧ w = w' := by
  have hl : ¬ 9223372036854775807 < 1 + (Lib.decDigits n).length := by have := dec_len n (by omega); omega
  go_enter Tryz.func31, Tryz.ntmps31
  go_wp2_with (go_at_call 32; refine (Tryz.strconv_Itoa_small n hn _).mono ?_; rintro e w' ⟨rfl, rfl⟩)
  go_ret
  exact ⟨congrArg (fun s => Ending.returned (.string s)) (ba_append [120] _), rfl⟩

theorem rsigned_any (A : Nat → Addr) (x : Int) (w : World) (hS : Sg A w) : Calls Tryz.prog 33 #[.int .u32 x] w fun e w' => e = .returned (.string ⟨(Lib.itoa (wrap32 x)).toArray⟩) ∧ Below w.heap.size w w' := by
  have HS : Hid (Sg A w) := hS
  have hx : Hid (wrap64 (wrap32 x) = wrap32 x ∧ -2147483648 ≤ wrap32 x ∧ wrap32 x ≤ 2147483647) := wrap_in x
  clear hS
  go_enter Tryz.func33, Tryz.ntmps33
  go_wp2_with (go_at_call 32; rw [hx.out.1]; refine (Tryz.strconv_Itoa _ (by have := hx.out.2; omega) (by have := hx.out.2; omega) _ HS.out.tab).mono ?_; rintro e w' ⟨rfl, k, os, rfl⟩)
  go_ret
  exact ⟨rfl, (grow_bel _ _ _)⟩
/-- Itoa of a number of 32 bits. -/
theorem ritoa_any (A : Nat → Addr) (x : Int) (x0 : 0 ≤ x) (x1 : x < 4294967296) (w : World) (hS : Sg A w) : Calls Tryz.prog 32 #[.int .i64 x] w fun e w' => e = .returned (.string ⟨(Lib.itoa x).toArray⟩) ∧ Below w.heap.size w w' := by
  refine (Tryz.strconv_Itoa x (by omega) (by omega) w hS.tab).mono ?_
  rintro e w' ⟨rfl, k, os, rfl⟩
  exact ⟨rfl, grow_bel _ _ _⟩
end Go.Proofs.YtmihcicepgjogaaGreatDoor
