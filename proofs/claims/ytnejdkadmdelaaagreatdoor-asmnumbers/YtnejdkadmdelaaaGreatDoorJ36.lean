/- Texts in one: AsmZ4, AsmL, AsmLa, AsmPr, AsmPb, AsmSm, AsmAt, AsmFa, AsmLz, AsmRaw, AsmBackA, AsmBackB. -/
import Derived.OwnWalk
import Derived.WalkSpells
import Derived.Deep.RegionHeld3
import Derived.Deep.RegionWith
import Derived.Test.YtnejdkadmdelaaaGreatDoorJ18
import Derived.Test.YtnejdkadmdelaaaGreatDoorJ24
import Derived.Test.YtnejdkadmdelaaaGreatDoorJ27
import Derived.Test.YtnejdkadmdelaaaGreatDoorJ35
/- Parse of texts that are none. -/
namespace Go.Proofs.YtnejdkadmdelaaaGreatDoor
open Go.ChangeShapes Go.WideShapes Go.ChangeAt Go.RowKit
set_option linter.unusedVariables false
set_option linter.unusedSimpArgs false

set_option maxRecDepth 1000000 in
set_option maxHeartbeats 3200000 in
/-- Parse of a text that is read as something that is written otherwise. -/
theorem parse_diff (A : Nat → Addr) (i : W.I) (T L : List UInt8) (hne : (L == T) = false) (he : W.encE i = 0) (hL : W.textL i = L) (HRd : Hid (∀ w : World, Sg A w → Calls Tryz.prog 35 #[.string ⟨T.toArray⟩] w fun e w' => e = .returned (inV i) ∧ Below w.heap.size w w')) (w : World) (hS : Sg A w) : Calls Tryz.prog 12 #[.string ⟨T.toArray⟩] w fun e w' => e = .returned (.tuple #[inV ⟨0, 0, 0, 0, 0, 0, false, false⟩, errV A 6]) ∧ Below w.heap.size w w' := by
  have HPr : Hid (∀ w : World, Sg A w → Calls Tryz.prog 9 #[inV i] w fun e w' => e = .returned (.tuple #[.string ⟨L.toArray⟩, .nilIface]) ∧ Below w.heap.size w w') := fun w h => hL ▸ print_ok A i _ w h he rfl
  have HS : Hid (Sg A w) := hS
  clear hS he hL
  go_enter Tryz.func12, Tryz.ntmps12
  go_wp2_with (first
    | (go_at_call 35; refine (HRd.out _ (HS.out.below ((Below.refl _ _).alloc (Nat.le_refl _) _))).mono ?_; rintro e w1 ⟨rfl, hm⟩; have R1 : Hid (Room w.heap.size 8 w1) := ⟨_, _, (hm.block _ (by simp)).trans (heap_alloc_last w _), rfl⟩; have B1 : Hid (Below w.heap.size w w1) := ((Below.refl _ _).alloc (Nat.le_refl _) _).trans (hm.mono (by simp)); have lt1 : w.heap.size < w1.heap.size := (by have := hm.size; simp at this; omega); clear hm; unfold inV)
    | (go_at_call 9; refine (HPr.out _ (HS.out.below (B1.out.alloc B1.out.size _))).mono ?_; rintro e w2 ⟨rfl, hm⟩; have B2 : Hid (Below w.heap.size w w2) := (B1.out.alloc B1.out.size _).trans (hm.mono (by simp; omega)); have lt2 : w1.heap.size < w2.heap.size := (by have := hm.size; simp at this; omega); obtain ⟨v0, v1, v2, v3, v4, v5, v6, v7, r0, r1, r2, r3, r4, r5, r6, r7, r8⟩ := ((R1.out.below ((Below.refl _ _).alloc (Nat.le_refl _) _) lt1).below hm (by simp; omega)).eight; clear hm; have c5 : w2.cell? ⟨0, 0, none⟩ = some _ := (HS.out.below B2.out).sent.cell 5 (by omega); have g5 := World.block_lt_of_cell? _ _ (HS.out.sent.cell 5 (by omega))))
  go_region
  all_goals
    go_wp2
    refine bodyPost_ret (v := .tuple #[inV ⟨0, 0, 0, 0, 0, 0, false, false⟩, errV A 6]) ?_ rfl ⟨rfl, ?_⟩
    · simp [results, Tryz.results12, go_sem, inV, errV, r0, r1, r2, r3, r4, r5, r6, r7]
    · exact (((((((((B2.out.setCell (Nat.le_refl _) _).setCell (Nat.le_refl _) _).setCell (Nat.le_refl _) _).setCell (Nat.le_refl _) _).setCell (Nat.le_refl _) _).setCell (Nat.le_refl _) _).setCell (Nat.le_refl _) _).setCell (Nat.le_refl _) _)).drew

def exI : W.I := ⟨19, 1, 0, 0, 0, 5, false, false⟩
def exT : List UInt8 := [97, 100, 100, 105, 32, 120, 49, 44, 120, 48, 44, 53]
def exR (k : Nat) : List UInt8 := [[120, 49, 44, 120, 48, 44, 53], [44, 120, 48, 44, 53], [120, 48, 44, 53], [120, 48, 44, 53], [44, 53], [53], [53], []].getD k []
def exJ (k : Nat) : W.I := [⟨19, 0, 0, 0, 0, 0, false, false⟩, ⟨19, 1, 0, 0, 0, 0, false, false⟩, ⟨19, 1, 0, 0, 0, 0, false, false⟩, ⟨19, 1, 0, 0, 0, 0, false, false⟩, ⟨19, 1, 0, 0, 0, 0, false, false⟩, ⟨19, 1, 0, 0, 0, 0, false, false⟩, ⟨19, 1, 0, 0, 0, 0, false, false⟩, exI].getD k exI
theorem plain_of (l : List UInt8) (h : (l.all fun c => decide (c.toNat < 128) && !W.btw c.toNat) = true) : plainL l := fun c hc => by
  have := List.all_eq_true.1 h c hc
  simpa using this
theorem ex_read (A : Nat → Addr) (w : World) (hS : Sg A w) : Calls Tryz.prog 35 #[.string ⟨exT.toArray⟩] w fun e w' => e = .returned (inV exI) ∧ Below w.heap.size w w' := by
  have d1 : W.regL 1 = [120, 49] := by rw [W.regL, Lib.decDigits_one (by omega)]; rfl
  have d0 : W.regL 0 = [120, 48] := by rw [W.regL, Lib.decDigits_one (by omega)]; rfl
  have d5 : Lib.itoa 5 = [53] := by rw [Lib.itoa, if_neg (by omega)]; rw [Lib.decDigits_one (by decide)]; rfl
  refine read_seq A exI exR exJ exT [97, 100, 100, 105] [97, 100, 100, 105] [97, 100, 100, 105] _ [100, 44, 32, 49, 44, 32, 105] true w hS (by decide) (by decide) (by decide) (cut_at [97, 100, 100, 105] _ (by decide)) (by show Lib.trimSuffix _ _ = _; decide) (by show Lib.hasSuffix _ _ = false; decide) (by show Lib.trimSuffix _ _ = _; decide) (by show Lib.hasSuffix _ _ = false; decide) (by show max 0 (W.fidx _ 0 70) = 19; decide +kernel) (by show W.form 19 = _; decide +kernel) (by show W.okForm _ = true; decide) rfl rfl rfl ?_ ?_
  · intro pos h hb
    match pos, h with
    | 0, _ => exact absurd (show W.btw (100 : UInt8).toNat = true from hb) (by decide)
    | 1, _ => exact ⟨(show Lib.trimPrefix (exR 1) [44] = exR 2 from by decide), rfl⟩
    | 2, _ => exact ⟨(show Lib.trimPrefix (exR 2) [32] = exR 3 from by decide), rfl⟩
    | 3, _ => exact absurd (show W.btw (49 : UInt8).toNat = true from hb) (by decide)
    | 4, _ => exact ⟨(show Lib.trimPrefix (exR 4) [44] = exR 5 from by decide), rfl⟩
    | 5, _ => exact ⟨(show Lib.trimPrefix (exR 5) [32] = exR 6 from by decide), rfl⟩
    | 6, _ => exact absurd (show W.btw (105 : UInt8).toNat = true from hb) (by decide)
  · intro pos h hb
    match pos, h with
    | 0, _ => exact ⟨[120, 49], 1, rfl, pend_at [120, 49] 44 _ (plain_of _ (by decide)) (by decide) (by decide), (show exJ 1 = W.putI (exJ 0) (100 : UInt8).toNat 1 from rfl), fun w => d1 ▸ number_reg 1 (by omega) w⟩
    | 1, _ => exact absurd (show W.btw (44 : UInt8).toNat = false from hb) (by decide)
    | 2, _ => exact absurd (show W.btw (32 : UInt8).toNat = false from hb) (by decide)
    | 3, _ => exact ⟨[120, 48], 0, rfl, pend_at [120, 48] 44 _ (plain_of _ (by decide)) (by decide) (by decide), (show exJ 4 = W.putI (exJ 3) (49 : UInt8).toNat 0 from rfl), fun w => d0 ▸ number_reg 0 (by omega) w⟩
    | 4, _ => exact absurd (show W.btw (44 : UInt8).toNat = false from hb) (by decide)
    | 5, _ => exact absurd (show W.btw (32 : UInt8).toNat = false from hb) (by decide)
    | 6, _ => exact ⟨[53], 5, rfl, pend_end [53] (plain_of _ (by decide)), (show exJ 7 = W.putI (exJ 6) (105 : UInt8).toNat 5 from rfl), fun w => d5 ▸ number_dec 5 (by omega) (by omega) w⟩
theorem ex_text : W.textL exI = [97, 100, 100, 105, 32, 120, 49, 44, 32, 120, 48, 44, 32, 53] := by
  have d1 : W.regL 1 = [120, 49] := by rw [W.regL, Lib.decDigits_one (by omega)]; rfl
  have d0 : W.regL 0 = [120, 48] := by rw [W.regL, Lib.decDigits_one (by omega)]; rfl
  have d5 : Lib.itoa 5 = [53] := by rw [Lib.itoa, if_neg (by omega)]; rw [Lib.decDigits_one (by decide)]; rfl
  have hf : W.form exI.op = [100, 44, 32, 49, 44, 32, 105] := by decide +kernel
  have hn : W.nm exI.op = [97, 100, 100, 105] := by decide +kernel
  have e : W.restL exI [100, 44, 32, 49, 44, 32, 105] = W.partL exI 100 ++ ([44] ++ ([32] ++ (W.partL exI 49 ++ ([44] ++ ([32] ++ (W.partL exI 105 ++ [])))))) := rfl
  have hw : wrap32 exI.imm = 5 := by show wrap32 5 = 5; simp only [wrap32]; omega
  rw [W.textL, hf, hn, e, W.partL_100, W.partL_49, W.partL_105, hw, d5, show exI.rd.toNat = 1 from rfl, show exI.rs1.toNat = 0 from rfl, d1, d0]
  rfl
/-- The chapter's text that is none. -/
theorem parse_ex (A : Nat → Addr) (w : World) (hS : Sg A w) : Calls Tryz.prog 12 #[.string ⟨exT.toArray⟩] w fun e w' => e = .returned (.tuple #[inV ⟨0, 0, 0, 0, 0, 0, false, false⟩, errV A 6]) ∧ Below w.heap.size w w' :=
  parse_diff A exI exT _ (by decide) (by decide +kernel) ex_text (fun w h => ex_read A w h) w hS
end Go.Proofs.YtnejdkadmdelaaaGreatDoor

/- A word as a line; lines held against each other. -/
namespace Go.Proofs.YtnejdkadmdelaaaGreatDoor
open Go.ChangeShapes Go.WideShapes Go.ChangeAt Go.RowKit
set_option linter.unusedVariables false
set_option linter.unusedSimpArgs false

theorem line_any (A : Nat → Addr) (x : Int) (x0 : 0 ≤ x) (x1 : x < 4294967296) (w : World) (hS : Sg A w) : Calls Tryz.prog 40 #[.int .u32 x] w fun e w' => e = .returned (.string ⟨(W.lineL x).toArray⟩) ∧ Below w.heap.size w w' := by
  unfold W.lineL
  cases hb : W.decB x
  · obtain ⟨n, rfl⟩ := Int.eq_ofNat_of_zero_le x0
    exact line_no A n (by omega) _ w hS rfl hb
  · exact line_is A x _ w hS (W.inR_of (W.encE_zero (W.enc_dec x0 x1 hb).1).2.2.1) rfl hb
/-- Parse of a line: the instruction, where the word is one. -/
theorem parse_line (A : Nat → Addr) (x : Int) (x0 : 0 ≤ x) (x1 : x < 4294967296) (hb : W.decB x = true) (w : World) (hS : Sg A w) : Calls Tryz.prog 12 #[.string ⟨(W.lineL x).toArray⟩] w fun e w' => e = .returned (.tuple #[inV (W.decI x), .nilIface]) ∧ Below w.heap.size w w' := by
  have he := (W.enc_dec x0 x1 hb).1
  have hm : 0 ≤ (W.decI x).imm ∧ (W.decI x).imm < 4294967296 := by
    show 0 ≤ (bif W.hasImm (W.shp (W.dec x)) then W.immS (W.shp (W.dec x)) x else 0) ∧ (bif W.hasImm (W.shp (W.dec x)) then W.immS (W.shp (W.dec x)) x else 0) < 4294967296
    cases W.hasImm (W.shp (W.dec x))
    · rw [cond_false]; decide
    · unfold W.immS
      cases decide (0 < (W.shp (W.dec x)).size)
      · exact W.imm_lt _ _
      · exact W.bitsOf_lt _ _ _
  have := parse_ok A (W.decI x) hm.1 hm.2 he w hS
  rw [W.lineL, hb]
  exact this
/-- Parse of a line: ErrWord, where the word is none. -/
theorem parse_line_no (A : Nat → Addr) (x : Int) (x0 : 0 ≤ x) (hb : W.decB x = false) (w : World) (hS : Sg A w) : Calls Tryz.prog 12 #[.string ⟨(W.lineL x).toArray⟩] w fun e w' => e = .returned (.tuple #[inV ⟨0, 0, 0, 0, 0, 0, false, false⟩, errV A 6]) ∧ Below w.heap.size w w' := by
  rw [W.lineL, hb]
  exact parse_word A x.toNat w hS
end Go.Proofs.YtnejdkadmdelaaaGreatDoor

/- Lines: how words are told. -/
namespace Go.Proofs.YtnejdkadmdelaaaGreatDoor
open Go.ChangeShapes Go.WideShapes Go.ChangeAt Go.RowKit
set_option linter.unusedVariables false
set_option linter.unusedSimpArgs false

theorem gbelow5 {a b : World} {r : Option Nat} (h : Below a.heap.size a b) : a.grownBy b r := ⟨h.os, h.tape, h.output, h.size, fun k hk _ => h.block k hk⟩
theorem infoStr : (Tryz.prog.info? 9).map (fun i => (i.zero, i.size, i.bytes)) = some (some (.string ⟨#[]⟩), 1, 16) := by kernel_rfl
theorem infoU32 : (Tryz.prog.info? 22).map (fun i => (i.zero, i.size, i.bytes)) = some (some (.int .u32 0), 1, 4) := by kernel_rfl
theorem addr0 (g n : Nat) : (⟨g, 0, none⟩ : Addr).add n = ⟨g, n, none⟩ := by
  unfold Addr.add
  split <;> simp
theorem one_new (w : World) (t : TypeId) (a : Value) : ∀ j u, [a][j]? = some u → (w.alloc (.cells #[a] t)).cell? ((⟨w.heap.size, 0, none⟩ : Addr).add j) = some u := by
  intro j u h
  match j, h with
  | 0, h => simp at h; subst h; simp [go_sem, Addr.add]
/-- The first k of a row of values. -/
def rowOf (f : Nat → Value) (k : Nat) : List Value := (List.range k).map f
theorem rowOf_succ (f : Nat → Value) (k : Nat) : rowOf f (k + 1) = rowOf f k ++ [f k] := by simp [rowOf, List.range_succ]
theorem rowOf_get (f : Nat → Value) (k j : Nat) (h : j < k) : (rowOf f k)[j]? = some (f j) := by simp [rowOf, h]
def lineV (X : Nat → Int) (j : Nat) : Value := .string ⟨(W.lineL (X j)).toArray⟩

set_option maxHeartbeats 1600000 in
theorem lines_any (A : Nat → Addr) (b off n cap : Nat) (X : Nat → Int) (w : World) (hS : Sg A w) (hn : n ≤ 1000) (hbB : b < w.heap.size) (hX : ∀ j, j < n → 0 ≤ X j ∧ X j < 4294967296)
    (hc : ∀ j, j < n → w.cell? ⟨b, off + j, none⟩ = some (.int .u32 (X j))) :
    Calls Tryz.prog 16 #[.slice (some ⟨b, off, none⟩) n cap] w fun e w' => e = .returned (.slice (some ⟨w.heap.size, 0, none⟩) n n) ∧ Below w.heap.size w w' ∧ (∀ j, j < n → w'.cell? ⟨w.heap.size, j, none⟩ = some (lineV X j)) ∧ w.heap.size < w'.heap.size := by
  obtain ⟨i0, hi, hz0, hz1, hz2⟩ := info_parts infoStr
  have HS : Hid (Sg A w) := hS
  clear hS
  go_enter Tryz.func16, Tryz.ntmps16
  go_wp2_with (at_make; refine wpList_make_own _ rfl _ _ 41 rfl w.heap.size 9 i0 (.string ⟨#[]⟩) 1 Tryz.underlying41 hi hz0 hz1 .i64 .i64 _ n rfl rfl rfl (by rw [hz2]; omega) (by unfold maxLen; omega) (Nat.le_refl _) ?_; intro w0 hown0 hg0)
  have hb0 : Below w.heap.size w w0 := (Below.refl _ _).grown hg0 (Nat.le_refl _) (fun k hk => by cases hk)
  go_loopw [3, 11] (fun v i wr => ∃ k : Nat, k ≤ n ∧ i = .int .i64 k ∧ v = .slice (some ⟨w.heap.size, 0, none⟩) k n ∧ wr.ownsRow w.heap.size 9 1 (.slice (some ⟨w.heap.size, 0, none⟩) k n) k (rowOf (lineV X) k) ∧ Below w.heap.size w wr) (fun _ i _ => n - (intOf i).toNat)
  case atStart => exact ⟨0, by omega, rfl, rfl, hown0, hb0⟩
  case round =>
    obtain ⟨k, hk, rfl, rfl, hown, hbl⟩ := hrel
    clear hown0 hg0 hb0
    by_cases hlt : k < n
    · have g0 : wr.cell? ⟨b, off + k, none⟩ = some (.int .u32 (X k)) := (hbl.cell (by exact hbB)).trans (hc k hlt)
      obtain ⟨v0, v1⟩ := hX k hlt
      have Hw : Hid (wr.ownsRow w.heap.size 9 1 (.slice (some ⟨w.heap.size, 0, none⟩) k n) k (rowOf (lineV X) k)) := hown
      clear hc hX hown
      go_wp2_with (first
        | (go_at_call 40; refine (line_any A (X k) v0 v1 _ (HS.out.below hbl)).mono ?_; rintro e w2 ⟨rfl, hb2⟩)
        | (at_builtin; refine wpList_append_fits _ rfl _ _ 41 rfl w.heap.size 9 i0 1 Tryz.underlying41 hi hz1 w.heap.size k n (rowOf (lineV X) k) rfl ?c1 ⟨w2.heap.size, 0, none⟩ 1 1 [.string ⟨(W.lineL (X k)).toArray⟩] rfl rfl ?c2 ?c3 ?c4 ?_))
      case c1 => exact (Hw.out.kept (gbelow5 (r := none) hb2) (Or.inr (by simp [Value.ownBlock]))).alloc _
      case c2 => exact one_new w2 _ _
      case c3 => intro u hu; simp at hu; subst hu; rfl
      case c4 => omega
      intro w3 hown3 hg3
      have hb3 : Below w.heap.size w w3 := Below.grown ((hbl.trans (hb2.mono hbl.size)).alloc (by have := hb2.size; have := hbl.size; omega) _) hg3 (by have := hb2.size; have := hbl.size; simp; omega) (fun q hq => by cases hq; omega)
      have X3 : Hid (w3.ownsRow w.heap.size 9 1 (.slice (some ⟨w.heap.size, 0, none⟩) (k + 1) n) (k + 1) (rowOf (lineV X) (k + 1)) ∧ Below w.heap.size w w3) := by
        refine ⟨?_, hb3⟩
        rw [rowOf_succ]
        exact hown3
      clear hown3 hg3 hb3 hb2 Hw
      go_wp2
      go_roundw
      case rel => exact ⟨k + 1, by omega, by go_num, rfl, X3.out.1, X3.out.2⟩
      case measure => simp [intOf]; omega
    · obtain rfl : k = n := by omega
      go_wp2
      go_ret
      refine ⟨rfl, hbl, fun j hj => ?_, (hown.lt w.heap.size rfl).2⟩
      rw [hown.cellAt j (by omega)]
      exact rowOf_get _ _ _ hj
end Go.Proofs.YtnejdkadmdelaaaGreatDoor

/- Program: the words that lines say, or the first line that says none. -/
namespace Go.Proofs.YtnejdkadmdelaaaGreatDoor
open Go.ChangeShapes Go.WideShapes Go.ChangeAt Go.RowKit
set_option linter.unusedVariables false
set_option linter.unusedSimpArgs false

def wordV (I : Nat → W.I) (j : Nat) : Value := .int .u32 (W.encV (I j))
/-- What Parse says of the text T: the instruction i, or the error of that number. -/
def Parses (A : Nat → Addr) (T : List UInt8) (i : W.I) (e : Nat) : Prop := ∀ w : World, Sg A w → Calls Tryz.prog 12 #[.string ⟨T.toArray⟩] w fun x w' => x = .returned (.tuple #[inV i, errV A e]) ∧ Below w.heap.size w w'

set_option maxHeartbeats 3200000 in
theorem prog_ok (A : Nat → Addr) (b off n cap : Nat) (T : Nat → List UInt8) (I : Nat → W.I) (w : World) (hS : Sg A w) (hn : n ≤ 1000) (hbB : b < w.heap.size)
    (hP : ∀ j, j < n → Parses A (T j) (I j) 0) (hE : ∀ j, j < n → W.encE (I j) = 0)
    (hc : ∀ j, j < n → w.cell? ⟨b, off + j, none⟩ = some (.string ⟨(T j).toArray⟩)) :
    Calls Tryz.prog 17 #[.slice (some ⟨b, off, none⟩) n cap] w fun e w' => e = .returned (.tuple #[.slice (some ⟨w.heap.size, 0, none⟩) n n, .nilIface]) ∧ Below w.heap.size w w' ∧ (∀ j, j < n → w'.cell? ⟨w.heap.size, j, none⟩ = some (wordV I j)) ∧ w.heap.size < w'.heap.size := by
  obtain ⟨i0, hi, hz0, hz1, hz2⟩ := info_parts infoU32
  have HS : Hid (Sg A w) := hS
  have HP : Hid (∀ j, j < n → Parses A (T j) (I j) 0) := hP
  have HE : Hid (∀ j, j < n → W.encE (I j) = 0) := hE
  clear hS hP hE
  go_enter Tryz.func17, Tryz.ntmps17
  go_wp2_with (at_make; refine wpList_make_own _ rfl _ _ 40 rfl w.heap.size 22 i0 (.int .u32 0) 1 Tryz.underlying40 hi hz0 hz1 .i64 .i64 _ n rfl rfl rfl (by rw [hz2]; omega) (by unfold maxLen; omega) (Nat.le_refl _) ?_; intro w0 hown0 hg0)
  have hb0 : Below w.heap.size w w0 := (Below.refl _ _).grown hg0 (Nat.le_refl _) (fun k hk => by cases hk)
  go_loopw [4, 16] (fun v i wr => ∃ k : Nat, k ≤ n ∧ i = .int .i64 k ∧ v = .slice (some ⟨w.heap.size, 0, none⟩) k n ∧ wr.ownsRow w.heap.size 22 1 (.slice (some ⟨w.heap.size, 0, none⟩) k n) k (rowOf (wordV I) k) ∧ Below w.heap.size w wr) (fun _ i _ => n - (intOf i).toNat)
  case atStart => exact ⟨0, by omega, rfl, rfl, hown0, hb0⟩
  case round =>
    obtain ⟨k, hk, rfl, rfl, hown, hbl⟩ := hrel
    clear hown0 hg0 hb0
    by_cases hlt : k < n
    · have g0 : wr.cell? ⟨b, off + k, none⟩ = some (.string ⟨(T k).toArray⟩) := (hbl.cell (by exact hbB)).trans (hc k hlt)
      have HPk : Hid (Parses A (T k) (I k) 0) := HP.out k hlt
      have HEk : Hid (W.encE (I k) = 0) := HE.out k hlt
      have Hw : Hid (wr.ownsRow w.heap.size 22 1 (.slice (some ⟨w.heap.size, 0, none⟩) k n) k (rowOf (wordV I) k)) := hown
      have HR : rowOf (wordV I) (k + 1) = rowOf (wordV I) k ++ [wordV I k] := rowOf_succ _ _
      have Hr : Hid (rowOf (wordV I) (k + 1) = rowOf (wordV I) k ++ [.int .u32 (W.encV (I k))]) := HR
      clear hc hown HR
      generalize T k = Tk at *
      generalize I k = i at *
      go_wp2_with (first
        | (go_at_call 12; refine (HPk.out _ (HS.out.below hbl)).mono ?_; rintro e w2 ⟨rfl, hb2⟩; have hbl2 : Below w.heap.size w w2 := hbl.trans (hb2.mono hbl.size); unfold inV errV))
      have hA2 := InAt.start w2 i 24
      generalize hW : World.alloc w2 _ = w3
      have hA3 : InAt w2.heap.size i w3 := by rw [← hW]; exact hA2
      have hb3 : Below w2.heap.size w2 w3 := by rw [← hW]; exact (Below.refl _ _).alloc (Nat.le_refl _) _
      have hbl3 : Below w.heap.size w w3 := hbl2.trans (hb3.mono hbl2.size)
      clear hA2 hW
      obtain ⟨a0, a1, a2, a3, a4, a5, a6, a7⟩ := hA3
      go_wp2_with (first
        | (go_at_call 25; refine (encode_any A i _ (HS.out.below hbl3).sent).mono ?_; rintro e w4 ⟨rfl, hb4⟩; have hbl4 : Below w.heap.size w w4 := hbl3.trans (hb4.mono hbl3.size); rw [HEk.out])
        | (at_builtin; refine wpList_append_fits _ rfl _ _ 40 rfl w.heap.size 22 i0 1 Tryz.underlying40 hi hz1 w.heap.size k n (rowOf (wordV I) k) rfl ?c1 ⟨w4.heap.size, 0, none⟩ 1 1 [.int .u32 (W.encV i)] rfl rfl ?c2 ?c3 ?c4 ?_))
      case c1 => exact (((Hw.out.kept (gbelow5 (r := none) hb2) (Or.inr (by simp [Value.ownBlock]))).kept (gbelow5 (r := none) hb3) (Or.inr (by simp [Value.ownBlock]))).kept (gbelow5 (r := none) hb4) (Or.inr (by simp [Value.ownBlock]))).alloc _
      case c2 => exact one_new w4 _ _
      case c3 => intro u hu; simp at hu; subst hu; rfl
      case c4 => omega
      intro w5 hown5 hg5
      have hb5 : Below w.heap.size w w5 := Below.grown (hbl4.alloc hbl4.size _) hg5 (by have := hbl4.size; simp; omega) (fun q hq => by cases hq; omega)
      have X5 : Hid (w5.ownsRow w.heap.size 22 1 (.slice (some ⟨w.heap.size, 0, none⟩) (k + 1) n) (k + 1) (rowOf (wordV I) (k + 1)) ∧ Below w.heap.size w w5) := by
        refine ⟨?_, hb5⟩
        rw [Hr.out]
        exact hown5
      clear hown5 hg5 hb5 hb2 hb3 hb4 Hw Hr hbl2 hbl3 hbl4
      go_wp2
      go_roundw
      case rel => exact ⟨k + 1, by omega, by go_num, rfl, X5.out.1, X5.out.2⟩
      case measure => simp [intOf]; omega
    · obtain rfl : k = n := by omega
      go_wp2
      exact bodyPost_ret (v := .tuple #[.slice (some ⟨w.heap.size, 0, none⟩) k k, .nilIface]) (by simp [results, Tryz.results17, go_sem]) rfl ⟨rfl, hbl, fun j hj => by rw [hown.cellAt j (by omega)]; exact rowOf_get _ _ _ hj, (hown.lt w.heap.size rfl).2⟩
end Go.Proofs.YtnejdkadmdelaaaGreatDoor

/- Program: the words that lines say, or the first line that says none. -/
namespace Go.Proofs.YtnejdkadmdelaaaGreatDoor
open Go.ChangeShapes Go.WideShapes Go.ChangeAt Go.RowKit
set_option linter.unusedVariables false
set_option linter.unusedSimpArgs false

set_option maxHeartbeats 3200000 in
theorem prog_bad (A : Nat → Addr) (b off n cap m : Nat) (T : Nat → List UInt8) (I : Nat → W.I) (w : World) (hS : Sg A w) (hn : n ≤ 1000) (hbB : b < w.heap.size)
    (hm : m < n) (hP : ∀ j, j < m → Parses A (T j) (I j) 0) (hE : ∀ j, j < m → W.encE (I j) = 0) (hB : Parses A (T m) (I m) 6)
    (hc : ∀ j, j < n → w.cell? ⟨b, off + j, none⟩ = some (.string ⟨(T j).toArray⟩)) :
    Calls Tryz.prog 17 #[.slice (some ⟨b, off, none⟩) n cap] w fun e w' => ∃ q, e = .returned (.tuple #[.slice none 0 0, .iface 77 (.pointer (some ⟨q, 0, none⟩))]) ∧ Below w.heap.size w w' ∧ w.heap.size ≤ q ∧ w'.heap[q]? = some (.cells #[.int .i64 m, errV A 6] 79) := by
  obtain ⟨i0, hi, hz0, hz1, hz2⟩ := info_parts infoU32
  have HS : Hid (Sg A w) := hS
  have HP : Hid (∀ j, j < m → Parses A (T j) (I j) 0) := hP
  have HE : Hid (∀ j, j < m → W.encE (I j) = 0) := hE
  have HB : Hid (Parses A (T m) (I m) 6) := hB
  clear hS hP hE hB
  go_enter Tryz.func17, Tryz.ntmps17
  go_wp2_with (at_make; refine wpList_make_own _ rfl _ _ 40 rfl w.heap.size 22 i0 (.int .u32 0) 1 Tryz.underlying40 hi hz0 hz1 .i64 .i64 _ n rfl rfl rfl (by rw [hz2]; omega) (by unfold maxLen; omega) (Nat.le_refl _) ?_; intro w0 hown0 hg0)
  have hb0 : Below w.heap.size w w0 := (Below.refl _ _).grown hg0 (Nat.le_refl _) (fun k hk => by cases hk)
  go_loopw [4, 16] (fun v i wr => ∃ k : Nat, k ≤ m ∧ i = .int .i64 k ∧ v = .slice (some ⟨w.heap.size, 0, none⟩) k n ∧ wr.ownsRow w.heap.size 22 1 (.slice (some ⟨w.heap.size, 0, none⟩) k n) k (rowOf (wordV I) k) ∧ Below w.heap.size w wr) (fun _ i _ => m - (intOf i).toNat)
  case atStart => exact ⟨0, by omega, rfl, rfl, hown0, hb0⟩
  case round =>
    obtain ⟨k, hk, rfl, rfl, hown, hbl⟩ := hrel
    clear hown0 hg0 hb0
    have hkn : k < n := by omega
    by_cases hlt : k < m
    · have g0 : wr.cell? ⟨b, off + k, none⟩ = some (.string ⟨(T k).toArray⟩) := (hbl.cell (by exact hbB)).trans (hc k hkn)
      have HPk : Hid (Parses A (T k) (I k) 0) := HP.out k hlt
      have HEk : Hid (W.encE (I k) = 0) := HE.out k hlt
      have Hw : Hid (wr.ownsRow w.heap.size 22 1 (.slice (some ⟨w.heap.size, 0, none⟩) k n) k (rowOf (wordV I) k)) := hown
      have HR : rowOf (wordV I) (k + 1) = rowOf (wordV I) k ++ [wordV I k] := rowOf_succ _ _
      have Hr : Hid (rowOf (wordV I) (k + 1) = rowOf (wordV I) k ++ [.int .u32 (W.encV (I k))]) := HR
      clear hc hown HR
      generalize T k = Tk at *
      generalize I k = i at *
      go_wp2_with (first
        | (go_at_call 12; refine (HPk.out _ (HS.out.below hbl)).mono ?_; rintro e w2 ⟨rfl, hb2⟩; have hbl2 : Below w.heap.size w w2 := hbl.trans (hb2.mono hbl.size); unfold inV errV))
      have hA2 := InAt.start w2 i 24
      generalize hW : World.alloc w2 _ = w3
      have hA3 : InAt w2.heap.size i w3 := by rw [← hW]; exact hA2
      have hb3 : Below w2.heap.size w2 w3 := by rw [← hW]; exact (Below.refl _ _).alloc (Nat.le_refl _) _
      have hbl3 : Below w.heap.size w w3 := hbl2.trans (hb3.mono hbl2.size)
      clear hA2 hW
      obtain ⟨a0, a1, a2, a3, a4, a5, a6, a7⟩ := hA3
      go_wp2_with (first
        | (go_at_call 25; refine (encode_any A i _ (HS.out.below hbl3).sent).mono ?_; rintro e w4 ⟨rfl, hb4⟩; have hbl4 : Below w.heap.size w w4 := hbl3.trans (hb4.mono hbl3.size); rw [HEk.out])
        | (at_builtin; refine wpList_append_fits _ rfl _ _ 40 rfl w.heap.size 22 i0 1 Tryz.underlying40 hi hz1 w.heap.size k n (rowOf (wordV I) k) rfl ?c1 ⟨w4.heap.size, 0, none⟩ 1 1 [.int .u32 (W.encV i)] rfl rfl ?c2 ?c3 ?c4 ?_))
      case c1 => exact (((Hw.out.kept (gbelow5 (r := none) hb2) (Or.inr (by simp [Value.ownBlock]))).kept (gbelow5 (r := none) hb3) (Or.inr (by simp [Value.ownBlock]))).kept (gbelow5 (r := none) hb4) (Or.inr (by simp [Value.ownBlock]))).alloc _
      case c2 => exact one_new w4 _ _
      case c3 => intro u hu; simp at hu; subst hu; rfl
      case c4 => omega
      intro w5 hown5 hg5
      have hb5 : Below w.heap.size w w5 := Below.grown (hbl4.alloc hbl4.size _) hg5 (by have := hbl4.size; simp; omega) (fun q hq => by cases hq; omega)
      have X5 : Hid (w5.ownsRow w.heap.size 22 1 (.slice (some ⟨w.heap.size, 0, none⟩) (k + 1) n) (k + 1) (rowOf (wordV I) (k + 1)) ∧ Below w.heap.size w w5) := by
        refine ⟨?_, hb5⟩
        rw [Hr.out]
        exact hown5
      clear hown5 hg5 hb5 hb2 hb3 hb4 Hw Hr hbl2 hbl3 hbl4
      go_wp2
      go_roundw
      case rel => exact ⟨k + 1, by omega, by go_num, rfl, X5.out.1, X5.out.2⟩
      case measure => simp [intOf]; omega
    · obtain rfl : k = m := by omega
      have g0 : wr.cell? ⟨b, off + k, none⟩ = some (.string ⟨(T k).toArray⟩) := (hbl.cell (by exact hbB)).trans (hc k hkn)
      clear hc hown
      generalize T k = Tk at *
      generalize I k = i at *
      go_wp2_with (first
        | (go_at_call 12; refine (HB.out _ (HS.out.below hbl)).mono ?_; rintro e w2 ⟨rfl, hb2⟩; have hbl2 : Below w.heap.size w w2 := hbl.trans (hb2.mono hbl.size); unfold inV errV))
      refine bodyPost_ret (v := .tuple #[.slice none 0 0, .iface 77 (.pointer (some ⟨w2.heap.size + 1, 0, none⟩))]) (by simp [results, Tryz.results17, go_sem]) rfl ⟨w2.heap.size + 1, rfl, (hbl2.alloc hbl2.size _).alloc (by have := hbl2.size; simp; omega) _, by have := hbl2.size; omega, ?_⟩
      show ((w2.heap.push _).push _)[w2.heap.size + 1]? = _
      rw [Array.getElem?_push, if_pos (by simp)]
      rfl
end Go.Proofs.YtnejdkadmdelaaaGreatDoor

/- Lists of texts, of words, of numbers held against each other; nothing where an empty one may be nil. -/
namespace Go.Proofs.YtnejdkadmdelaaaGreatDoor
open Go.ChangeShapes Go.WideShapes Go.ChangeAt Go.RowKit
set_option linter.unusedVariables false
set_option linter.unusedSimpArgs false

theorem sameTexts_any (a ao b bo n ca cb : Nat) (T : Nat → List UInt8) (w : World) (hn : n ≤ 4611686018427387904)
    (ha : ∀ j, j < n → w.cell? ⟨a, ao + j, none⟩ = some (.string ⟨(T j).toArray⟩)) (hb : ∀ j, j < n → w.cell? ⟨b, bo + j, none⟩ = some (.string ⟨(T j).toArray⟩)) :
    Calls Tryz.prog 24 #[.slice (some ⟨a, ao, none⟩) n ca, .slice (some ⟨b, bo, none⟩) n cb] w fun x w' => x = .returned (.bool true) ∧ Below w.heap.size w w' := by
  go_enter Tryz.func24, Tryz.ntmps24
  go_wp2
  go_loopw [5] (fun i wr => ∃ k : Nat, k ≤ n ∧ i = .int .i64 k ∧ ∃ q, wr = w.drewN q) (fun i _ => n - (intOf i).toNat)
  case atStart => exact ⟨0, by omega, rfl, 0, rfl⟩
  case round =>
    obtain ⟨k, hk, rfl, q, rfl⟩ := hrel
    by_cases hlt : k < n
    · have h1 := ha k hlt
      have h2 := hb k hlt
      clear ha hb
      go_wp2
      go_quiet (fail)
      go_wp2
      go_roundw
      case rel => exact ⟨k + 1, by omega, by go_num, _, rfl⟩
      case measure => simp [intOf]; omega
    · go_wp2
      go_ret
      exact ⟨rfl, below_drewN _ q⟩

theorem sameWords_any (a ao b bo n ca cb : Nat) (T : Nat → Int) (w : World) (hn : n ≤ 4611686018427387904)
    (ha : ∀ j, j < n → w.cell? ⟨a, ao + j, none⟩ = some (.int .u32 (T j))) (hb : ∀ j, j < n → w.cell? ⟨b, bo + j, none⟩ = some (.int .u32 (T j))) :
    Calls Tryz.prog 22 #[.slice (some ⟨a, ao, none⟩) n ca, .slice (some ⟨b, bo, none⟩) n cb] w fun x w' => x = .returned (.bool true) ∧ Below w.heap.size w w' := by
  go_enter Tryz.func22, Tryz.ntmps22
  go_wp2
  go_loopw [5] (fun i wr => ∃ k : Nat, k ≤ n ∧ i = .int .i64 k ∧ ∃ q, wr = w.drewN q) (fun i _ => n - (intOf i).toNat)
  case atStart => exact ⟨0, by omega, rfl, 0, rfl⟩
  case round =>
    obtain ⟨k, hk, rfl, q, rfl⟩ := hrel
    by_cases hlt : k < n
    · have h1 := ha k hlt
      have h2 := hb k hlt
      clear ha hb
      go_wp2
      go_quiet (fail)
      go_wp2
      go_roundw
      case rel => exact ⟨k + 1, by omega, by go_num, _, rfl⟩
      case measure => simp [intOf]; omega
    · go_wp2
      go_ret
      exact ⟨rfl, below_drewN _ q⟩

theorem sameInts_any (a ao b bo n ca cb : Nat) (T : Nat → Int) (w : World) (hn : n ≤ 4611686018427387904)
    (ha : ∀ j, j < n → w.cell? ⟨a, ao + j, none⟩ = some (.int .i64 (T j))) (hb : ∀ j, j < n → w.cell? ⟨b, bo + j, none⟩ = some (.int .i64 (T j))) :
    Calls Tryz.prog 77 #[.slice (some ⟨a, ao, none⟩) n ca, .slice (some ⟨b, bo, none⟩) n cb] w fun x w' => x = .returned (.bool true) ∧ Below w.heap.size w w' := by
  go_enter Tryz.func77, Tryz.ntmps77
  go_wp2
  go_loopw [5] (fun i wr => ∃ k : Nat, k ≤ n ∧ i = .int .i64 k ∧ ∃ q, wr = w.drewN q) (fun i _ => n - (intOf i).toNat)
  case atStart => exact ⟨0, by omega, rfl, 0, rfl⟩
  case round =>
    obtain ⟨k, hk, rfl, q, rfl⟩ := hrel
    by_cases hlt : k < n
    · have h1 := ha k hlt
      have h2 := hb k hlt
      clear ha hb
      go_wp2
      go_quiet (fail)
      go_wp2
      go_roundw
      case rel => exact ⟨k + 1, by omega, by go_num, _, rfl⟩
      case measure => simp [intOf]; omega
    · go_wp2
      go_ret
      exact ⟨rfl, below_drewN _ q⟩

theorem sameWords_zero (a b : Option Addr) (ca cb : Nat) (w : World) : Calls Tryz.prog 22 #[.slice a 0 ca, .slice b 0 cb] w fun x w' => x = .returned (.bool true) ∧ Below w.heap.size w w' := by
  go_enter Tryz.func22, Tryz.ntmps22
  go_wp2
  go_loopw [5] (fun i wr => i = .int .i64 0 ∧ wr = w) (fun _ _ => 0)
  case atStart => exact ⟨rfl, rfl⟩
  case round =>
    obtain ⟨rfl, rfl⟩ := hrel
    go_wp2
    go_ret
    exact ⟨rfl, Below.refl _ _⟩
end Go.Proofs.YtnejdkadmdelaaaGreatDoor

/- The look at an error with its place. -/
namespace Go.Proofs.YtnejdkadmdelaaaGreatDoor
open Go.ChangeShapes Go.WideShapes Go.ChangeAt Go.RowKit
set_option linter.unusedVariables false
set_option linter.unusedSimpArgs false

theorem placed_any (m : Int) (w : World) : Calls Tryz.prog 20 #[.int .i64 105, .int .i64 m] w fun e w' => e = .returned (.agg #[.int .i64 105, .slice (some ⟨w.heap.size + 1, 0, none⟩) 1 1]) ∧ Below w.heap.size w w' ∧ w'.cell? ⟨w.heap.size + 1, 0, none⟩ = some (.int .i64 m) ∧ w.heap.size + 1 < w'.heap.size := by
  go_enter Tryz.func20, Tryz.ntmps20
  go_wp2
  exact bodyPost_ret (v := .agg #[.int .i64 105, .slice (some ⟨w.heap.size + 1, 0, none⟩) 1 1]) (by simp [results, Tryz.results20, go_sem]) rfl ⟨rfl, ((Below.refl _ _).alloc (Nat.le_refl _) _).alloc (by simp) _, by simp [go_sem], by simp⟩

set_option maxRecDepth 100000 in
set_option maxHeartbeats 1600000 in
theorem fault_8 (A : Nat → Addr) (p : Nat) (hp : p < 11) (w : World) (hS : Sent A w) :
    Calls Tryz.prog 76 #[.iface 194 (.pointer (some (A (perm p)))), .int .i64 8] w fun e w' => e = .returned (.agg #[.int .i64 (101 + p), .slice none 0 0]) ∧ Below w.heap.size w w' := by
  have HS : Hid (Sent A w) := hS
  have Hp : Hid (p < 11) := hp
  clear hS hp
  have hT : ∀ v w, (Instr.typeAssert (.iface 194 v) 27 77 true).run Tryz.prog w = .ok (.tuple #[.pointer none, .bool false]) w := fun _ _ => by kernel_rfl
  go_enter Tryz.func76, Tryz.ntmps76
  go_wp2_with (first
    | (go_at_call 105; refine (sentinel_any A p Hp.out _ (HS.out.below ((Below.refl _ _).alloc (Nat.le_refl _) _))).mono ?_; rintro e w1 ⟨rfl, hb1⟩; have hR : Room w.heap.size 2 w1 := ⟨_, _, (hb1.block _ (by simp)).trans (heap_alloc_last w _), rfl⟩; have hb : Below w.heap.size w w1 := ((Below.refl _ _).alloc (Nat.le_refl _) _).trans (hb1.mono (by simp)); have hlt : w.heap.size < w1.heap.size := (by have := hb1.size; simp at this; omega); clear hb1)
    | (go_at_call 39; refine (bare_any _ _).mono ?_; rintro e w2 ⟨rfl, hb2⟩; obtain ⟨v0, v1, r0, r1, r2⟩ := (hR.below hb2 hlt).two; have hb := hb.trans (hb2.mono hb.size); clear hb2))
  refine bodyPost_ret (v := .agg #[.int .i64 (101 + p), .slice none 0 0]) ?_ rfl ⟨rfl, ?_⟩
  · simp [results, Tryz.results76, go_sem, r0, r1]
  · exact (hb.setCell (Nat.le_refl _) _).setCell (Nat.le_refl _) _


set_option maxRecDepth 100000 in
set_option maxHeartbeats 1600000 in
theorem fault_at (A : Nat → Addr) (q : Nat) (m : Int) (w : World) (hS : Sent A w) (hq : w.heap[q]? = some (.cells #[.int .i64 m, errV A 6] 79)) : Calls Tryz.prog 76 #[.iface 77 (.pointer (some ⟨q, 0, none⟩)), .int .i64 9] w fun e w' => ∃ g, e = .returned (.agg #[.int .i64 105, .slice (some ⟨g, 0, none⟩) 1 1]) ∧ Below w.heap.size w w' ∧ w.heap.size ≤ g ∧ w'.cell? ⟨g, 0, none⟩ = some (.int .i64 m) := by
  have q0 : w.cell? ⟨q, 0, none⟩ = some (.int .i64 m) := by simp [World.cell?, hq]
  have q1 : w.cell? ⟨q, 1, none⟩ = some (.iface 194 (.pointer (some (A (perm 4))))) := by simp [World.cell?, hq]; rfl
  have hlt : q < w.heap.size := (Array.getElem?_eq_some_iff.1 hq).1
  have HS : Hid (Sent A w) := hS
  have hT : ∀ v w, (Instr.typeAssert (.iface 77 v) 27 77 true).run Tryz.prog w = .ok (.tuple #[v, .bool true]) w := fun _ _ => by kernel_rfl
  clear hq hS
  go_enter Tryz.func76, Tryz.ntmps76
  go_wp2_with (first
    | (go_at_call 76; refine (fault_8 A 4 (by decide) _ (HS.out.below ((Below.refl _ _).alloc (Nat.le_refl _) _))).mono ?_; rintro e w1 ⟨rfl, hb1⟩; have hR : Room w.heap.size 2 w1 := ⟨_, _, (hb1.block _ (by simp)).trans (heap_alloc_last w _), rfl⟩; have hb : Below w.heap.size w w1 := ((Below.refl _ _).alloc (Nat.le_refl _) _).trans (hb1.mono (by simp)); have hl1 : w.heap.size < w1.heap.size := (by have := hb1.size; simp at this; omega); clear hb1))
  have f0 : (w1.alloc (.cells #[.int .i64 105, .slice none 0 0] 49)).cell? ⟨w1.heap.size, 0, none⟩ = some (.int .i64 105) := by simp [go_sem]
  have f1 : (w1.alloc (.cells #[.int .i64 105, .slice none 0 0] 49)).cell? ⟨w1.heap.size, 1, none⟩ = some (.slice none 0 0) := by simp [go_sem]
  have hb2 : Below w1.heap.size w1 (w1.alloc (.cells #[.int .i64 105, .slice none 0 0] 49)) := (Below.refl _ _).alloc (Nat.le_refl _) _
  have hl2 : w1.heap.size < (w1.alloc (.cells #[.int .i64 105, .slice none 0 0] 49)).heap.size := by simp
  generalize World.alloc w1 _ = w2 at *
  have hR2 := hR.below hb2 hl1
  have hbw : Below w.heap.size w w2 := hb.trans (hb2.mono hb.size)
  have p0 : w2.cell? ⟨q, 0, none⟩ = some (.int .i64 m) := (hbw.cell (p := ⟨q, 0, none⟩) hlt).trans q0
  obtain ⟨v0, v1, r0, r1, r2⟩ := hR2.two
  have hl3 : w.heap.size < w2.heap.size := Nat.lt_trans hl1 hl2
  clear hR hR2 q0 q1 hb2
  generalize w1.heap.size = b1 at *
  go_region
  all_goals
    go_wp2
    refine bodyPost_ret (v := .agg #[.int .i64 105, .slice (some ⟨w2.heap.size, 0, none⟩) 1 1]) (by simp [results, Tryz.results76, go_sem, r0, r1, hl3]) rfl ⟨w2.heap.size, rfl, ?_, by omega, by simp [go_sem, hl3]⟩
    repeat (first | exact hbw | (refine Below.drew ?_) | (refine Below.setCell ?_ (by simp) _) | (refine Below.alloc ?_ (by simp; omega) _))

set_option maxRecDepth 100000 in
theorem faultOf_at (A : Nat → Addr) (q : Nat) (m : Int) (w : World) (hS : Sent A w) (hq : w.heap[q]? = some (.cells #[.int .i64 m, errV A 6] 79)) : Calls Tryz.prog 43 #[.iface 77 (.pointer (some ⟨q, 0, none⟩))] w fun e w' => ∃ g, e = .returned (.agg #[.int .i64 105, .slice (some ⟨g, 0, none⟩) 1 1]) ∧ Below w.heap.size w w' ∧ w.heap.size ≤ g ∧ w'.cell? ⟨g, 0, none⟩ = some (.int .i64 m) := by
  have HS : Hid (Sent A w) := hS
  have hlt : q < w.heap.size := (Array.getElem?_eq_some_iff.1 hq).1
  have HQ : Hid (∀ o, (w.alloc o).heap[q]? = some (.cells #[.int .i64 m, errV A 6] 79)) := fun o => (Below.heap_alloc w o q hlt).trans hq
  clear hS hq
  go_enter Tryz.func43, Tryz.ntmps43
  go_wp2_with (first
    | (go_at_call 76; refine (fault_at A q m _ (HS.out.below ((Below.refl _ _).alloc (Nat.le_refl _) _)) (HQ.out _)).mono ?_; rintro e w1 ⟨g, rfl, hb1, hg, hgc⟩; have hR : Room w.heap.size 2 w1 := ⟨_, _, (hb1.block _ (by simp)).trans (heap_alloc_last w _), rfl⟩; have hb : Below w.heap.size w w1 := ((Below.refl _ _).alloc (Nat.le_refl _) _).trans (hb1.mono (by simp)); clear hb1; obtain ⟨v0, v1, r0, r1, r2⟩ := hR.two))
  have hg' : w.heap.size + 1 ≤ g := by simpa using hg
  have hne : ¬ g = w.heap.size := by omega
  refine bodyPost_ret (v := .agg #[.int .i64 105, .slice (some ⟨g, 0, none⟩) 1 1]) ?_ rfl ⟨g, rfl, ?_, by omega, ?_⟩
  · simp [results, Tryz.results43, go_sem, r0, r1]
  · exact (hb.setCell (Nat.le_refl _) _).setCell (Nat.le_refl _) _
  · rw [World.cell?_setCell_other _ _ _ _ (by intro e; exact hne (congrArg Addr.block e).symm), World.cell?_setCell_other _ _ _ _ (by intro e; exact hne (congrArg Addr.block e).symm)]
    exact hgc

set_option maxHeartbeats 800000 in
theorem sameFault_at (m : Int) (g h : Nat) (w : World) (hg : w.cell? ⟨g, 0, none⟩ = some (.int .i64 m)) (hh : w.cell? ⟨h, 0, none⟩ = some (.int .i64 m)) :
    Calls Tryz.prog 44 #[.agg #[.int .i64 105, .slice (some ⟨g, 0, none⟩) 1 1], .agg #[.int .i64 105, .slice (some ⟨h, 0, none⟩) 1 1]] w fun e w' => e = .returned (.bool true) ∧ Below w.heap.size w w' := by
  have hb : Below w.heap.size w w := Below.refl _ _
  have HG : Hid (w.cell? ⟨g, 0, none⟩ = some (.int .i64 m)) := hg
  have HH : Hid (w.cell? ⟨h, 0, none⟩ = some (.int .i64 m)) := hh
  have lg := World.block_lt_of_cell? _ _ hg
  have lh := World.block_lt_of_cell? _ _ hh
  clear hg hh
  go_enter Tryz.func44, Tryz.ntmps44
  go_wp2_with fail
  have hb2 : Below w.heap.size w ((w.alloc (.cells #[.int .i64 105, .slice (some ⟨g, 0, none⟩) 1 1] 49)).alloc (.cells #[.int .i64 105, .slice (some ⟨h, 0, none⟩) 1 1] 49)) := (hb.alloc hb.size _).alloc (by simp) _
  refine (sameInts_any g 0 h 0 1 1 1 (fun _ => m) _ (by decide) ?_ ?_).mono ?_
  · intro j hj
    obtain rfl : j = 0 := by omega
    exact (hb2.cell (p := ⟨g, 0 + 0, none⟩) lg).trans HG.out
  · intro j hj
    obtain rfl : j = 0 := by omega
    exact (hb2.cell (p := ⟨h, 0 + 0, none⟩) lh).trans HH.out
  rintro e w3 ⟨rfl, hb3⟩
  have c0 := hb3.cell (p := ⟨w.heap.size, 0, none⟩) (by simp; omega)
  have c1 := hb3.cell (p := ⟨w.heap.size + 1, 0, none⟩) (by simp)
  simp [go_sem] at c0 c1
  go_wp2
  go_ret
  exact ⟨rfl, hb2.trans (hb3.mono (by simp; omega))⟩

theorem same_at (A : Nat → Addr) (q h : Nat) (m : Int) (w : World) (hS : Sent A w) (hq : w.heap[q]? = some (.cells #[.int .i64 m, errV A 6] 79)) (hh : w.cell? ⟨h, 0, none⟩ = some (.int .i64 m)) :
    Calls Tryz.prog 19 #[.iface 77 (.pointer (some ⟨q, 0, none⟩)), .agg #[.int .i64 105, .slice (some ⟨h, 0, none⟩) 1 1]] w fun e w' => e = .returned (.bool true) ∧ Below w.heap.size w w' := by
  have HS : Hid (Sent A w) := hS
  have hlt : q < w.heap.size := (Array.getElem?_eq_some_iff.1 hq).1
  have lh := World.block_lt_of_cell? _ _ hh
  have HQ : Hid (∀ o, (w.alloc o).heap[q]? = some (.cells #[.int .i64 m, errV A 6] 79)) := fun o => (Below.heap_alloc w o q hlt).trans hq
  have HH : Hid (w.cell? ⟨h, 0, none⟩ = some (.int .i64 m)) := hh
  clear hS hq hh
  go_enter Tryz.func19, Tryz.ntmps19
  go_wp2_with (first
    | (go_at_call 43; refine (faultOf_at A q m _ (HS.out.below ((Below.refl _ _).alloc (Nat.le_refl _) _)) (HQ.out _)).mono ?_; rintro e w1 ⟨g, rfl, hb1, hg, hgc⟩; have hl1 : w.heap.size < w1.heap.size := (by have := hb1.size; simp at this; omega); have x0 := hb1.cell (p := ⟨w.heap.size, 0, none⟩) (by simp); have x1 := hb1.cell (p := ⟨w.heap.size, 1, none⟩) (by simp); simp [go_sem] at x0 x1; have hb : Below w.heap.size w w1 := ((Below.refl _ _).alloc (Nat.le_refl _) _).trans (hb1.mono (by simp)); have HGC : Hid (w1.cell? ⟨g, 0, none⟩ = some (.int .i64 m)) := hgc; clear hb1 hg hgc))
  have lg := World.block_lt_of_cell? _ _ HGC.out
  have hbn : Below w1.heap.size w1 (w1.alloc (.cells #[.int .i64 105, .slice (some ⟨g, 0, none⟩) 1 1] 49)) := (Below.refl _ _).alloc (Nat.le_refl _) _
  refine (sameFault_at m g h _ ((hbn.cell (p := ⟨g, 0, none⟩) lg).trans HGC.out) ((hbn.cell (p := ⟨h, 0, none⟩) (Nat.lt_trans lh hl1)).trans ((hb.cell (p := ⟨h, 0, none⟩) lh).trans HH.out))).mono ?_
  rintro e w2 ⟨rfl, hb2⟩
  go_wp2
  go_ret
  exact ⟨rfl, hb.trans ((hbn.trans (hb2.mono (by simp))).mono hb.size)⟩
end Go.Proofs.YtnejdkadmdelaaaGreatDoor

/- The chapter's examples: Program and Lines of them, and the text that is none. -/
namespace Go.Proofs.YtnejdkadmdelaaaGreatDoor
open Go.ChangeShapes Go.WideShapes Go.ChangeAt Go.RowKit
set_option linter.unusedVariables false
set_option linter.unusedSimpArgs false

theorem reg_one (n : Nat) (h : n < 10) : W.regL n = [120, UInt8.ofNat (48 + n)] := by rw [W.regL, Lib.decDigits_one h]
theorem itoa_one (n : Int) (h0 : 0 ≤ n) (h1 : n < 10) : Lib.itoa n = [UInt8.ofNat (48 + n.toNat)] := by rw [Lib.itoa, if_neg (by omega), Lib.decDigits_one (by omega)]
theorem itoa_neg (n : Int) (h0 : n < 0) (h1 : -10 < n) : Lib.itoa n = [45, UInt8.ofNat (48 + n.natAbs)] := by rw [Lib.itoa, if_pos h0, Lib.decDigits_one (by omega)]

def fI0 : W.I := ⟨19, 1, 0, 0, 0, 4294967291, false, false⟩
def fT0 : List UInt8 := [97, 100, 100, 105, 32, 120, 49, 44, 32, 120, 48, 44, 32, 45, 53]
theorem fx0 : W.textL fI0 = fT0 := by
  have hf : W.form fI0.op = [100, 44, 32, 49, 44, 32, 105] := by decide +kernel
  have hn : W.nm fI0.op = [97, 100, 100, 105] := by decide +kernel
  have e : W.restL fI0 [100, 44, 32, 49, 44, 32, 105] = W.partL fI0 100 ++ ([44] ++ ([32] ++ (W.partL fI0 49 ++ ([44] ++ ([32] ++ (W.partL fI0 105 ++ [])))))) := rfl
  have pd : W.regL fI0.rd.toNat = _ := reg_one 1 (by decide)
  have p1 : W.regL fI0.rs1.toNat = _ := reg_one 0 (by decide)
  have pw : wrap32 fI0.imm = -5 := by show wrap32 4294967291 = -5; simp only [wrap32]; omega
  have pi : Lib.itoa (-5) = _ := itoa_neg (-5) (by decide) (by decide)
  rw [W.textL, hf, hn, e, W.partL_100, pd, W.partL_49, p1, W.partL_105, pw, pi]
  rfl
def fI1 : W.I := ⟨13, 3, 2, 0, 0, 8, false, false⟩
def fT1 : List UInt8 := [108, 119, 32, 120, 51, 44, 32, 56, 40, 120, 50, 41]
theorem fx1 : W.textL fI1 = fT1 := by
  have hf : W.form fI1.op = [100, 44, 32, 105, 40, 49, 41] := by decide +kernel
  have hn : W.nm fI1.op = [108, 119] := by decide +kernel
  have e : W.restL fI1 [100, 44, 32, 105, 40, 49, 41] = W.partL fI1 100 ++ ([44] ++ ([32] ++ (W.partL fI1 105 ++ ([40] ++ (W.partL fI1 49 ++ ([41] ++ [])))))) := rfl
  have pd : W.regL fI1.rd.toNat = _ := reg_one 3 (by decide)
  have pw : wrap32 fI1.imm = 8 := by show wrap32 8 = 8; simp only [wrap32]; omega
  have pi : Lib.itoa 8 = _ := itoa_one 8 (by decide) (by decide)
  have p1 : W.regL fI1.rs1.toNat = _ := reg_one 2 (by decide)
  rw [W.textL, hf, hn, e, W.partL_100, pd, W.partL_105, pw, pi, W.partL_49, p1]
  rfl
def fI2 : W.I := ⟨62, 1, 3, 2, 0, 0, true, false⟩
def fT2 : List UInt8 := [97, 109, 111, 97, 100, 100, 46, 119, 46, 97, 113, 32, 120, 49, 44, 32, 120, 50, 44, 32, 40, 120, 51, 41]
theorem fx2 : W.textL fI2 = fT2 := by
  have hf : W.form fI2.op = [100, 44, 32, 50, 44, 32, 40, 49, 41] := by decide +kernel
  have hn : W.nm fI2.op = [97, 109, 111, 97, 100, 100, 46, 119] := by decide +kernel
  have e : W.restL fI2 [100, 44, 32, 50, 44, 32, 40, 49, 41] = W.partL fI2 100 ++ ([44] ++ ([32] ++ (W.partL fI2 50 ++ ([44] ++ ([32] ++ ([40] ++ (W.partL fI2 49 ++ ([41] ++ [])))))))) := rfl
  have pd : W.regL fI2.rd.toNat = _ := reg_one 1 (by decide)
  have p2 : W.regL fI2.rs2.toNat = _ := reg_one 2 (by decide)
  have p1 : W.regL fI2.rs1.toNat = _ := reg_one 3 (by decide)
  rw [W.textL, hf, hn, e, W.partL_100, pd, W.partL_50, p2, W.partL_49, p1]
  rfl
def fI3 : W.I := ⟨45, 0, 5, 0, 773, 0, false, false⟩
def fT3 : List UInt8 := [99, 115, 114, 114, 119, 32, 120, 48, 44, 32, 48, 120, 51, 48, 53, 44, 32, 120, 53]
theorem fx3 : W.textL fI3 = fT3 := by
  have hf : W.form fI3.op = [100, 44, 32, 99, 44, 32, 49] := by decide +kernel
  have hn : W.nm fI3.op = [99, 115, 114, 114, 119] := by decide +kernel
  have e : W.restL fI3 [100, 44, 32, 99, 44, 32, 49] = W.partL fI3 100 ++ ([44] ++ ([32] ++ (W.partL fI3 99 ++ ([44] ++ ([32] ++ (W.partL fI3 49 ++ [])))))) := rfl
  have pd : W.regL fI3.rd.toNat = _ := reg_one 0 (by decide)
  have p1 : W.regL fI3.rs1.toNat = _ := reg_one 5 (by decide)
  rw [W.textL, hf, hn, e, W.partL_100, pd, W.partL_99, W.partL_49, p1]
  rfl
def fI4 : W.I := ⟨38, 0, 0, 0, 0, 49, false, false⟩
def fT4 : List UInt8 := [102, 101, 110, 99, 101, 32, 51, 44, 32, 49]
theorem fx4 : W.textL fI4 = fT4 := by
  have hf : W.form fI4.op = [112, 44, 32, 115] := by decide +kernel
  have hn : W.nm fI4.op = [102, 101, 110, 99, 101] := by decide +kernel
  have e : W.restL fI4 [112, 44, 32, 115] = W.partL fI4 112 ++ ([44] ++ ([32] ++ (W.partL fI4 115 ++ []))) := rfl
  have ppx : W.pP fI4 = [51] := by
    have e : wrap32 (W.bitsOf fI4.imm 4 4) = 3 := by
      rw [show W.bitsOf fI4.imm 4 4 = 3 by decide +kernel]
      simp only [wrap32]
      omega
    rw [W.pP, e]
    exact itoa_one 3 (by decide) (by decide)
  have psx : W.pS fI4 = [49] := by
    have e : wrap32 (W.bitsOf fI4.imm 0 4) = 1 := by
      rw [show W.bitsOf fI4.imm 0 4 = 1 by decide +kernel]
      simp only [wrap32]
      omega
    rw [W.pS, e]
    exact itoa_one 1 (by decide) (by decide)
  rw [W.textL, hf, hn, e, W.partL_112, ppx, W.partL_115, psx]
  rfl

def fI (j : Nat) : W.I := [fI0, fI1, fI2, fI3, fI4].getD j fI0
def fT (j : Nat) : List UInt8 := [fT0, fT1, fT2, fT3, fT4].getD j fT0
theorem five (j : Nat) (h : j < 5) : j = 0 ∨ j = 1 ∨ j = 2 ∨ j = 3 ∨ j = 4 := by omega
theorem fx (j : Nat) (h : j < 5) : W.textL (fI j) = fT j := by
  rcases five j h with rfl | rfl | rfl | rfl | rfl
  · exact fx0
  · exact fx1
  · exact fx2
  · exact fx3
  · exact fx4
theorem fe (j : Nat) (h : j < 5) : W.encE (fI j) = 0 := by
  rcases five j h with rfl | rfl | rfl | rfl | rfl <;> decide +kernel
theorem fm (j : Nat) (h : j < 5) : 0 ≤ (fI j).imm ∧ (fI j).imm < 4294967296 := by
  rcases five j h with rfl | rfl | rfl | rfl | rfl <;> decide
theorem fp (A : Nat → Addr) (j : Nat) (h : j < 5) : Parses A (fT j) (fI j) 0 := by
  intro w hS
  have := parse_ok A (fI j) (fm j h).1 (fm j h).2 (fe j h) w hS
  rw [fx j h] at this
  exact this
theorem fl (j : Nat) (h : j < 5) : W.lineL (W.encV (fI j)) = fT j := by
  have := W.dec_enc (fe j h)
  rw [W.lineL, this.1, this.2]
  exact fx j h
theorem encV_lt (i : W.I) : 0 ≤ W.encV i ∧ W.encV i < 4294967296 := by
  unfold W.encV
  cases W.encE i == 0
  · rw [cond_false]; decide
  · rw [cond_true]; exact W.or_lt _ _

theorem lit5 (w : World) (j : Nat) (h : j < 5) : (w.alloc (.cells #[.string ⟨fT0.toArray⟩, .string ⟨fT1.toArray⟩, .string ⟨fT2.toArray⟩, .string ⟨fT3.toArray⟩, .string ⟨fT4.toArray⟩] 9)).cell? ⟨w.heap.size, 0 + j, none⟩ = some (.string ⟨(fT j).toArray⟩) := by
  rcases five j h with rfl | rfl | rfl | rfl | rfl <;> simp [go_sem, fT]

set_option maxRecDepth 100000 in
set_option maxHeartbeats 3200000 in
theorem first5_any (A : Nat → Addr) (w : World) (hS : Sg A w) : Calls Tryz.prog 8 #[] w fun e w' => e = .returned (.bool true) ∧ Below w.heap.size w w' := by
  have HS : Hid (Sg A w) := hS
  clear hS
  go_enter Tryz.func8, Tryz.ntmps8
  go_wp2_with fail
  have h5 := lit5 w
  have hb1 : Below w.heap.size w (w.alloc (.cells #[.string ⟨fT0.toArray⟩, .string ⟨fT1.toArray⟩, .string ⟨fT2.toArray⟩, .string ⟨fT3.toArray⟩, .string ⟨fT4.toArray⟩] 9)) := (Below.refl _ _).alloc (Nat.le_refl _) _
  have hl1 : w.heap.size < (w.alloc (.cells #[.string ⟨fT0.toArray⟩, .string ⟨fT1.toArray⟩, .string ⟨fT2.toArray⟩, .string ⟨fT3.toArray⟩, .string ⟨fT4.toArray⟩] 9)).heap.size := by simp
  unfold fT0 fT1 fT2 fT3 fT4 at h5 hb1 hl1
  generalize World.alloc w _ = w1 at *
  have H5 : Hid (∀ j, j < 5 → w1.cell? ⟨w.heap.size, 0 + j, none⟩ = some (.string ⟨(fT j).toArray⟩)) := h5
  clear h5
  refine (prog_ok A w.heap.size 0 5 5 fT fI w1 (HS.out.below hb1) (by decide) hl1 (fun j h => fp A j h) (fun j h => fe j h) H5.out).mono ?_
  rintro e w2 ⟨rfl, hb2, hw2, hl2⟩
  have HW : Hid (∀ j, j < 5 → w2.cell? ⟨w1.heap.size, j, none⟩ = some (wordV fI j)) := hw2
  have hbl2 : Below w.heap.size w w2 := hb1.trans (hb2.mono hb1.size)
  clear hw2
  go_wp2_with fail
  refine (parse_ex A _ (HS.out.below hbl2)).mono ?_
  rintro e w3 ⟨rfl, hb3⟩
  have hbl3 : Below w.heap.size w w3 := hbl2.trans (hb3.mono hbl2.size)
  unfold inV
  go_wp2_with fail
  have hb4 : Below w3.heap.size w3 (w3.alloc (.cells #[.int .i64 0, .int .i64 0, .int .i64 0, .int .i64 0, .int .i64 0, .int .u32 0, .bool false, .bool false] 24)) := (Below.refl _ _).alloc (Nat.le_refl _) _
  generalize World.alloc w3 _ = w4 at *
  have hbl4 : Below w.heap.size w w4 := hbl3.trans (hb4.mono hbl3.size)
  have hb24 : Below w2.heap.size w2 w4 := hb3.trans (hb4.mono hb3.size)
  have hl14 : w1.heap.size < w4.heap.size := Nat.lt_of_lt_of_le hl2 hb24.size
  refine (lines_any A w1.heap.size 0 5 5 (fun j => W.encV (fI j)) w4 (HS.out.below hbl4) (by decide) hl14 (fun j _ => encV_lt _) (fun j hj => by rw [Nat.zero_add]; exact (hb24.cell (p := ⟨w1.heap.size, j, none⟩) hl2).trans (HW.out j hj))).mono ?_
  rintro e w5 ⟨rfl, hb5, hl5, hs5⟩
  have hbl5 : Below w.heap.size w w5 := hbl4.trans (hb5.mono hbl4.size)
  have HL : Hid (∀ j, j < 5 → w5.cell? ⟨w4.heap.size, 0 + j, none⟩ = some (.string ⟨(fT j).toArray⟩)) := fun j hj => by
    rw [Nat.zero_add, hl5 j hj, lineV, fl j hj]
  have hb15 : Below w1.heap.size w1 w5 := hb2.trans ((hb24.trans (hb5.mono hb24.size)).mono hb2.size)
  have HT : Hid (∀ j, j < 5 → w5.cell? ⟨w.heap.size, 0 + j, none⟩ = some (.string ⟨(fT j).toArray⟩)) := fun j hj => (hb15.cell (p := ⟨w.heap.size, 0 + j, none⟩) hl1).trans (H5.out j hj)
  clear hl5
  go_wp2_with fail
  refine (sameTexts_any w4.heap.size 0 w.heap.size 0 5 5 5 fT w5 (by decide) HL.out HT.out).mono ?_
  rintro e w6 ⟨rfl, hb6⟩
  have hbl6 : Below w.heap.size w w6 := hbl5.trans (hb6.mono hbl5.size)
  go_wp2_with fail
  refine (is_word A 105 _ (HS.out.below hbl6).sent).mono ?_
  rintro e w7 ⟨rfl, hb7⟩
  go_wp2
  go_ret
  exact ⟨rfl, hbl6.trans (hb7.mono hbl6.size)⟩
end Go.Proofs.YtnejdkadmdelaaaGreatDoor

/- Lines of no words. -/
namespace Go.Proofs.YtnejdkadmdelaaaGreatDoor
open Go.ChangeShapes Go.WideShapes Go.ChangeAt Go.RowKit
set_option linter.unusedVariables false
set_option linter.unusedSimpArgs false

theorem lines_zero (a : Option Addr) (cap : Nat) (w : World) : Calls Tryz.prog 16 #[.slice a 0 cap] w fun e w' => e = .returned (.slice (some ⟨w.heap.size, 0, none⟩) 0 0) ∧ Below w.heap.size w w' ∧ w.heap.size < w'.heap.size := by
  obtain ⟨i0, hi, hz0, hz1, hz2⟩ := info_parts infoStr
  go_enter Tryz.func16, Tryz.ntmps16
  go_wp2_with (at_make; refine wpList_make_own _ rfl _ _ 41 rfl w.heap.size 9 i0 (.string ⟨#[]⟩) 1 Tryz.underlying41 hi hz0 hz1 .i64 .i64 _ 0 rfl rfl rfl (by rw [hz2]; omega) (by unfold maxLen; omega) (Nat.le_refl _) ?_; intro w0 hown0 hg0)
  have hb0 : Below w.heap.size w w0 := (Below.refl _ _).grown hg0 (Nat.le_refl _) (fun k hk => by cases hk)
  have hlt := (hown0.lt w.heap.size rfl).2
  clear hown0 hg0
  go_loopw [3, 11] (fun v i wr => v = .slice (some ⟨w.heap.size, 0, none⟩) 0 0 ∧ i = .int .i64 0 ∧ wr = w0) (fun _ _ _ => 0)
  case atStart => exact ⟨rfl, rfl, rfl⟩
  case round =>
    obtain ⟨rfl, rfl, rfl⟩ := hrel
    go_wp2
    go_ret
    exact ⟨rfl, hb0, hlt⟩
end Go.Proofs.YtnejdkadmdelaaaGreatDoor

/- The document's hexadecimal digits. -/
namespace Go.Proofs.YtnejdkadmdelaaaGreatDoor
open Go.ChangeShapes Go.WideShapes Go.ChangeAt Go.RowKit
set_option linter.unusedVariables false
set_option linter.unusedSimpArgs false

theorem pow16 (r : Nat) : (2 : Nat) ^ (4 * r) = 16 ^ r := by rw [Nat.pow_mul]
theorem hexL_step (x n k : Nat) (h : k < n) : W.hexL (x / 16 ^ (n - (k + 1))) (k + 1) = W.hexL (x / 16 ^ (n - k)) k ++ [W.hd (x / 16 ^ (n - (k + 1)) % 16)] := by
  have e : x / 16 ^ (n - (k + 1)) / 16 = x / 16 ^ (n - k) := by
    rw [Nat.div_div_eq_div_mul, ← Nat.pow_succ]
    congr 2
    omega
  rw [W.hexL, e]

theorem hexL_len2 (n : Nat) : ∀ x, (W.hexL x n).length = n := by
  induction n with
  | zero => intro x; rfl
  | succ n ih => intro x; rw [W.hexL, List.length_append, ih]; rfl
theorem sixteen (d : Nat) (h : d < 16) : d = 0 ∨ d = 1 ∨ d = 2 ∨ d = 3 ∨ d = 4 ∨ d = 5 ∨ d = 6 ∨ d = 7 ∨ d = 8 ∨ d = 9 ∨ d = 10 ∨ d = 11 ∨ d = 12 ∨ d = 13 ∨ d = 14 ∨ d = 15 := by omega
theorem slice_hex (d : Nat) (h : d < 16) (w : World) : (Instr.slice 9 (.string ⟨#[48, 49, 50, 51, 52, 53, 54, 55, 56, 57, 97, 98, 99, 100, 101, 102]⟩) (some (.int .u32 (d : Int))) (some (.int .u32 ((d : Int) + 1))) none).run Tryz.prog w = .ok (.string ⟨#[W.hd d]⟩) w := by
  rcases sixteen d h with rfl | rfl | rfl | rfl | rfl | rfl | rfl | rfl | rfl | rfl | rfl | rfl | rfl | rfl | rfl | rfl <;> kernel_rfl

set_option maxRecDepth 100000 in
set_option maxHeartbeats 800000 in
theorem rhex_any (x n : Nat) (hx : x < 4294967296) (hn : n ≤ 8) (w : World) : Calls Tryz.prog 34 #[.int .u32 x, .int .i64 n] w fun e w' => e = .returned (.string ⟨(W.hexL x n).toArray⟩) ∧ w = w' := by
  go_enter Tryz.func34, Tryz.ntmps34
  go_wp2
  go_loop [6, 7] (fun s i => ∃ k : Nat, k ≤ n ∧ i = .int .i64 ((n : Int) - 1 - k) ∧ s = .string ⟨(W.hexL (x / 16 ^ (n - k)) k).toArray⟩) (fun _ i => (intOf i + 1).toNat)
  case atStart => exact ⟨0, by omega, by simp, by simp [W.hexL]⟩
  case round =>
    obtain ⟨k, hk, rfl, rfl⟩ := hrel
    by_cases hlt : k < n
    · obtain ⟨d, hd⟩ : ∃ d, x / 16 ^ (n - (k + 1)) % 16 = d := ⟨_, rfl⟩
      have hd16 : d < 16 := by omega
      have hq : bits .and .u32 ((x : Int) / 2 ^ (4 * (n - 1 - k))) 15 = (d : Int) := by
        have e : ((x : Int) / 2 ^ (4 * (n - 1 - k))) = ((x / 16 ^ (n - (k + 1)) : Nat) : Int) := by
          rw [show n - 1 - k = n - (k + 1) by omega, Int.natCast_ediv, ← pow16]
          simp
        have hle : x / 16 ^ (n - (k + 1)) ≤ x := Nat.div_le_self _ _
        rw [e, show (15 : Int) = ((15 : Nat) : Int) from rfl, u32_and_nat _ 15 (by omega) (by decide), show (15 : Nat) = 2 ^ 4 - 1 from rfl, Nat.and_two_pow_sub_one_eq_mod, ← hd]
      have hsl := slice_hex d hd16
      have hlen : (W.hexL (x / 16 ^ (n - k)) k).length ≤ 8 := by rw [hexL_len2]; omega
      have HT : Hid (W.hexL (x / 16 ^ (n - (k + 1))) (k + 1) = W.hexL (x / 16 ^ (n - k)) k ++ [W.hd d]) := by
        have := hexL_step x n k hlt
        rw [hd] at this
        exact this
      clear hd
      go_wp2
      go_round
      case rel =>
        refine ⟨k + 1, by omega, by go_num, ?_⟩
        rw [HT.out]
        exact congrArg Value.string (ba_append _ [W.hd d])
      case measure => simp [intOf]; omega
    · obtain rfl : k = n := by omega
      go_wp2
      go_ret
      exact ⟨rfl, rfl⟩

theorem rhex_8 (x : Nat) (hx : x < 4294967296) (w : World) : Calls Tryz.prog 34 #[.int .u32 x, .int .i64 8] w fun e w' => e = .returned (.string ⟨(W.hexL x 8).toArray⟩) ∧ w = w' := rhex_any x 8 hx (by decide) w

/-- The document's text of a word that is none. -/
theorem raw_any (x : Nat) (hx : x < 4294967296) (w : World) : Calls Tryz.prog 21 #[.int .u32 x] w fun e w' => e = .returned (.string ⟨([46, 119, 111, 114, 100, 32] ++ (48 :: 120 :: W.hexL x 8)).toArray⟩) ∧ w = w' := by
  have ha := ba_append [46, 119, 111, 114, 100, 32, 48, 120] (W.hexL x 8)
  have HA : Hid (_ = _) := ha
  have hlen : (W.hexL x 8).length ≤ 8 := by rw [hexL_len2]; omega
  clear ha
  go_enter Tryz.func21, Tryz.ntmps21
  go_wp2_with (go_at_call 34; refine (rhex_8 x hx _).mono ?_; rintro e w' ⟨rfl, rfl⟩)
  go_ret
  exact ⟨congrArg (fun s => Ending.returned (Value.string s)) HA.out, rfl⟩
end Go.Proofs.YtnejdkadmdelaaaGreatDoor

/- AsmBack, where all words are instructions. -/
namespace Go.Proofs.YtnejdkadmdelaaaGreatDoor
open Go.ChangeShapes Go.WideShapes Go.ChangeAt Go.RowKit
set_option linter.unusedVariables false
set_option linter.unusedSimpArgs false

theorem line_parses (A : Nat → Addr) (x : Int) (x0 : 0 ≤ x) (x1 : x < 4294967296) (hb : W.decB x = true) : Parses A (W.lineL x) (W.decI x) 0 := fun w hS => parse_line A x x0 x1 hb w hS
theorem line_none (A : Nat → Addr) (x : Int) (x0 : 0 ≤ x) (hb : W.decB x = false) : Parses A (W.lineL x) ⟨0, 0, 0, 0, 0, 0, false, false⟩ 6 := fun w hS => parse_line_no A x x0 hb w hS

set_option maxRecDepth 100000 in
set_option maxHeartbeats 3200000 in
theorem back_all (A : Nat → Addr) (b off n cap : Nat) (X : Nat → Int) (w : World) (hS : Sg A w) (hn : n ≤ 100) (hbB : b < w.heap.size) (hX : ∀ j, j < n → 0 ≤ X j ∧ X j < 4294967296)
    (hc : ∀ j, j < n → w.cell? ⟨b, off + j, none⟩ = some (.int .u32 (X j))) (hD : ∀ j, j < n → W.decB (X j) = true) :
    Calls Tryz.prog 4 #[.slice (some ⟨b, off, none⟩) n cap] w fun e w' => e = .returned (.bool true) ∧ Below w.heap.size w w' := by
  have HS : Hid (Sg A w) := hS
  have HX : Hid (∀ j, j < n → 0 ≤ X j ∧ X j < 4294967296) := hX
  have HC : Hid (∀ j, j < n → w.cell? ⟨b, off + j, none⟩ = some (.int .u32 (X j))) := hc
  have HD : Hid (∀ j, j < n → W.decB (X j) = true) := hD
  have hd100 : decide ((100 : Int) < (n : Int)) = false := by simp; omega
  clear hS hX hc hD
  go_enter Tryz.func4, Tryz.ntmps4
  go_wp2_with (go_at_call 8; refine (first5_any A _ HS.out).mono ?_; rintro e w1 ⟨rfl, hb1⟩)
  refine (lines_any A b off n cap X w1 (HS.out.below hb1) (by omega) (Nat.lt_of_lt_of_le hbB hb1.size) HX.out (fun j hj => (hb1.cell (p := ⟨b, off + j, none⟩) hbB).trans (HC.out j hj))).mono ?_
  rintro e w2 ⟨rfl, hb2, hl2, hs2⟩
  have HL : Hid (∀ j, j < n → w2.cell? ⟨w1.heap.size, 0 + j, none⟩ = some (.string ⟨(W.lineL (X j)).toArray⟩)) := fun j hj => by rw [Nat.zero_add]; exact hl2 j hj
  have hbl2 : Below w.heap.size w w2 := hb1.trans (hb2.mono hb1.size)
  clear hl2
  go_wp2_with fail
  refine (prog_ok A w1.heap.size 0 n n (fun j => W.lineL (X j)) (fun j => W.decI (X j)) w2 (HS.out.below hbl2) (by omega) hs2 (fun j hj => line_parses A _ (HX.out j hj).1 (HX.out j hj).2 (HD.out j hj)) (fun j hj => (W.enc_dec (HX.out j hj).1 (HX.out j hj).2 (HD.out j hj)).1) HL.out).mono ?_
  rintro e w3 ⟨rfl, hb3, hw3, hs3⟩
  have HW : Hid (∀ j, j < n → w3.cell? ⟨w2.heap.size, 0 + j, none⟩ = some (.int .u32 (X j))) := fun j hj => by
    rw [Nat.zero_add, hw3 j hj, wordV, (W.enc_dec (HX.out j hj).1 (HX.out j hj).2 (HD.out j hj)).2]
  have hbl3 : Below w.heap.size w w3 := hbl2.trans (hb3.mono hbl2.size)
  clear hw3
  go_wp2_with fail
  go_loopw [7] (fun i wr => ∃ k : Nat, k ≤ n ∧ i = .int .i64 k ∧ Below w3.heap.size w3 wr) (fun i _ => n - (intOf i).toNat)
  case atStart => exact ⟨0, by omega, rfl, Below.refl _ _⟩
  case round =>
    obtain ⟨k, hk, rfl, hbl⟩ := hrel
    have hblk : Below w.heap.size w wr := hbl3.trans (hbl.mono hbl3.size)
    by_cases hlt : k < n
    · have g0 : wr.cell? ⟨b, off + k, none⟩ = some (.int .u32 (X k)) := (hblk.cell (p := ⟨b, off + k, none⟩) hbB).trans (HC.out k hlt)
      have x0 := (HX.out k hlt).1
      have x1 := (HX.out k hlt).2
      have HDk : Hid (W.decB (X k) = true) := HD.out k hlt
      generalize X k = x at *
      generalize hI : W.decI x = i
      have HI : Hid (W.decI x = i) := hI
      clear hI
      go_wp2_with (go_at_call 18; refine (rdec_any x _ x0 x1).mono ?_; rintro e w4 ⟨rfl, hb4⟩; rw [HDk.out, HI.out]; unfold inV)
      go_roundw
      case rel => exact ⟨k + 1, by omega, by go_num, (hbl.trans (hb4.mono hbl.size)).alloc (by have := hbl.size; have := hb4.size; omega) _⟩
      case measure => simp [intOf]; omega
    · go_wp2_with fail
      refine (sameWords_any w2.heap.size 0 b off n n cap X wr (by omega) (fun j hj => (hbl.cell (p := ⟨w2.heap.size, 0 + j, none⟩) hs3).trans (HW.out j hj)) (fun j hj => (hblk.cell (p := ⟨b, off + j, none⟩) hbB).trans (HC.out j hj))).mono ?_
      rintro e w5 ⟨rfl, hb5⟩
      go_wp2
      go_ret
      exact ⟨rfl, hblk.trans (hb5.mono hblk.size)⟩
end Go.Proofs.YtnejdkadmdelaaaGreatDoor

/- AsmBack, where a word is none. -/
namespace Go.Proofs.YtnejdkadmdelaaaGreatDoor
open Go.ChangeShapes Go.WideShapes Go.ChangeAt Go.RowKit
set_option linter.unusedVariables false
set_option linter.unusedSimpArgs false

set_option maxRecDepth 100000 in
set_option maxHeartbeats 3200000 in
theorem back_bad (A : Nat → Addr) (b off n cap m : Nat) (X : Nat → Int) (w : World) (hS : Sg A w) (hn : n ≤ 100) (hbB : b < w.heap.size) (hX : ∀ j, j < n → 0 ≤ X j ∧ X j < 4294967296)
    (hc : ∀ j, j < n → w.cell? ⟨b, off + j, none⟩ = some (.int .u32 (X j))) (hm : m < n) (hD : ∀ j, j < m → W.decB (X j) = true) (hM : W.decB (X m) = false) :
    Calls Tryz.prog 4 #[.slice (some ⟨b, off, none⟩) n cap] w fun e w' => e = .returned (.bool true) ∧ Below w.heap.size w w' := by
  have HS : Hid (Sg A w) := hS
  have HX : Hid (∀ j, j < n → 0 ≤ X j ∧ X j < 4294967296) := hX
  have HC : Hid (∀ j, j < n → w.cell? ⟨b, off + j, none⟩ = some (.int .u32 (X j))) := hc
  have HD : Hid (∀ j, j < m → W.decB (X j) = true) := hD
  have HM : Hid (W.decB (X m) = false) := hM
  have hd100 : decide ((100 : Int) < (n : Int)) = false := by simp; omega
  clear hS hX hc hD hM
  go_enter Tryz.func4, Tryz.ntmps4
  go_wp2_with (go_at_call 8; refine (first5_any A _ HS.out).mono ?_; rintro e w1 ⟨rfl, hb1⟩)
  refine (lines_any A b off n cap X w1 (HS.out.below hb1) (by omega) (Nat.lt_of_lt_of_le hbB hb1.size) HX.out (fun j hj => (hb1.cell (p := ⟨b, off + j, none⟩) hbB).trans (HC.out j hj))).mono ?_
  rintro e w2 ⟨rfl, hb2, hl2, hs2⟩
  have HL : Hid (∀ j, j < n → w2.cell? ⟨w1.heap.size, 0 + j, none⟩ = some (.string ⟨(W.lineL (X j)).toArray⟩)) := fun j hj => by rw [Nat.zero_add]; exact hl2 j hj
  have hbl2 : Below w.heap.size w w2 := hb1.trans (hb2.mono hb1.size)
  clear hl2
  go_wp2_with fail
  refine (prog_bad A w1.heap.size 0 n n m (fun j => W.lineL (X j)) (fun j => bif W.decB (X j) then W.decI (X j) else ⟨0, 0, 0, 0, 0, 0, false, false⟩) w2 (HS.out.below hbl2) (by omega) hs2 hm (fun j hj => by have h := HX.out j (by omega); simp only [HD.out j hj, cond_true]; exact line_parses A _ h.1 h.2 (HD.out j hj)) (fun j hj => by have h := HX.out j (by omega); simp only [HD.out j hj, cond_true]; exact (W.enc_dec h.1 h.2 (HD.out j hj)).1) (by simp only [HM.out, cond_false]; exact line_none A _ (HX.out m hm).1 HM.out) HL.out).mono ?_
  rintro e w3 ⟨q, rfl, hb3, hq3, hc3⟩
  have hbl3 : Below w.heap.size w w3 := hbl2.trans (hb3.mono hbl2.size)
  have HQ : Hid (w3.heap[q]? = some (.cells #[.int .i64 m, errV A 6] 79)) := hc3
  clear hc3
  go_wp2_with fail
  go_loopw [7] (fun i wr => ∃ k : Nat, k ≤ m ∧ i = .int .i64 k ∧ Below w3.heap.size w3 wr) (fun i _ => m - (intOf i).toNat)
  case atStart => exact ⟨0, by omega, rfl, Below.refl _ _⟩
  case round =>
    obtain ⟨k, hk, rfl, hbl⟩ := hrel
    have hblk : Below w.heap.size w wr := hbl3.trans (hbl.mono hbl3.size)
    have hkn : k < n := by omega
    by_cases hlt : k < m
    · have g0 : wr.cell? ⟨b, off + k, none⟩ = some (.int .u32 (X k)) := (hblk.cell (p := ⟨b, off + k, none⟩) hbB).trans (HC.out k hkn)
      have x0 := (HX.out k hkn).1
      have x1 := (HX.out k hkn).2
      have HDk : Hid (W.decB (X k) = true) := HD.out k hlt
      generalize X k = x at *
      generalize hI : W.decI x = i
      have HI : Hid (W.decI x = i) := hI
      clear hI
      go_wp2_with (go_at_call 18; refine (rdec_any x _ x0 x1).mono ?_; rintro e w4 ⟨rfl, hb4⟩; rw [HDk.out, HI.out]; unfold inV)
      go_roundw
      case rel => exact ⟨k + 1, by omega, by go_num, (hbl.trans (hb4.mono hbl.size)).alloc (by have := hbl.size; have := hb4.size; omega) _⟩
      case measure => simp [intOf]; omega
    · obtain rfl : k = m := by omega
      have g0 : wr.cell? ⟨b, off + k, none⟩ = some (.int .u32 (X k)) := (hblk.cell (p := ⟨b, off + k, none⟩) hbB).trans (HC.out k hkn)
      have g1 : wr.cell? ⟨w1.heap.size, k, none⟩ = some (.string ⟨(W.lineL (X k)).toArray⟩) := by
        have := HL.out k hkn
        rw [Nat.zero_add] at this
        exact ((hb3.trans (hbl.mono hb3.size)).cell (p := ⟨w1.heap.size, k, none⟩) hs2).trans this
      have x0 := (HX.out k hkn).1
      have x1 := (HX.out k hkn).2
      rw [W.lineL, HM.out, cond_false] at g1
      generalize X k = x at *
      obtain ⟨y, rfl⟩ := Int.eq_ofNat_of_zero_le x0
      rw [Int.toNat_natCast] at g1
      have y1 : y < 4294967296 := by omega
      generalize hI : W.decI (y : Int) = i
      have HI : Hid (W.decI (y : Int) = i) := hI
      clear hI
      go_wp2_with (go_at_call 18; refine (rdec_any y _ x0 x1).mono ?_; rintro e w4 ⟨rfl, hb4⟩; rw [HM.out, HI.out]; unfold inV)
      have hb5 : Below w4.heap.size w4 (w4.alloc (.cells #[.int .i64 i.op, .int .i64 i.rd, .int .i64 i.rs1, .int .i64 i.rs2, .int .i64 i.csr, .int .u32 i.imm, .bool i.aq, .bool i.rl] 24)) := (Below.refl _ _).alloc (Nat.le_refl _) _
      generalize World.alloc w4 _ = w5 at *
      have hb35 : Below w3.heap.size w3 w5 := (hbl.trans (hb4.mono hbl.size)).trans (hb5.mono (hbl.trans (hb4.mono hbl.size)).size)
      have hbl5 : Below w.heap.size w w5 := hbl3.trans (hb35.mono hbl3.size)
      have hbr5 : Below wr.heap.size wr w5 := hb4.trans (hb5.mono hb4.size)
      have hlr : b < wr.heap.size := Nat.lt_of_lt_of_le hbB hblk.size
      have hl1 : w1.heap.size < wr.heap.size := Nat.lt_of_lt_of_le hs2 (hb3.trans (hbl.mono hb3.size)).size
      have hC : Below w5.heap.size w5 w5.drew := (Below.refl _ _).drew
      have k0 : w5.drew.cell? ⟨b, off + k, none⟩ = some (.int .u32 (y : Int)) := (hbr5.cell (p := ⟨b, off + k, none⟩) hlr).trans g0
      have k1 : w5.drew.cell? ⟨w1.heap.size, k, none⟩ = some (.string ⟨([46, 119, 111, 114, 100, 32] ++ (48 :: 120 :: W.hexL y 8)).toArray⟩) := (hbr5.cell (p := ⟨w1.heap.size, k, none⟩) hl1).trans g1
      have hl5 : b < w5.heap.size := Nat.lt_of_lt_of_le hlr hbr5.size
      have hl15 : w1.heap.size < w5.heap.size := Nat.lt_of_lt_of_le hl1 hbr5.size
      have hq5 : w5.heap[q]? = some (.cells #[.int .i64 (k : Int), errV A 6] 79) := (hb35.block q (Array.getElem?_eq_some_iff.1 HQ.out).1).trans HQ.out
      have HQ5 : Hid (w5.heap[q]? = some (.cells #[.int .i64 (k : Int), errV A 6] 79)) := hq5
      have HS5 : Hid (Sg A w5) := HS.out.below hbl5
      have K0 : Hid (∀ w', Below w5.heap.size w5 w' → w'.cell? ⟨b, off + k, none⟩ = some (.int .u32 (y : Int)) ∧ w'.cell? ⟨w1.heap.size, k, none⟩ = some (.string ⟨([46, 119, 111, 114, 100, 32] ++ (48 :: 120 :: W.hexL y 8)).toArray⟩)) := fun w' h => ⟨(h.cell (p := ⟨b, off + k, none⟩) hl5).trans k0, (h.cell (p := ⟨w1.heap.size, k, none⟩) hl15).trans k1⟩
      clear hq5 g0 g1
      go_region_held3 (fun w' => w'.cell? ⟨b, off + k, none⟩ = some (.int .u32 (y : Int)) ∧ w'.cell? ⟨w1.heap.size, k, none⟩ = some (.string ⟨([46, 119, 111, 114, 100, 32] ++ (48 :: 120 :: W.hexL y 8)).toArray⟩))
        (first | (refine ⟨?_, ?_⟩ <;> assumption) | go_keep)
        (first
          | (go_at_call 20; refine (placed_any (k : Int) _).mono ?_; rintro e w6 ⟨rfl, hb6, hc6, hs6⟩; replace hC : Below w5.heap.size w5 w6 := hC.trans (hb6.mono hC.size); have HC6 : Hid (w6.cell? ⟨_, 0, none⟩ = some (.int .i64 (k : Int))) := hc6; clear hc6 k0 k1; obtain ⟨k0, k1⟩ := K0.out _ hC)
          | (go_at_call 19; refine (same_at A q _ (k : Int) _ (HS5.out.below hC).sent ((hC.block q (Array.getElem?_eq_some_iff.1 HQ5.out).1).trans HQ5.out) HC6.out).mono ?_; rintro e w7 ⟨rfl, hb7⟩; replace hC : Below w5.heap.size w5 w7 := hC.trans (hb7.mono hC.size); clear k0 k1; obtain ⟨k0, k1⟩ := K0.out _ hC)
          | (go_at_call 21; refine (raw_any y y1 _).mono ?_; rintro e w8 ⟨rfl, rfl⟩))
      all_goals
        go_wp2
        go_ret
        exact ⟨rfl, hbl5.trans (hC.mono hbl5.size)⟩
end Go.Proofs.YtnejdkadmdelaaaGreatDoor
