/- Texts in one: AsmPr, AsmPb, AsmSm, AsmAt, AsmFa, AsmOneA, AsmNo. -/
import Derived.Deep.RegionHeld3
import Derived.Deep.RegionWith
import Derived.Deep.CutRange
import Derived.Deep.CutBlock
import Derived.Test.YtmihcicepgjogaaGreatDoorJ17
import Derived.Test.YtmihcicepgjogaaGreatDoorJ28
import Derived.Test.YtmihcicepgjogaaGreatDoorJ48
/- Program: the words that lines say, or the first line that says none. -/
namespace Go.Proofs.YtmihcicepgjogaaGreatDoor
open Go.ChangeShapes Go.WideShapes Go.ChangeAt Go.RowKit
set_option linter.unusedVariables false
set_option linter.unusedSimpArgs false

def wordV (I : Nat → W.I) (j : Nat) : Value := .int .u32 (W.encV (I j))
/-- What Parse says of the text T: the instruction i, or the error of that number. -/
def Parses (A : Nat → Addr) (T : List UInt8) (i : W.I) (e : Nat) : Prop := ∀ w : World, Sg A w → Calls Tryz.prog 12 #[.string ⟨T.toArray⟩] w fun x w' => x = .returned (.tuple #[inV i, errV A e]) ∧ Below w.heap.size w w'

set_option maxHeartbeats 3200000 in
theorem prog_ok (A : Nat → Addr) (b off n cap : Nat) (T : Nat → List UInt8) (I : Nat → W.I) (w : World) (hS : Sg A w) (hn : n ≤ 1000) (hbB : b < w.heap.size)
    (hP : ∀ j, j < n → Parses A (T j) (I j) 0) (hE : ∀ j, j < n → W.encE (I j) = 0)
    (hc : ∀ j, j < n → w.cell? ⟨b, off + j, none⟩ = some (.string ⟨(T j).toArray⟩)) :
    Calls Tryz.prog 17 #[.slice (some ⟨b, off, none⟩) n cap] w fun e w' => e = .returned (.tuple #[.slice (some ⟨w.heap.size, 0, none⟩) n n, .nilIface]) ∧ Below w.heap.size w w' ∧ (∀ j, j < n → w'.cell? ⟨w.heap.size, j, none⟩ = some (wordV I j)) ∧ w.heap.size < w'.heap.size := by
  obtain ⟨i0, hi, hz0, hz1, hz2⟩ := info_parts infoU32
  have HS : Hid (Sg A w) := hS
  have HP : Hid (∀ j, j < n → Parses A (T j) (I j) 0) := hP
  have HE : Hid (∀ j, j < n → W.encE (I j) = 0) := hE
  clear hS hP hE
  go_enter Tryz.func17, Tryz.ntmps17
  go_wp2_with (at_make; refine wpList_make_own _ rfl _ _ 40 rfl w.heap.size 22 i0 (.int .u32 0) 1 Tryz.underlying40 hi hz0 hz1 .i64 .i64 _ n rfl rfl rfl (by rw [hz2]; omega) (by unfold maxLen; omega) (Nat.le_refl _) ?_; intro w0 hown0 hg0)
  have hb0 : Below w.heap.size w w0 := (Below.refl _ _).grown hg0 (Nat.le_refl _) (fun k hk => by cases hk)
  go_loopw [4, 16] (fun v i wr => ∃ k : Nat, k ≤ n ∧ i = .int .i64 k ∧ v = .slice (some ⟨w.heap.size, 0, none⟩) k n ∧ wr.ownsRow w.heap.size 22 1 (.slice (some ⟨w.heap.size, 0, none⟩) k n) k (rowOf (wordV I) k) ∧ Below w.heap.size w wr) (fun _ i _ => n - (intOf i).toNat)
  case atStart => exact ⟨0, by omega, rfl, rfl, hown0, hb0⟩
  case round =>
    obtain ⟨k, hk, rfl, rfl, hown, hbl⟩ := hrel
    clear hown0 hg0 hb0
    by_cases hlt : k < n
    · have g0 : wr.cell? ⟨b, off + k, none⟩ = some (.string ⟨(T k).toArray⟩) := (hbl.cell (by exact hbB)).trans (hc k hlt)
      have HPk : Hid (Parses A (T k) (I k) 0) := HP.out k hlt
      have HEk : Hid (W.encE (I k) = 0) := HE.out k hlt
      have Hw : Hid (wr.ownsRow w.heap.size 22 1 (.slice (some ⟨w.heap.size, 0, none⟩) k n) k (rowOf (wordV I) k)) := hown
      have HR : rowOf (wordV I) (k + 1) = rowOf (wordV I) k ++ [wordV I k] := rowOf_succ _ _
      have Hr : Hid (rowOf (wordV I) (k + 1) = rowOf (wordV I) k ++ [.int .u32 (W.encV (I k))]) := HR
      clear hc hown HR
      generalize T k = Tk at *
      generalize I k = i at *
      go_wp2_with (first
        | (go_at_call 12; refine (HPk.out _ (HS.out.below hbl)).mono ?_; rintro e w2 ⟨rfl, hb2⟩; have hbl2 : Below w.heap.size w w2 := hbl.trans (hb2.mono hbl.size); unfold inV errV))
      have hA2 := InAt.start w2 i 24
      generalize hW : World.alloc w2 _ = w3
      have hA3 : InAt w2.heap.size i w3 := by rw [← hW]; exact hA2
      have hb3 : Below w2.heap.size w2 w3 := by rw [← hW]; exact (Below.refl _ _).alloc (Nat.le_refl _) _
      have hbl3 : Below w.heap.size w w3 := hbl2.trans (hb3.mono hbl2.size)
      clear hA2 hW
      obtain ⟨a0, a1, a2, a3, a4, a5, a6, a7⟩ := hA3
      go_wp2_with (first
        | (go_at_call 25; refine (encode_any A i _ (HS.out.below hbl3).sent).mono ?_; rintro e w4 ⟨rfl, hb4⟩; have hbl4 : Below w.heap.size w w4 := hbl3.trans (hb4.mono hbl3.size); rw [HEk.out])
        | (at_builtin; refine wpList_append_fits _ rfl _ _ 40 rfl w.heap.size 22 i0 1 Tryz.underlying40 hi hz1 w.heap.size k n (rowOf (wordV I) k) rfl ?c1 ⟨w4.heap.size, 0, none⟩ 1 1 [.int .u32 (W.encV i)] rfl rfl ?c2 ?c3 ?c4 ?_))
      case c1 => exact (((Hw.out.kept (gbelow5 (r := none) hb2) (Or.inr (by simp [Value.ownBlock]))).kept (gbelow5 (r := none) hb3) (Or.inr (by simp [Value.ownBlock]))).kept (gbelow5 (r := none) hb4) (Or.inr (by simp [Value.ownBlock]))).alloc _
      case c2 => exact one_new w4 _ _
      case c3 => intro u hu; simp at hu; subst hu; rfl
      case c4 => omega
      intro w5 hown5 hg5
      have hb5 : Below w.heap.size w w5 := Below.grown (hbl4.alloc hbl4.size _) hg5 (by have := hbl4.size; simp; omega) (fun q hq => by cases hq; omega)
      have X5 : Hid (w5.ownsRow w.heap.size 22 1 (.slice (some ⟨w.heap.size, 0, none⟩) (k + 1) n) (k + 1) (rowOf (wordV I) (k + 1)) ∧ Below w.heap.size w w5) := by
        refine ⟨?_, hb5⟩
        rw [Hr.out]
        exact hown5
      clear hown5 hg5 hb5 hb2 hb3 hb4 Hw Hr hbl2 hbl3 hbl4
      go_wp2
      go_roundw
      case rel => exact ⟨k + 1, by omega, by go_num, rfl, X5.out.1, X5.out.2⟩
      case measure => simp [intOf]; omega
    · obtain rfl : k = n := by omega
      go_wp2
      exact bodyPost_ret (v := .tuple #[.slice (some ⟨w.heap.size, 0, none⟩) k k, .nilIface]) (by simp [results, Tryz.results17, go_sem]) rfl ⟨rfl, hbl, fun j hj => by rw [hown.cellAt j (by omega)]; exact rowOf_get _ _ _ hj, (hown.lt w.heap.size rfl).2⟩
end Go.Proofs.YtmihcicepgjogaaGreatDoor

/- Program: the words that lines say, or the first line that says none. -/
namespace Go.Proofs.YtmihcicepgjogaaGreatDoor
open Go.ChangeShapes Go.WideShapes Go.ChangeAt Go.RowKit
set_option linter.unusedVariables false
set_option linter.unusedSimpArgs false

set_option maxHeartbeats 3200000 in
theorem prog_bad (A : Nat → Addr) (b off n cap m : Nat) (T : Nat → List UInt8) (I : Nat → W.I) (w : World) (hS : Sg A w) (hn : n ≤ 1000) (hbB : b < w.heap.size)
    (hm : m < n) (hP : ∀ j, j < m → Parses A (T j) (I j) 0) (hE : ∀ j, j < m → W.encE (I j) = 0) (hB : Parses A (T m) (I m) 6)
    (hc : ∀ j, j < n → w.cell? ⟨b, off + j, none⟩ = some (.string ⟨(T j).toArray⟩)) :
    Calls Tryz.prog 17 #[.slice (some ⟨b, off, none⟩) n cap] w fun e w' => ∃ q, e = .returned (.tuple #[.slice none 0 0, .iface 77 (.pointer (some ⟨q, 0, none⟩))]) ∧ Below w.heap.size w w' ∧ w.heap.size ≤ q ∧ w'.heap[q]? = some (.cells #[.int .i64 m, errV A 6] 79) := by
  obtain ⟨i0, hi, hz0, hz1, hz2⟩ := info_parts infoU32
  have HS : Hid (Sg A w) := hS
  have HP : Hid (∀ j, j < m → Parses A (T j) (I j) 0) := hP
  have HE : Hid (∀ j, j < m → W.encE (I j) = 0) := hE
  have HB : Hid (Parses A (T m) (I m) 6) := hB
  clear hS hP hE hB
  go_enter Tryz.func17, Tryz.ntmps17
  go_wp2_with (at_make; refine wpList_make_own _ rfl _ _ 40 rfl w.heap.size 22 i0 (.int .u32 0) 1 Tryz.underlying40 hi hz0 hz1 .i64 .i64 _ n rfl rfl rfl (by rw [hz2]; omega) (by unfold maxLen; omega) (Nat.le_refl _) ?_; intro w0 hown0 hg0)
  have hb0 : Below w.heap.size w w0 := (Below.refl _ _).grown hg0 (Nat.le_refl _) (fun k hk => by cases hk)
  go_loopw [4, 16] (fun v i wr => ∃ k : Nat, k ≤ m ∧ i = .int .i64 k ∧ v = .slice (some ⟨w.heap.size, 0, none⟩) k n ∧ wr.ownsRow w.heap.size 22 1 (.slice (some ⟨w.heap.size, 0, none⟩) k n) k (rowOf (wordV I) k) ∧ Below w.heap.size w wr) (fun _ i _ => m - (intOf i).toNat)
  case atStart => exact ⟨0, by omega, rfl, rfl, hown0, hb0⟩
  case round =>
    obtain ⟨k, hk, rfl, rfl, hown, hbl⟩ := hrel
    clear hown0 hg0 hb0
    have hkn : k < n := by omega
    by_cases hlt : k < m
    · have g0 : wr.cell? ⟨b, off + k, none⟩ = some (.string ⟨(T k).toArray⟩) := (hbl.cell (by exact hbB)).trans (hc k hkn)
      have HPk : Hid (Parses A (T k) (I k) 0) := HP.out k hlt
      have HEk : Hid (W.encE (I k) = 0) := HE.out k hlt
      have Hw : Hid (wr.ownsRow w.heap.size 22 1 (.slice (some ⟨w.heap.size, 0, none⟩) k n) k (rowOf (wordV I) k)) := hown
      have HR : rowOf (wordV I) (k + 1) = rowOf (wordV I) k ++ [wordV I k] := rowOf_succ _ _
      have Hr : Hid (rowOf (wordV I) (k + 1) = rowOf (wordV I) k ++ [.int .u32 (W.encV (I k))]) := HR
      clear hc hown HR
      generalize T k = Tk at *
      generalize I k = i at *
      go_wp2_with (first
        | (go_at_call 12; refine (HPk.out _ (HS.out.below hbl)).mono ?_; rintro e w2 ⟨rfl, hb2⟩; have hbl2 : Below w.heap.size w w2 := hbl.trans (hb2.mono hbl.size); unfold inV errV))
      have hA2 := InAt.start w2 i 24
      generalize hW : World.alloc w2 _ = w3
      have hA3 : InAt w2.heap.size i w3 := by rw [← hW]; exact hA2
      have hb3 : Below w2.heap.size w2 w3 := by rw [← hW]; exact (Below.refl _ _).alloc (Nat.le_refl _) _
      have hbl3 : Below w.heap.size w w3 := hbl2.trans (hb3.mono hbl2.size)
      clear hA2 hW
      obtain ⟨a0, a1, a2, a3, a4, a5, a6, a7⟩ := hA3
      go_wp2_with (first
        | (go_at_call 25; refine (encode_any A i _ (HS.out.below hbl3).sent).mono ?_; rintro e w4 ⟨rfl, hb4⟩; have hbl4 : Below w.heap.size w w4 := hbl3.trans (hb4.mono hbl3.size); rw [HEk.out])
        | (at_builtin; refine wpList_append_fits _ rfl _ _ 40 rfl w.heap.size 22 i0 1 Tryz.underlying40 hi hz1 w.heap.size k n (rowOf (wordV I) k) rfl ?c1 ⟨w4.heap.size, 0, none⟩ 1 1 [.int .u32 (W.encV i)] rfl rfl ?c2 ?c3 ?c4 ?_))
      case c1 => exact (((Hw.out.kept (gbelow5 (r := none) hb2) (Or.inr (by simp [Value.ownBlock]))).kept (gbelow5 (r := none) hb3) (Or.inr (by simp [Value.ownBlock]))).kept (gbelow5 (r := none) hb4) (Or.inr (by simp [Value.ownBlock]))).alloc _
      case c2 => exact one_new w4 _ _
      case c3 => intro u hu; simp at hu; subst hu; rfl
      case c4 => omega
      intro w5 hown5 hg5
      have hb5 : Below w.heap.size w w5 := Below.grown (hbl4.alloc hbl4.size _) hg5 (by have := hbl4.size; simp; omega) (fun q hq => by cases hq; omega)
      have X5 : Hid (w5.ownsRow w.heap.size 22 1 (.slice (some ⟨w.heap.size, 0, none⟩) (k + 1) n) (k + 1) (rowOf (wordV I) (k + 1)) ∧ Below w.heap.size w w5) := by
        refine ⟨?_, hb5⟩
        rw [Hr.out]
        exact hown5
      clear hown5 hg5 hb5 hb2 hb3 hb4 Hw Hr hbl2 hbl3 hbl4
      go_wp2
      go_roundw
      case rel => exact ⟨k + 1, by omega, by go_num, rfl, X5.out.1, X5.out.2⟩
      case measure => simp [intOf]; omega
    · obtain rfl : k = m := by omega
      have g0 : wr.cell? ⟨b, off + k, none⟩ = some (.string ⟨(T k).toArray⟩) := (hbl.cell (by exact hbB)).trans (hc k hkn)
      clear hc hown
      generalize T k = Tk at *
      generalize I k = i at *
      go_wp2_with (first
        | (go_at_call 12; refine (HB.out _ (HS.out.below hbl)).mono ?_; rintro e w2 ⟨rfl, hb2⟩; have hbl2 : Below w.heap.size w w2 := hbl.trans (hb2.mono hbl.size); unfold inV errV))
      refine bodyPost_ret (v := .tuple #[.slice none 0 0, .iface 77 (.pointer (some ⟨w2.heap.size + 1, 0, none⟩))]) (by simp [results, Tryz.results17, go_sem]) rfl ⟨w2.heap.size + 1, rfl, (hbl2.alloc hbl2.size _).alloc (by have := hbl2.size; simp; omega) _, by have := hbl2.size; omega, ?_⟩
      show ((w2.heap.push _).push _)[w2.heap.size + 1]? = _
      rw [Array.getElem?_push, if_pos (by simp)]
      rfl
end Go.Proofs.YtmihcicepgjogaaGreatDoor

/- Lists of texts, of words, of numbers held against each other; nothing where an empty one may be nil. -/
namespace Go.Proofs.YtmihcicepgjogaaGreatDoor
open Go.ChangeShapes Go.WideShapes Go.ChangeAt Go.RowKit
set_option linter.unusedVariables false
set_option linter.unusedSimpArgs false

theorem sameTexts_any (a ao b bo n ca cb : Nat) (T : Nat → List UInt8) (w : World) (hn : n ≤ 4611686018427387904)
    (ha : ∀ j, j < n → w.cell? ⟨a, ao + j, none⟩ = some (.string ⟨(T j).toArray⟩)) (hb : ∀ j, j < n → w.cell? ⟨b, bo + j, none⟩ = some (.string ⟨(T j).toArray⟩)) :
    Calls Tryz.prog 24 #[.slice (some ⟨a, ao, none⟩) n ca, .slice (some ⟨b, bo, none⟩) n cb] w fun x w' => x = .returned (.bool true) ∧ Below w.heap.size w w' := by
  go_enter Tryz.func24, Tryz.ntmps24
  go_wp2
  go_loopw [5] (fun i wr => ∃ k : Nat, k ≤ n ∧ i = .int .i64 k ∧ ∃ q, wr = w.drewN q) (fun i _ => n - (intOf i).toNat)
  case atStart => exact ⟨0, by omega, rfl, 0, rfl⟩
  case round =>
    obtain ⟨k, hk, rfl, q, rfl⟩ := hrel
    by_cases hlt : k < n
    · have h1 := ha k hlt
      have h2 := hb k hlt
      clear ha hb
      go_wp2
      go_quiet (fail)
      go_wp2
      go_roundw
      case rel => exact ⟨k + 1, by omega, by go_num, _, rfl⟩
      case measure => simp [intOf]; omega
    · go_wp2
      go_ret
      exact ⟨rfl, below_drewN _ q⟩

theorem sameWords_any (a ao b bo n ca cb : Nat) (T : Nat → Int) (w : World) (hn : n ≤ 4611686018427387904)
    (ha : ∀ j, j < n → w.cell? ⟨a, ao + j, none⟩ = some (.int .u32 (T j))) (hb : ∀ j, j < n → w.cell? ⟨b, bo + j, none⟩ = some (.int .u32 (T j))) :
    Calls Tryz.prog 22 #[.slice (some ⟨a, ao, none⟩) n ca, .slice (some ⟨b, bo, none⟩) n cb] w fun x w' => x = .returned (.bool true) ∧ Below w.heap.size w w' := by
  go_enter Tryz.func22, Tryz.ntmps22
  go_wp2
  go_loopw [5] (fun i wr => ∃ k : Nat, k ≤ n ∧ i = .int .i64 k ∧ ∃ q, wr = w.drewN q) (fun i _ => n - (intOf i).toNat)
  case atStart => exact ⟨0, by omega, rfl, 0, rfl⟩
  case round =>
    obtain ⟨k, hk, rfl, q, rfl⟩ := hrel
    by_cases hlt : k < n
    · have h1 := ha k hlt
      have h2 := hb k hlt
      clear ha hb
      go_wp2
      go_quiet (fail)
      go_wp2
      go_roundw
      case rel => exact ⟨k + 1, by omega, by go_num, _, rfl⟩
      case measure => simp [intOf]; omega
    · go_wp2
      go_ret
      exact ⟨rfl, below_drewN _ q⟩

theorem sameInts_any (a ao b bo n ca cb : Nat) (T : Nat → Int) (w : World) (hn : n ≤ 4611686018427387904)
    (ha : ∀ j, j < n → w.cell? ⟨a, ao + j, none⟩ = some (.int .i64 (T j))) (hb : ∀ j, j < n → w.cell? ⟨b, bo + j, none⟩ = some (.int .i64 (T j))) :
    Calls Tryz.prog 77 #[.slice (some ⟨a, ao, none⟩) n ca, .slice (some ⟨b, bo, none⟩) n cb] w fun x w' => x = .returned (.bool true) ∧ Below w.heap.size w w' := by
  go_enter Tryz.func77, Tryz.ntmps77
  go_wp2
  go_loopw [5] (fun i wr => ∃ k : Nat, k ≤ n ∧ i = .int .i64 k ∧ ∃ q, wr = w.drewN q) (fun i _ => n - (intOf i).toNat)
  case atStart => exact ⟨0, by omega, rfl, 0, rfl⟩
  case round =>
    obtain ⟨k, hk, rfl, q, rfl⟩ := hrel
    by_cases hlt : k < n
    · have h1 := ha k hlt
      have h2 := hb k hlt
      clear ha hb
      go_wp2
      go_quiet (fail)
      go_wp2
      go_roundw
      case rel => exact ⟨k + 1, by omega, by go_num, _, rfl⟩
      case measure => simp [intOf]; omega
    · go_wp2
      go_ret
      exact ⟨rfl, below_drewN _ q⟩

theorem sameWords_zero (a b : Option Addr) (ca cb : Nat) (w : World) : Calls Tryz.prog 22 #[.slice a 0 ca, .slice b 0 cb] w fun x w' => x = .returned (.bool true) ∧ Below w.heap.size w w' := by
  go_enter Tryz.func22, Tryz.ntmps22
  go_wp2
  go_loopw [5] (fun i wr => i = .int .i64 0 ∧ wr = w) (fun _ _ => 0)
  case atStart => exact ⟨rfl, rfl⟩
  case round =>
    obtain ⟨rfl, rfl⟩ := hrel
    go_wp2
    go_ret
    exact ⟨rfl, Below.refl _ _⟩
end Go.Proofs.YtmihcicepgjogaaGreatDoor

/- The look at an error with its place. -/
namespace Go.Proofs.YtmihcicepgjogaaGreatDoor
open Go.ChangeShapes Go.WideShapes Go.ChangeAt Go.RowKit
set_option linter.unusedVariables false
set_option linter.unusedSimpArgs false

theorem placed_any (m : Int) (w : World) : Calls Tryz.prog 20 #[.int .i64 105, .int .i64 m] w fun e w' => e = .returned (.agg #[.int .i64 105, .slice (some ⟨w.heap.size + 1, 0, none⟩) 1 1]) ∧ Below w.heap.size w w' ∧ w'.cell? ⟨w.heap.size + 1, 0, none⟩ = some (.int .i64 m) ∧ w.heap.size + 1 < w'.heap.size := by
  go_enter Tryz.func20, Tryz.ntmps20
  go_wp2
  exact bodyPost_ret (v := .agg #[.int .i64 105, .slice (some ⟨w.heap.size + 1, 0, none⟩) 1 1]) (by simp [results, Tryz.results20, go_sem]) rfl ⟨rfl, ((Below.refl _ _).alloc (Nat.le_refl _) _).alloc (by simp) _, by simp [go_sem], by simp⟩

set_option maxRecDepth 100000 in
set_option maxHeartbeats 1600000 in
theorem fault_8 (A : Nat → Addr) (p : Nat) (hp : p < 11) (w : World) (hS : Sent A w) :
    Calls Tryz.prog 76 #[.iface 194 (.pointer (some (A (perm p)))), .int .i64 8] w fun e w' => e = .returned (.agg #[.int .i64 (101 + p), .slice none 0 0]) ∧ Below w.heap.size w w' := by
  have HS : Hid (Sent A w) := hS
  have Hp : Hid (p < 11) := hp
  clear hS hp
  have hT : ∀ v w, (Instr.typeAssert (.iface 194 v) 27 77 true).run Tryz.prog w = .ok (.tuple #[.pointer none, .bool false]) w := fun _ _ => by kernel_rfl
  go_enter Tryz.func76, Tryz.ntmps76
  go_wp2_with (first
    | (go_at_call 105; refine (sentinel_any A p Hp.out _ (HS.out.below ((Below.refl _ _).alloc (Nat.le_refl _) _))).mono ?_; rintro e w1 ⟨rfl, hb1⟩; have hR : Room w.heap.size 2 w1 := ⟨_, _, (hb1.block _ (by simp)).trans (heap_alloc_last w _), rfl⟩; have hb : Below w.heap.size w w1 := ((Below.refl _ _).alloc (Nat.le_refl _) _).trans (hb1.mono (by simp)); have hlt : w.heap.size < w1.heap.size := (by have := hb1.size; simp at this; omega); clear hb1)
    | (go_at_call 39; refine (bare_any _ _).mono ?_; rintro e w2 ⟨rfl, hb2⟩; obtain ⟨v0, v1, r0, r1, r2⟩ := (hR.below hb2 hlt).two; have hb := hb.trans (hb2.mono hb.size); clear hb2))
  refine bodyPost_ret (v := .agg #[.int .i64 (101 + p), .slice none 0 0]) ?_ rfl ⟨rfl, ?_⟩
  · simp [results, Tryz.results76, go_sem, r0, r1]
  · exact (hb.setCell (Nat.le_refl _) _).setCell (Nat.le_refl _) _


set_option maxRecDepth 100000 in
set_option maxHeartbeats 1600000 in
theorem fault_at (A : Nat → Addr) (q : Nat) (m : Int) (w : World) (hS : Sent A w) (hq : w.heap[q]? = some (.cells #[.int .i64 m, errV A 6] 79)) : Calls Tryz.prog 76 #[.iface 77 (.pointer (some ⟨q, 0, none⟩)), .int .i64 9] w fun e w' => ∃ g, e = .returned (.agg #[.int .i64 105, .slice (some ⟨g, 0, none⟩) 1 1]) ∧ Below w.heap.size w w' ∧ w.heap.size ≤ g ∧ w'.cell? ⟨g, 0, none⟩ = some (.int .i64 m) := by
  have q0 : w.cell? ⟨q, 0, none⟩ = some (.int .i64 m) := by simp [World.cell?, hq]
  have q1 : w.cell? ⟨q, 1, none⟩ = some (.iface 194 (.pointer (some (A (perm 4))))) := by simp [World.cell?, hq]; rfl
  have hlt : q < w.heap.size := (Array.getElem?_eq_some_iff.1 hq).1
  have HS : Hid (Sent A w) := hS
  have hT : ∀ v w, (Instr.typeAssert (.iface 77 v) 27 77 true).run Tryz.prog w = .ok (.tuple #[v, .bool true]) w := fun _ _ => by kernel_rfl
  clear hq hS
  go_enter Tryz.func76, Tryz.ntmps76
  go_wp2_with (first
    | (go_at_call 76; refine (fault_8 A 4 (by decide) _ (HS.out.below ((Below.refl _ _).alloc (Nat.le_refl _) _))).mono ?_; rintro e w1 ⟨rfl, hb1⟩; have hR : Room w.heap.size 2 w1 := ⟨_, _, (hb1.block _ (by simp)).trans (heap_alloc_last w _), rfl⟩; have hb : Below w.heap.size w w1 := ((Below.refl _ _).alloc (Nat.le_refl _) _).trans (hb1.mono (by simp)); have hl1 : w.heap.size < w1.heap.size := (by have := hb1.size; simp at this; omega); clear hb1))
  have f0 : (w1.alloc (.cells #[.int .i64 105, .slice none 0 0] 49)).cell? ⟨w1.heap.size, 0, none⟩ = some (.int .i64 105) := by simp [go_sem]
  have f1 : (w1.alloc (.cells #[.int .i64 105, .slice none 0 0] 49)).cell? ⟨w1.heap.size, 1, none⟩ = some (.slice none 0 0) := by simp [go_sem]
  have hb2 : Below w1.heap.size w1 (w1.alloc (.cells #[.int .i64 105, .slice none 0 0] 49)) := (Below.refl _ _).alloc (Nat.le_refl _) _
  have hl2 : w1.heap.size < (w1.alloc (.cells #[.int .i64 105, .slice none 0 0] 49)).heap.size := by simp
  generalize World.alloc w1 _ = w2 at *
  have hR2 := hR.below hb2 hl1
  have hbw : Below w.heap.size w w2 := hb.trans (hb2.mono hb.size)
  have p0 : w2.cell? ⟨q, 0, none⟩ = some (.int .i64 m) := (hbw.cell (p := ⟨q, 0, none⟩) hlt).trans q0
  obtain ⟨v0, v1, r0, r1, r2⟩ := hR2.two
  have hl3 : w.heap.size < w2.heap.size := Nat.lt_trans hl1 hl2
  clear hR hR2 q0 q1 hb2
  generalize w1.heap.size = b1 at *
  go_region
  all_goals
    go_wp2
    refine bodyPost_ret (v := .agg #[.int .i64 105, .slice (some ⟨w2.heap.size, 0, none⟩) 1 1]) (by simp [results, Tryz.results76, go_sem, r0, r1, hl3]) rfl ⟨w2.heap.size, rfl, ?_, by omega, by simp [go_sem, hl3]⟩
    repeat (first | exact hbw | (refine Below.drew ?_) | (refine Below.setCell ?_ (by simp) _) | (refine Below.alloc ?_ (by simp; omega) _))

set_option maxRecDepth 100000 in
theorem faultOf_at (A : Nat → Addr) (q : Nat) (m : Int) (w : World) (hS : Sent A w) (hq : w.heap[q]? = some (.cells #[.int .i64 m, errV A 6] 79)) : Calls Tryz.prog 43 #[.iface 77 (.pointer (some ⟨q, 0, none⟩))] w fun e w' => ∃ g, e = .returned (.agg #[.int .i64 105, .slice (some ⟨g, 0, none⟩) 1 1]) ∧ Below w.heap.size w w' ∧ w.heap.size ≤ g ∧ w'.cell? ⟨g, 0, none⟩ = some (.int .i64 m) := by
  have HS : Hid (Sent A w) := hS
  have hlt : q < w.heap.size := (Array.getElem?_eq_some_iff.1 hq).1
  have HQ : Hid (∀ o, (w.alloc o).heap[q]? = some (.cells #[.int .i64 m, errV A 6] 79)) := fun o => (Below.heap_alloc w o q hlt).trans hq
  clear hS hq
  go_enter Tryz.func43, Tryz.ntmps43
  go_wp2_with (first
    | (go_at_call 76; refine (fault_at A q m _ (HS.out.below ((Below.refl _ _).alloc (Nat.le_refl _) _)) (HQ.out _)).mono ?_; rintro e w1 ⟨g, rfl, hb1, hg, hgc⟩; have hR : Room w.heap.size 2 w1 := ⟨_, _, (hb1.block _ (by simp)).trans (heap_alloc_last w _), rfl⟩; have hb : Below w.heap.size w w1 := ((Below.refl _ _).alloc (Nat.le_refl _) _).trans (hb1.mono (by simp)); clear hb1; obtain ⟨v0, v1, r0, r1, r2⟩ := hR.two))
  have hg' : w.heap.size + 1 ≤ g := by simpa using hg
  have hne : ¬ g = w.heap.size := by omega
  refine bodyPost_ret (v := .agg #[.int .i64 105, .slice (some ⟨g, 0, none⟩) 1 1]) ?_ rfl ⟨g, rfl, ?_, by omega, ?_⟩
  · simp [results, Tryz.results43, go_sem, r0, r1]
  · exact (hb.setCell (Nat.le_refl _) _).setCell (Nat.le_refl _) _
  · rw [World.cell?_setCell_other _ _ _ _ (by intro e; exact hne (congrArg Addr.block e).symm), World.cell?_setCell_other _ _ _ _ (by intro e; exact hne (congrArg Addr.block e).symm)]
    exact hgc

set_option maxHeartbeats 800000 in
theorem sameFault_at (m : Int) (g h : Nat) (w : World) (hg : w.cell? ⟨g, 0, none⟩ = some (.int .i64 m)) (hh : w.cell? ⟨h, 0, none⟩ = some (.int .i64 m)) :
    Calls Tryz.prog 44 #[.agg #[.int .i64 105, .slice (some ⟨g, 0, none⟩) 1 1], .agg #[.int .i64 105, .slice (some ⟨h, 0, none⟩) 1 1]] w fun e w' => e = .returned (.bool true) ∧ Below w.heap.size w w' := by
  have hb : Below w.heap.size w w := Below.refl _ _
  have HG : Hid (w.cell? ⟨g, 0, none⟩ = some (.int .i64 m)) := hg
  have HH : Hid (w.cell? ⟨h, 0, none⟩ = some (.int .i64 m)) := hh
  have lg := World.block_lt_of_cell? _ _ hg
  have lh := World.block_lt_of_cell? _ _ hh
  clear hg hh
  go_enter Tryz.func44, Tryz.ntmps44
  go_wp2_with fail
  have hb2 : Below w.heap.size w ((w.alloc (.cells #[.int .i64 105, .slice (some ⟨g, 0, none⟩) 1 1] 49)).alloc (.cells #[.int .i64 105, .slice (some ⟨h, 0, none⟩) 1 1] 49)) := (hb.alloc hb.size _).alloc (by simp) _
  refine (sameInts_any g 0 h 0 1 1 1 (fun _ => m) _ (by decide) ?_ ?_).mono ?_
  · intro j hj
    obtain rfl : j = 0 := by omega
    exact (hb2.cell (p := ⟨g, 0 + 0, none⟩) lg).trans HG.out
  · intro j hj
    obtain rfl : j = 0 := by omega
    exact (hb2.cell (p := ⟨h, 0 + 0, none⟩) lh).trans HH.out
  rintro e w3 ⟨rfl, hb3⟩
  have c0 := hb3.cell (p := ⟨w.heap.size, 0, none⟩) (by simp; omega)
  have c1 := hb3.cell (p := ⟨w.heap.size + 1, 0, none⟩) (by simp)
  simp [go_sem] at c0 c1
  go_wp2
  go_ret
  exact ⟨rfl, hb2.trans (hb3.mono (by simp; omega))⟩

theorem same_at (A : Nat → Addr) (q h : Nat) (m : Int) (w : World) (hS : Sent A w) (hq : w.heap[q]? = some (.cells #[.int .i64 m, errV A 6] 79)) (hh : w.cell? ⟨h, 0, none⟩ = some (.int .i64 m)) :
    Calls Tryz.prog 19 #[.iface 77 (.pointer (some ⟨q, 0, none⟩)), .agg #[.int .i64 105, .slice (some ⟨h, 0, none⟩) 1 1]] w fun e w' => e = .returned (.bool true) ∧ Below w.heap.size w w' := by
  have HS : Hid (Sent A w) := hS
  have hlt : q < w.heap.size := (Array.getElem?_eq_some_iff.1 hq).1
  have lh := World.block_lt_of_cell? _ _ hh
  have HQ : Hid (∀ o, (w.alloc o).heap[q]? = some (.cells #[.int .i64 m, errV A 6] 79)) := fun o => (Below.heap_alloc w o q hlt).trans hq
  have HH : Hid (w.cell? ⟨h, 0, none⟩ = some (.int .i64 m)) := hh
  clear hS hq hh
  go_enter Tryz.func19, Tryz.ntmps19
  go_wp2_with (first
    | (go_at_call 43; refine (faultOf_at A q m _ (HS.out.below ((Below.refl _ _).alloc (Nat.le_refl _) _)) (HQ.out _)).mono ?_; rintro e w1 ⟨g, rfl, hb1, hg, hgc⟩; have hl1 : w.heap.size < w1.heap.size := (by have := hb1.size; simp at this; omega); have x0 := hb1.cell (p := ⟨w.heap.size, 0, none⟩) (by simp); have x1 := hb1.cell (p := ⟨w.heap.size, 1, none⟩) (by simp); simp [go_sem] at x0 x1; have hb : Below w.heap.size w w1 := ((Below.refl _ _).alloc (Nat.le_refl _) _).trans (hb1.mono (by simp)); have HGC : Hid (w1.cell? ⟨g, 0, none⟩ = some (.int .i64 m)) := hgc; clear hb1 hg hgc))
  have lg := World.block_lt_of_cell? _ _ HGC.out
  have hbn : Below w1.heap.size w1 (w1.alloc (.cells #[.int .i64 105, .slice (some ⟨g, 0, none⟩) 1 1] 49)) := (Below.refl _ _).alloc (Nat.le_refl _) _
  refine (sameFault_at m g h _ ((hbn.cell (p := ⟨g, 0, none⟩) lg).trans HGC.out) ((hbn.cell (p := ⟨h, 0, none⟩) (Nat.lt_trans lh hl1)).trans ((hb.cell (p := ⟨h, 0, none⟩) lh).trans HH.out))).mono ?_
  rintro e w2 ⟨rfl, hb2⟩
  go_wp2
  go_ret
  exact ⟨rfl, hb.trans ((hbn.trans (hb2.mono (by simp))).mono hb.size)⟩
end Go.Proofs.YtmihcicepgjogaaGreatDoor

/- The chapter's examples: Program and Lines of them, and the text that is none. -/
namespace Go.Proofs.YtmihcicepgjogaaGreatDoor
open Go.ChangeShapes Go.WideShapes Go.ChangeAt Go.RowKit
set_option linter.unusedVariables false
set_option linter.unusedSimpArgs false

theorem reg_one (n : Nat) (h : n < 10) : W.regL n = [120, UInt8.ofNat (48 + n)] := by rw [W.regL, Lib.decDigits_one h]
theorem itoa_one (n : Int) (h0 : 0 ≤ n) (h1 : n < 10) : Lib.itoa n = [UInt8.ofNat (48 + n.toNat)] := by rw [Lib.itoa, if_neg (by omega), Lib.decDigits_one (by omega)]
theorem itoa_neg (n : Int) (h0 : n < 0) (h1 : -10 < n) : Lib.itoa n = [45, UInt8.ofNat (48 + n.natAbs)] := by rw [Lib.itoa, if_pos h0, Lib.decDigits_one (by omega)]

def fI0 : W.I := ⟨19, 1, 0, 0, 0, 4294967291, false, false⟩
def fT0 : List UInt8 := [97, 100, 100, 105, 32, 120, 49, 44, 32, 120, 48, 44, 32, 45, 53]
theorem fx0 : W.textL fI0 = fT0 := by
  have hf : W.form fI0.op = [100, 44, 32, 49, 44, 32, 105] := by decide +kernel
  have hn : W.nm fI0.op = [97, 100, 100, 105] := by decide +kernel
  have e : W.restL fI0 [100, 44, 32, 49, 44, 32, 105] = W.partL fI0 100 ++ ([44] ++ ([32] ++ (W.partL fI0 49 ++ ([44] ++ ([32] ++ (W.partL fI0 105 ++ [])))))) := rfl
  have pd : W.regL fI0.rd.toNat = _ := reg_one 1 (by decide)
  have p1 : W.regL fI0.rs1.toNat = _ := reg_one 0 (by decide)
  have pw : wrap32 fI0.imm = -5 := by show wrap32 4294967291 = -5; simp only [wrap32]; omega
  have pi : Lib.itoa (-5) = _ := itoa_neg (-5) (by decide) (by decide)
  rw [W.textL, hf, hn, e, W.partL_100, pd, W.partL_49, p1, W.partL_105, pw, pi]
  rfl
def fI1 : W.I := ⟨13, 3, 2, 0, 0, 8, false, false⟩
def fT1 : List UInt8 := [108, 119, 32, 120, 51, 44, 32, 56, 40, 120, 50, 41]
theorem fx1 : W.textL fI1 = fT1 := by
  have hf : W.form fI1.op = [100, 44, 32, 105, 40, 49, 41] := by decide +kernel
  have hn : W.nm fI1.op = [108, 119] := by decide +kernel
  have e : W.restL fI1 [100, 44, 32, 105, 40, 49, 41] = W.partL fI1 100 ++ ([44] ++ ([32] ++ (W.partL fI1 105 ++ ([40] ++ (W.partL fI1 49 ++ ([41] ++ [])))))) := rfl
  have pd : W.regL fI1.rd.toNat = _ := reg_one 3 (by decide)
  have pw : wrap32 fI1.imm = 8 := by show wrap32 8 = 8; simp only [wrap32]; omega
  have pi : Lib.itoa 8 = _ := itoa_one 8 (by decide) (by decide)
  have p1 : W.regL fI1.rs1.toNat = _ := reg_one 2 (by decide)
  rw [W.textL, hf, hn, e, W.partL_100, pd, W.partL_105, pw, pi, W.partL_49, p1]
  rfl
def fI2 : W.I := ⟨62, 1, 3, 2, 0, 0, true, false⟩
def fT2 : List UInt8 := [97, 109, 111, 97, 100, 100, 46, 119, 46, 97, 113, 32, 120, 49, 44, 32, 120, 50, 44, 32, 40, 120, 51, 41]
theorem fx2 : W.textL fI2 = fT2 := by
  have hf : W.form fI2.op = [100, 44, 32, 50, 44, 32, 40, 49, 41] := by decide +kernel
  have hn : W.nm fI2.op = [97, 109, 111, 97, 100, 100, 46, 119] := by decide +kernel
  have e : W.restL fI2 [100, 44, 32, 50, 44, 32, 40, 49, 41] = W.partL fI2 100 ++ ([44] ++ ([32] ++ (W.partL fI2 50 ++ ([44] ++ ([32] ++ ([40] ++ (W.partL fI2 49 ++ ([41] ++ [])))))))) := rfl
  have pd : W.regL fI2.rd.toNat = _ := reg_one 1 (by decide)
  have p2 : W.regL fI2.rs2.toNat = _ := reg_one 2 (by decide)
  have p1 : W.regL fI2.rs1.toNat = _ := reg_one 3 (by decide)
  rw [W.textL, hf, hn, e, W.partL_100, pd, W.partL_50, p2, W.partL_49, p1]
  rfl
def fI3 : W.I := ⟨45, 0, 5, 0, 773, 0, false, false⟩
def fT3 : List UInt8 := [99, 115, 114, 114, 119, 32, 120, 48, 44, 32, 48, 120, 51, 48, 53, 44, 32, 120, 53]
theorem fx3 : W.textL fI3 = fT3 := by
  have hf : W.form fI3.op = [100, 44, 32, 99, 44, 32, 49] := by decide +kernel
  have hn : W.nm fI3.op = [99, 115, 114, 114, 119] := by decide +kernel
  have e : W.restL fI3 [100, 44, 32, 99, 44, 32, 49] = W.partL fI3 100 ++ ([44] ++ ([32] ++ (W.partL fI3 99 ++ ([44] ++ ([32] ++ (W.partL fI3 49 ++ [])))))) := rfl
  have pd : W.regL fI3.rd.toNat = _ := reg_one 0 (by decide)
  have p1 : W.regL fI3.rs1.toNat = _ := reg_one 5 (by decide)
  rw [W.textL, hf, hn, e, W.partL_100, pd, W.partL_99, W.partL_49, p1]
  rfl
def fI4 : W.I := ⟨38, 0, 0, 0, 0, 49, false, false⟩
def fT4 : List UInt8 := [102, 101, 110, 99, 101, 32, 51, 44, 32, 49]
theorem fx4 : W.textL fI4 = fT4 := by
  have hf : W.form fI4.op = [112, 44, 32, 115] := by decide +kernel
  have hn : W.nm fI4.op = [102, 101, 110, 99, 101] := by decide +kernel
  have e : W.restL fI4 [112, 44, 32, 115] = W.partL fI4 112 ++ ([44] ++ ([32] ++ (W.partL fI4 115 ++ []))) := rfl
  have ppx : W.pP fI4 = [51] := by
    have e : wrap32 (W.bitsOf fI4.imm 4 4) = 3 := by
      rw [show W.bitsOf fI4.imm 4 4 = 3 by decide +kernel]
      simp only [wrap32]
      omega
    rw [W.pP, e]
    exact itoa_one 3 (by decide) (by decide)
  have psx : W.pS fI4 = [49] := by
    have e : wrap32 (W.bitsOf fI4.imm 0 4) = 1 := by
      rw [show W.bitsOf fI4.imm 0 4 = 1 by decide +kernel]
      simp only [wrap32]
      omega
    rw [W.pS, e]
    exact itoa_one 1 (by decide) (by decide)
  rw [W.textL, hf, hn, e, W.partL_112, ppx, W.partL_115, psx]
  rfl

def fI (j : Nat) : W.I := [fI0, fI1, fI2, fI3, fI4].getD j fI0
def fT (j : Nat) : List UInt8 := [fT0, fT1, fT2, fT3, fT4].getD j fT0
theorem five (j : Nat) (h : j < 5) : j = 0 ∨ j = 1 ∨ j = 2 ∨ j = 3 ∨ j = 4 := by omega
theorem fx (j : Nat) (h : j < 5) : W.textL (fI j) = fT j := by
  rcases five j h with rfl | rfl | rfl | rfl | rfl
  · exact fx0
  · exact fx1
  · exact fx2
  · exact fx3
  · exact fx4
theorem fe (j : Nat) (h : j < 5) : W.encE (fI j) = 0 := by
  rcases five j h with rfl | rfl | rfl | rfl | rfl <;> decide +kernel
theorem fm (j : Nat) (h : j < 5) : 0 ≤ (fI j).imm ∧ (fI j).imm < 4294967296 := by
  rcases five j h with rfl | rfl | rfl | rfl | rfl <;> decide
theorem fp (A : Nat → Addr) (j : Nat) (h : j < 5) : Parses A (fT j) (fI j) 0 := by
  intro w hS
  have := parse_ok A (fI j) (fm j h).1 (fm j h).2 (fe j h) w hS
  rw [fx j h] at this
  exact this
theorem fl (j : Nat) (h : j < 5) : W.lineL (W.encV (fI j)) = fT j := by
  have := W.dec_enc (fe j h)
  rw [W.lineL, this.1, this.2]
  exact fx j h
theorem encV_lt (i : W.I) : 0 ≤ W.encV i ∧ W.encV i < 4294967296 := by
  unfold W.encV
  cases W.encE i == 0
  · rw [cond_false]; decide
  · rw [cond_true]; exact W.or_lt _ _

theorem lit5 (w : World) (j : Nat) (h : j < 5) : (w.alloc (.cells #[.string ⟨fT0.toArray⟩, .string ⟨fT1.toArray⟩, .string ⟨fT2.toArray⟩, .string ⟨fT3.toArray⟩, .string ⟨fT4.toArray⟩] 9)).cell? ⟨w.heap.size, 0 + j, none⟩ = some (.string ⟨(fT j).toArray⟩) := by
  rcases five j h with rfl | rfl | rfl | rfl | rfl <;> simp [go_sem, fT]

set_option maxRecDepth 100000 in
set_option maxHeartbeats 3200000 in
theorem first5_any (A : Nat → Addr) (w : World) (hS : Sg A w) : Calls Tryz.prog 8 #[] w fun e w' => e = .returned (.bool true) ∧ Below w.heap.size w w' := by
  have HS : Hid (Sg A w) := hS
  clear hS
  go_enter Tryz.func8, Tryz.ntmps8
  go_wp2_with fail
  have h5 := lit5 w
  have hb1 : Below w.heap.size w (w.alloc (.cells #[.string ⟨fT0.toArray⟩, .string ⟨fT1.toArray⟩, .string ⟨fT2.toArray⟩, .string ⟨fT3.toArray⟩, .string ⟨fT4.toArray⟩] 9)) := (Below.refl _ _).alloc (Nat.le_refl _) _
  have hl1 : w.heap.size < (w.alloc (.cells #[.string ⟨fT0.toArray⟩, .string ⟨fT1.toArray⟩, .string ⟨fT2.toArray⟩, .string ⟨fT3.toArray⟩, .string ⟨fT4.toArray⟩] 9)).heap.size := by simp
  unfold fT0 fT1 fT2 fT3 fT4 at h5 hb1 hl1
  generalize World.alloc w _ = w1 at *
  have H5 : Hid (∀ j, j < 5 → w1.cell? ⟨w.heap.size, 0 + j, none⟩ = some (.string ⟨(fT j).toArray⟩)) := h5
  clear h5
  refine (prog_ok A w.heap.size 0 5 5 fT fI w1 (HS.out.below hb1) (by decide) hl1 (fun j h => fp A j h) (fun j h => fe j h) H5.out).mono ?_
  rintro e w2 ⟨rfl, hb2, hw2, hl2⟩
  have HW : Hid (∀ j, j < 5 → w2.cell? ⟨w1.heap.size, j, none⟩ = some (wordV fI j)) := hw2
  have hbl2 : Below w.heap.size w w2 := hb1.trans (hb2.mono hb1.size)
  clear hw2
  go_wp2_with fail
  refine (parse_ex A _ (HS.out.below hbl2)).mono ?_
  rintro e w3 ⟨rfl, hb3⟩
  have hbl3 : Below w.heap.size w w3 := hbl2.trans (hb3.mono hbl2.size)
  unfold inV
  go_wp2_with fail
  have hb4 : Below w3.heap.size w3 (w3.alloc (.cells #[.int .i64 0, .int .i64 0, .int .i64 0, .int .i64 0, .int .i64 0, .int .u32 0, .bool false, .bool false] 24)) := (Below.refl _ _).alloc (Nat.le_refl _) _
  generalize World.alloc w3 _ = w4 at *
  have hbl4 : Below w.heap.size w w4 := hbl3.trans (hb4.mono hbl3.size)
  have hb24 : Below w2.heap.size w2 w4 := hb3.trans (hb4.mono hb3.size)
  have hl14 : w1.heap.size < w4.heap.size := Nat.lt_of_lt_of_le hl2 hb24.size
  refine (lines_any A w1.heap.size 0 5 5 (fun j => W.encV (fI j)) w4 (HS.out.below hbl4) (by decide) hl14 (fun j _ => encV_lt _) (fun j hj => by rw [Nat.zero_add]; exact (hb24.cell (p := ⟨w1.heap.size, j, none⟩) hl2).trans (HW.out j hj))).mono ?_
  rintro e w5 ⟨rfl, hb5, hl5, hs5⟩
  have hbl5 : Below w.heap.size w w5 := hbl4.trans (hb5.mono hbl4.size)
  have HL : Hid (∀ j, j < 5 → w5.cell? ⟨w4.heap.size, 0 + j, none⟩ = some (.string ⟨(fT j).toArray⟩)) := fun j hj => by
    rw [Nat.zero_add, hl5 j hj, lineV, fl j hj]
  have hb15 : Below w1.heap.size w1 w5 := hb2.trans ((hb24.trans (hb5.mono hb24.size)).mono hb2.size)
  have HT : Hid (∀ j, j < 5 → w5.cell? ⟨w.heap.size, 0 + j, none⟩ = some (.string ⟨(fT j).toArray⟩)) := fun j hj => (hb15.cell (p := ⟨w.heap.size, 0 + j, none⟩) hl1).trans (H5.out j hj)
  clear hl5
  go_wp2_with fail
  refine (sameTexts_any w4.heap.size 0 w.heap.size 0 5 5 5 fT w5 (by decide) HL.out HT.out).mono ?_
  rintro e w6 ⟨rfl, hb6⟩
  have hbl6 : Below w.heap.size w w6 := hbl5.trans (hb6.mono hbl5.size)
  go_wp2_with fail
  refine (is_word A 105 _ (HS.out.below hbl6).sent).mono ?_
  rintro e w7 ⟨rfl, hb7⟩
  go_wp2
  go_ret
  exact ⟨rfl, hbl6.trans (hb7.mono hbl6.size)⟩
end Go.Proofs.YtmihcicepgjogaaGreatDoor

/- AsmOne: a text that is an instruction is the only one that is. -/
namespace Go.Proofs.YtmihcicepgjogaaGreatDoor
open Go.ChangeShapes Go.WideShapes Go.ChangeAt Go.RowKit
set_option linter.unusedVariables false
set_option linter.unusedSimpArgs false

/-- A text is an instruction's, or Parse of it is ErrWord. -/
theorem parse_cls (A : Nat → Addr) (T : List UInt8) (hT : T.length ≤ 1000) : (∃ i, W.encE i = 0 ∧ (0 ≤ i.imm ∧ i.imm < 4294967296) ∧ W.textL i = T ∧ Parses A T i 0) ∨ Parses A T ⟨0, 0, 0, 0, 0, 0, false, false⟩ 6 := by
  by_cases h : ∃ i, W.encE i = 0 ∧ (0 ≤ i.imm ∧ i.imm < 4294967296) ∧ W.textL i = T
  · obtain ⟨i, h1, h2, h3⟩ := h
    refine Or.inl ⟨i, h1, h2, h3, fun w hS => ?_⟩
    have := parse_ok A i h2.1 h2.2 h1 w hS
    rw [h3] at this
    exact this
  · refine Or.inr fun w hS => (parse_w A T hT w hS).mono ?_
    rintro e w' ⟨⟨i, rfl, h1, h2, h3⟩ | rfl, hb⟩
    · exact absurd ⟨i, h1, h2, h3⟩ h
    · exact ⟨rfl, hb⟩
theorem ba_list (b : ByteArray) : (⟨b.data.toList.toArray⟩ : ByteArray) = b := rfl

set_option maxRecDepth 100000 in
theorem one_none (A : Nat → Addr) (i : W.I) (at' c : Int) (n : Nat) (he : W.encE i = n + 1) (w : World) (hS : Sg A w) : Calls Tryz.prog 5 #[inV i, .int .i64 at', .int .u8 c] w fun e w' => e = .returned (.bool true) ∧ Below w.heap.size w w' := by
  have HS : Hid (Sg A w) := hS
  have HE : Hid (W.encE i = n + 1) := he
  clear hS he
  unfold inV
  go_enter Tryz.func5, Tryz.ntmps5
  go_wp2_with fail
  have hb0 : Below w.heap.size w (w.alloc (.cells #[.int .i64 i.op, .int .i64 i.rd, .int .i64 i.rs1, .int .i64 i.rs2, .int .i64 i.csr, .int .u32 i.imm, .bool i.aq, .bool i.rl] 24)) := (Below.refl _ _).alloc (Nat.le_refl _) _
  have hA0 := InAt.start w i 24
  generalize World.alloc w _ = w0 at *
  refine (first5_any A w0 (HS.out.below hb0)).mono ?_
  rintro e w1 ⟨rfl, hb1⟩
  have hbl1 : Below w.heap.size w w1 := hb0.trans (hb1.mono hb0.size)
  obtain ⟨z0, z1, z2, z3, z4, z5, z6, z7⟩ := hA0.below hb1
  go_wp2_with (go_at_call 9; refine (print_no A i _ n _ (HS.out.below hbl1) HE.out rfl).mono ?_; rintro e w2 ⟨rfl, hb2⟩; unfold errV)
  go_ret
  exact ⟨rfl, hbl1.trans (hb2.mono hbl1.size)⟩

theorem eq_inst (i j : W.I) (h : i.op = j.op ∧ i.rd = j.rd ∧ i.rs1 = j.rs1 ∧ i.rs2 = j.rs2 ∧ i.csr = j.csr ∧ i.imm = j.imm ∧ i.aq = j.aq ∧ i.rl = j.rl) : i = j := by
  cases i; cases j; simp_all
end Go.Proofs.YtmihcicepgjogaaGreatDoor

/- No instruction's text has a needless sign, or a needless zero. -/
namespace Go.Proofs.YtmihcicepgjogaaGreatDoor
open Go.ChangeShapes Go.WideShapes Go.ChangeAt Go.RowKit
set_option linter.unusedVariables false
set_option linter.unusedSimpArgs false

namespace W
/-- An instruction's text up to its parts. -/
def headL (op : Int) (a r : Bool) : List UInt8 := nm op ++ ((bif a then [46, 97, 113] else []) ++ ((bif r then [46, 114, 108] else []) ++ spL (form op)))
theorem head_of (i : I) : textL i = headL i.op i.aq i.rl ++ restL i (form i.op) := by
  unfold textL headL aqL rlL
  simp only [List.append_assoc]
set_option maxRecDepth 100000 in
theorem head_addi : ((List.range 70).all fun k => k == 0 || k == 19 || [true, false].all fun a => [true, false].all fun r => !((headL (k : Int) a r).isPrefixOf [97, 100, 100, 105, 32]) && !([97, 100, 100, 105, 32].isPrefixOf (headL (k : Int) a r))) = true := by decide +kernel
theorem split44 : ∀ (a b u v : List UInt8), (44 : UInt8) ∉ a → (44 : UInt8) ∉ b → a ++ 44 :: u = b ++ 44 :: v → u = v
  | [], [], u, v, _, _, h => by simpa using h
  | [], y :: b, u, v, _, h2, h => by simp at h; exact absurd (by simp [h.1]) h2
  | x :: a, [], u, v, h1, _, h => by simp at h; exact absurd (by simp [h.1]) h1
  | x :: a, y :: b, u, v, h1, h2, h => by
    simp only [List.cons_append, List.cons.injEq] at h
    exact split44 a b u v (fun hh => h1 (List.mem_cons_of_mem _ hh)) (fun hh => h2 (List.mem_cons_of_mem _ hh)) h.2
theorem dec44 (u : Nat) : (44 : UInt8) ∉ Lib.decDigits u := fun h => by
  have := (dec_all u).1 44 h
  unfold dig at this
  revert this
  decide
theorem op_addi (i : I) (hk : known i.op = true) (Y : List UInt8) (h : textL i = [97, 100, 100, 105, 32] ++ Y) : i.op = 19 := by
  simp [known, fr] at hk
  obtain ⟨k, hk'⟩ : ∃ k : Nat, i.op = (k : Int) := ⟨i.op.toNat, by omega⟩
  have hc := List.all_eq_true.1 head_addi k (by simp; omega)
  rw [head_of] at h
  have p1 : [97, 100, 100, 105, 32] <+: headL i.op i.aq i.rl ++ restL i (form i.op) := ⟨Y, h.symm⟩
  have p2 : headL i.op i.aq i.rl <+: headL i.op i.aq i.rl ++ restL i (form i.op) := ⟨_, rfl⟩
  rcases Nat.lt_or_ge 0 k with h0 | h0
  · by_cases h19 : k = 19
    · omega
    · rw [Bool.or_eq_true, Bool.or_eq_true] at hc
      rcases hc with (hc | hc) | hc
      · simp at hc; omega
      · simp at hc; omega
      · have hc1 := List.all_eq_true.1 hc i.aq (by cases i.aq <;> simp)
        have hc2 := List.all_eq_true.1 hc1 i.rl (by cases i.rl <;> simp)
        rw [← hk', Bool.and_eq_true, Bool.not_eq_true', Bool.not_eq_true'] at hc2
        rcases List.prefix_or_prefix_of_prefix p1 p2 with q | q
        · rw [List.isPrefixOf_iff_prefix.2 q] at hc2
          cases hc2.2
        · rw [List.isPrefixOf_iff_prefix.2 q] at hc2
          cases hc2.1
  · omega
theorem restL_nil (i : I) : restL i [] = [] := rfl
theorem rest_btw (i : I) (c : UInt8) (r : List UInt8) (h : btw c.toNat = true) : restL i (c :: r) = c :: restL i r := by
  have e : restL i (c :: r) = (bif btw c.toNat then [c] else partL i c.toNat) ++ restL i r := rfl
  rw [e, h]; rfl
theorem rest_part (i : I) (c : UInt8) (r : List UInt8) (n : Nat) (hn : c.toNat = n) (h : btw n = false) : restL i (c :: r) = partL i n ++ restL i r := by
  have e : restL i (c :: r) = (bif btw c.toNat then [c] else partL i c.toNat) ++ restL i r := rfl
  rw [e, hn, h]; rfl
theorem form19 : form 19 = [100, 44, 32, 49, 44, 32, 105] := by decide +kernel
theorem nm19 : nm 19 = [97, 100, 100, 105] := by decide +kernel
theorem sp19 : spL (form 19) = [32] := by decide +kernel
theorem rest_addi (i : I) (he : encE i = 0) (X : List UInt8) (h : textL i = [97, 100, 100, 105, 32, 120, 51, 49, 44, 32, 120, 49, 48, 44, 32] ++ X) : X = Lib.itoa (wrap32 i.imm) := by
  have hz := encE_zero he
  have ho := op_addi i hz.1 ([120, 51, 49, 44, 32, 120, 49, 48, 44, 32] ++ X) h
  have hf := form19
  have hn := nm19
  have hsp := sp19
  have hrest : restL i (form 19) = regL i.rd.toNat ++ 44 :: (32 :: (regL i.rs1.toNat ++ 44 :: (32 :: Lib.itoa (wrap32 i.imm)))) := by
    rw [hf, rest_part i 100 _ 100 rfl rfl, rest_btw i 44 _ rfl, rest_btw i 32 _ rfl, rest_part i 49 _ 49 rfl rfl, rest_btw i 44 _ rfl, rest_btw i 32 _ rfl, rest_part i 105 _ 105 rfl rfl, partL_100, partL_49, partL_105, restL_nil, List.append_nil]
  unfold textL at h
  rw [ho, hn, hsp, hrest] at h
  have haq : aqL i = [] := by
    unfold aqL at h ⊢
    cases hq : i.aq
    · rfl
    · rw [hq] at h
      simp at h
  have hrl : rlL i = [] := by
    unfold rlL at h ⊢
    rw [haq] at h
    cases hq : i.rl
    · rfl
    · rw [hq] at h
      simp at h
  rw [haq, hrl] at h
  unfold regL at h
  simp only [List.nil_append, List.cons_append, List.cons.injEq, true_and] at h
  have h1 := split44 (Lib.decDigits i.rd.toNat) [51, 49] _ (32 :: 120 :: 49 :: 48 :: 44 :: 32 :: X) (dec44 _) (by decide) h
  simp only [List.cons.injEq, true_and] at h1
  have h2 := split44 (Lib.decDigits i.rs1.toNat) [49, 48] _ (32 :: X) (dec44 _) (by decide) h1
  simp only [List.cons.injEq, true_and] at h2
  exact h2.symm
theorem itoa_head (v : Int) : ∃ c r, Lib.itoa v = c :: r ∧ c ≠ 43 ∧ (c = 48 → r = []) := by
  unfold Lib.itoa
  split
  · exact ⟨45, _, rfl, by decide, fun h => absurd h (by decide)⟩
  · obtain ⟨h1, _, h3, h4⟩ := dec_all v.toNat
    by_cases h0 : v.toNat = 0
    · rw [h0, Lib.decDigits_one (by decide)]
      exact ⟨_, _, rfl, by decide, fun _ => rfl⟩
    · obtain ⟨c, r, e, hc⟩ := h4 h0
      refine ⟨c, r, e, ?_, ?_⟩
      · rintro rfl
        have := h1 43 (by rw [e]; simp)
        unfold dig at this
        revert this
        decide
      · rintro rfl
        exact absurd rfl hc
theorem no_plus (i : I) (he : encE i = 0) (Z : List UInt8) : textL i ≠ [97, 100, 100, 105, 32, 120, 51, 49, 44, 32, 120, 49, 48, 44, 32] ++ 43 :: Z := fun h => by
  obtain ⟨c, r, e, h1, h2⟩ := itoa_head (wrap32 i.imm)
  have := (rest_addi i he _ h).trans e
  simp only [List.cons.injEq] at this
  exact h1 this.1.symm
theorem no_zero (i : I) (he : encE i = 0) (u : Nat) : textL i ≠ [97, 100, 100, 105, 32, 120, 51, 49, 44, 32, 120, 49, 48, 44, 32] ++ 48 :: Lib.decDigits u := fun h => by
  obtain ⟨c, r, e, h1, h2⟩ := itoa_head (wrap32 i.imm)
  have := (rest_addi i he _ h).trans e
  simp only [List.cons.injEq] at this
  exact (dec_all u).2.2.1 (this.2.trans (h2 this.1.symm))
end W
theorem parse_plus (A : Nat → Addr) (Z : List UInt8) (hZ : Z.length ≤ 900) : Parses A ([97, 100, 100, 105, 32, 120, 51, 49, 44, 32, 120, 49, 48, 44, 32] ++ 43 :: Z) ⟨0, 0, 0, 0, 0, 0, false, false⟩ 6 := by
  rcases parse_cls A ([97, 100, 100, 105, 32, 120, 51, 49, 44, 32, 120, 49, 48, 44, 32] ++ 43 :: Z) (by simp; omega) with ⟨i, h1, _, h3, _⟩ | h
  · exact absurd h3 (W.no_plus i h1 Z)
  · exact h
theorem parse_zero (A : Nat → Addr) (u : Nat) (hu : u < 4294967296) : Parses A ([97, 100, 100, 105, 32, 120, 51, 49, 44, 32, 120, 49, 48, 44, 32] ++ 48 :: Lib.decDigits u) ⟨0, 0, 0, 0, 0, 0, false, false⟩ 6 := by
  have := dec_len u (by omega)
  rcases parse_cls A ([97, 100, 100, 105, 32, 120, 51, 49, 44, 32, 120, 49, 48, 44, 32] ++ 48 :: Lib.decDigits u) (by simp; omega) with ⟨i, h1, _, h3, _⟩ | h
  · exact absurd h3 (W.no_zero i h1 u)
  · exact h
end Go.Proofs.YtmihcicepgjogaaGreatDoor
