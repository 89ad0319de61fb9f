/- The document's copy of numbers: where it lies. -/
import Derived.Test.YtbppeehhohdfiaaPpoIs
import Derived.Deep.DeepAppendRoom
import Derived.Deep.AppendLies
namespace Go.Proofs.Ytbppeehhohdfiaa
open Go.ChangeShapes Go.WideShapes Go.ChangeAt Go.RowKit
set_option linter.unusedVariables false
set_option linter.unusedSimpArgs false

namespace Cc
theorem infoInt : (Try.prog.info? 3).map (fun i => (i.zero, i.size, i.bytes)) = some (some (.int .i64 0), 1, 8) := by kernel_rfl
theorem news_int (x : Int) (w : World) : ∀ j u, [Value.int .i64 x][j]? = some u → (w.alloc (.cells #[.int .i64 x] 3)).cell? ((⟨w.heap.size, 0, none⟩ : Addr).add j) = some u := World.news_of_block (cs := #[.int .i64 x]) (heap_alloc_last w _)
theorem make_0n (n : Nat) (hn : n ≤ 8192) (w : World) : (Instr.makeSlice 28 (.int .i64 0) (.int .i64 (n : Int))).run Try.prog w = .ok (.slice (some ⟨w.heap.size, 0, none⟩) 0 n) (w.alloc (.cells (madeCells #[.int .i64 0] n) 3)) := by
  obtain ⟨i, hi, hzz⟩ := Option.map_eq_some_iff.1 infoInt
  simp only [Prod.mk.injEq] at hzz
  obtain ⟨hz, hs, hb⟩ := hzz
  have hr := run_make (P := Try.prog) w 28 3 i _ Try.underlying28 hi hz .i64 .i64 0 n (by omega) (by omega) (by rw [hb]; omega) (by omega)
  simp only [Int.toNat_natCast, hs, Nat.mul_one] at hr
  exact hr
theorem own_0n (n : Nat) (hn : n ≤ 8192) (w : World) : (w.alloc (.cells (madeCells #[.int .i64 0] n) 3)).ownsRow w.heap.size 3 1 (.slice (some ⟨w.heap.size, 0, none⟩) 0 n) 0 (intsL []) :=
  ⟨rfl, .inr ⟨w.heap.size, n, madeCells #[.int .i64 0] n, rfl, Nat.le_refl _, heap_alloc_last w _, Nat.zero_le _, by unfold maxLen; omega, by rw [size_madeCells]; omega, by simp [intsL]⟩⟩
theorem intsL_snoc (l : List Int) (x : Int) : intsL (l ++ [x]) = intsL l ++ [.int .i64 x] := by unfold intsL; rw [List.map_append]; rfl
end Cc
set_option maxHeartbeats 1600000 in
theorem ints_new (s : W.Sl) (l : List Int) (w : World) (h : Li s l w) : Calls Try.prog 19 #[slV s] w fun e w' => e = .returned (.slice (some ⟨w.heap.size, 0, none⟩) l.length l.length) ∧ Li ⟨some ⟨w.heap.size, 0, none⟩, l.length, l.length⟩ l w' ∧ w.heap.size < w'.heap.size ∧ Below w.heap.size w w' := by
  obtain ⟨it, ht, hyy⟩ := Option.map_eq_some_iff.1 Cc.infoInt
  simp only [Prod.mk.injEq] at hyy
  obtain ⟨hy0, hy1, hy2⟩ := hyy
  have sn := h.n
  have sm := h.m
  obtain ⟨a, n, c⟩ := s
  dsimp only at sn sm
  subst sn
  have hmk := Cc.make_0n l.length (by omega) w
  have O0 := Cc.own_0n l.length (by omega) w
  have B0 : Below w.heap.size w (w.alloc (.cells (madeCells #[.int .i64 0] l.length) 3)) := (Below.refl _ _).alloc (Nat.le_refl _) _
  generalize w.alloc _ = W1 at *
  have HH : Hid (_ ∧ _ ∧ _) := ⟨O0, B0, h⟩
  clear O0 B0 h
  unfold slV
  dsimp only
  go_enter Try.func19, Try.ntmps19
  go_wp2
  go_loopw [3, 4] (fun v i wr => ∃ j : Nat, j ≤ l.length ∧ i = .int .i64 (j : Int) ∧ v = .slice (some ⟨w.heap.size, 0, none⟩) j l.length ∧ wr.ownsRow w.heap.size 3 1 v j (intsL (l.take j)) ∧ Below w.heap.size w wr) (fun _ i _ => l.length - (intOf i).toNat)
  case atStart => exact ⟨0, by omega, rfl, rfl, by rw [List.take_zero]; exact HH.out.1, HH.out.2.1⟩
  case round =>
    clear hmk
    obtain ⟨j, hj, rfl, rfl, hown, hbl⟩ := hrel
    by_cases hlt : j < l.length
    · obtain ⟨gb, go, rfl, gl0, gc⟩ := HH.out.2.2.at_ (by show 0 < l.length; omega)
      have g0 := (hbl.cell (p := ⟨gb, go + j, none⟩) gl0).trans (gc j l[j] (List.getElem?_eq_getElem hlt))
      have gl : gb < wr.heap.size := Nat.lt_of_lt_of_le gl0 hbl.size
      have hT : l.take (j + 1) = l.take j ++ [l[j]] := List.take_succ_eq_append_getElem hlt
      have hjn : (j : Int) < (l.length : Int) := by omega
      generalize l[j] = x at *
      have n7 := Cc.news_int x wr
      have d6 : w.heap.size ≤ (wr.alloc (.cells #[.int .i64 x] 3)).heap.size := by have := hbl.size; simp; omega
      have d3 : ∀ u ∈ [Value.int .i64 x], u.oneCell' = true := by intro u hu; simp at hu; rw [hu]; rfl
      have HN : Hid (_ ∧ _ ∧ _ ∧ _ ∧ _ ∧ _) := ⟨n7, d6, d3, hown, hbl, hT⟩
      clear n7 d6 d3 hown hbl hT gc
      go_wp2_with (at_builtin; refine wpList_append_own_spare _ rfl _ _ 28 rfl w.heap.size 3 it 1 Try.underlying28 ht hy1 w.heap.size j l.length (intsL (l.take j)) rfl (HN.out.2.2.2.1.alloc _) ⟨wr.heap.size, 0, none⟩ 1 1 [.int .i64 x] rfl rfl HN.out.1 HN.out.2.2.1 (by omega) ?_)
      intro w6 own6 hg6
      have b6 : Below w.heap.size w w6 := Below.grown (HN.out.2.2.2.2.1.alloc HN.out.2.2.2.2.1.size _) hg6 HN.out.2.1 (fun b hb => (HN.out.2.2.2.1.lt b hb).1)
      have X : Hid (w6.ownsRow w.heap.size 3 1 (.slice (some ⟨w.heap.size, 0, none⟩) (j + 1) l.length) (j + 1) (intsL (l.take (j + 1))) ∧ Below w.heap.size w w6) := ⟨by rw [HN.out.2.2.2.2.2, Cc.intsL_snoc]; exact own6, b6⟩
      clear own6 hg6 b6 HN
      go_wp2
      go_roundw
      case rel => exact ⟨j + 1, by omega, by go_num, rfl, X.out.1, X.out.2⟩
      case measure => simp [intOf]; omega
    · have e : j = l.length := by omega
      subst e
      rw [List.take_length] at hown
      obtain ⟨t, ht2, hL, hta⟩ := own_li hown (by omega)
      have hsz : w.heap.size < wr.heap.size := (hown.lt w.heap.size rfl).2
      obtain ⟨ta, tn, tc⟩ := t
      unfold slV at ht2
      simp only [Value.slice.injEq] at ht2
      obtain ⟨rfl, rfl, rfl⟩ := ht2
      have HX : Hid (_ ∧ _ ∧ _) := ⟨hL, hsz, hbl⟩
      clear hL hta hbl hown hsz
      go_wp2
      go_ret
      exact ⟨rfl, HX.out⟩
end Go.Proofs.Ytbppeehhohdfiaa
