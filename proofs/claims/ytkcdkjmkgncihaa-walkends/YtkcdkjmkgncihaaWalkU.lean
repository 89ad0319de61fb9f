/- The document's copy of words. -/
import Derived.Test.YtkcdkjmkgncihaaWalkH
import Derived.Lib.Walk
namespace Go.Proofs.Ytkcdkjmkgncihaa
open Go.ChangeShapes Go.WideShapes Go.ChangeAt Go.RowKit
set_option linter.unusedVariables false
set_option linter.unusedSimpArgs false

def wordsL (f : Nat → Int) (m : Nat) : List Value := (List.range m).map fun j => .int .u32 (f j)
theorem wordsL_get (f : Nat → Int) (m j : Nat) : (wordsL f m)[j]? = if j < m then some (.int .u32 (f j)) else none := by
  unfold wordsL
  rw [List.getElem?_map]
  by_cases h : j < m
  · rw [List.getElem?_range h, if_pos h]; rfl
  · rw [if_neg h, List.getElem?_eq_none (by simp; omega)]; rfl
theorem wordsL_succ (f : Nat → Int) (m : Nat) : wordsL f (m + 1) = wordsL f m ++ [.int .u32 (f m)] := by
  unfold wordsL
  rw [List.range_succ, List.map_append]
  rfl

theorem make_words (n : Nat) (hn : n ≤ 64) (w : World) : (Instr.makeSlice 22 (.int .i64 0) (.int .i64 (n : Int))).run Try.prog w = .ok (.slice (some ⟨w.heap.size, 0, none⟩) 0 n) (w.alloc (.cells (madeCells #[.int .u32 0] n) 23)) := by
  obtain ⟨i, hi, hzz⟩ := Option.map_eq_some_iff.1 (show (Try.prog.info? 23).map (fun i => (i.zero, i.size, i.bytes)) = some (some (.int .u32 0), 1, 4) by kernel_rfl)
  simp only [Prod.mk.injEq] at hzz
  obtain ⟨hz, hs, hb⟩ := hzz
  have hr := run_make (P := Try.prog) w 22 23 i _ Try.underlying22 hi hz .i64 .i64 0 n (by omega) (by omega) (by rw [hb]; omega) (by omega)
  simp only [Int.toNat_natCast, hs, Nat.mul_one] at hr
  exact hr

set_option maxHeartbeats 1600000 in
theorem words_any (a : Option Addr) (n cap b off : Nat) (u : Nat → Int) (w : World) (hm : n ≤ 64) (hb : 0 < n → a = some ⟨b, off, none⟩ ∧ b < w.heap.size) (hc : ∀ j, j < n → w.cell? ⟨b, off + j, none⟩ = some (.int .u32 (u j))) :
    Calls Try.prog 8 #[.slice a n cap] w fun e w' => ∃ v, e = .returned v ∧ w'.ownsRow w.heap.size 23 1 v n (wordsL u n) ∧ Below w.heap.size w w' := by
  obtain ⟨i0, hi, hx⟩ := Option.map_eq_some_iff.1 (show (Try.prog.info? 23).map (fun i => (i.zero, i.size, i.bytes)) = some (some (.int .u32 0), 1, 4) by kernel_rfl)
  simp only [Prod.mk.injEq] at hx
  obtain ⟨hz0, hz1, hz2⟩ := hx
  have hmk := make_words n hm
  have hsz : (madeCells #[Value.int IntKind.u32 0] n).size = n * 1 := by rw [Nat.mul_one]; exact size_madeCells _ _
  generalize hMC : madeCells #[Value.int IntKind.u32 0] n = MC at *
  go_enter Try.func8, Try.ntmps8
  go_wp2
  have hown0 := World.ownsRow_made (base := w.heap.size) (e := 23) (size := 1) w MC n (Nat.le_refl _) (by unfold maxLen; omega) hsz
  have hbl0 : Below w.heap.size w (w.alloc (.cells MC 23)) := (Below.refl _ _).alloc (Nat.le_refl _) _
  clear hmk hMC hsz
  generalize World.alloc w (.cells MC 23) = W0 at *
  go_loopw [3, 4] (fun v i wr => ∃ j : Nat, j ≤ n ∧ i = .int .i64 j ∧ wr.ownsRow w.heap.size 23 1 v j (wordsL u j) ∧ Below w.heap.size w wr) (fun _ i _ => n - (intOf i).toNat)
  case atStart => exact ⟨0, by omega, rfl, hown0, hbl0⟩
  case round =>
    obtain ⟨j, hj, rfl, hown, hbl⟩ := hrel
    clear hown0 hbl0
    have hsz := hbl.size
    by_cases hlt : j < n
    · obtain ⟨rfl, hbb⟩ := hb (by omega)
      have g0 : wr.cell? ⟨b, off + j, none⟩ = some (.int .u32 (u j)) := (hbl.cell (by exact hbb)).trans (hc j hlt)
      clear hc hb
      go_wp2_with (at_builtin; refine wpList_append_own _ rfl _ _ 22 rfl w.heap.size 23 i0 (.int .u32 0) 1 4 Try.underlying22 hi hz0 hz1 hz2 rfl (by decide) _ j (wordsL u j) rfl ?c1 ⟨wr.heap.size, 0, none⟩ 1 1 [.int .u32 (u j)] rfl rfl ?c2 ?c3 ?c4 ?c5 ?c6 ?_)
      case c1 => exact hown.alloc _
      case c2 =>
        intro k x hk
        match k, hk with
        | 0, hk => simp at hk; subst hk; simp [go_sem, Addr.add]
      case c3 => intro x hx; simp at hx; subst hx; rfl
      case c4 => unfold maxLen; omega
      case c5 => omega
      case c6 => simp; omega
      intro v' w2 hown' hg _
      have hb2 : Below w.heap.size w w2 := Below.grown (hbl.alloc (by omega) _) hg (by simp; omega) (fun b hb => (hown.lt b hb).1)
      have X : Hid (w2.ownsRow w.heap.size 23 1 v' (j + 1) (wordsL u (j + 1)) ∧ Below w.heap.size w w2) := ⟨by rw [wordsL_succ]; exact hown', hb2⟩
      clear hown' hg hb2
      go_wp2
      go_roundw
      case rel => exact ⟨j + 1, by omega, by go_num, X.out.1, X.out.2⟩
      case measure => simp [intOf]; omega
    · obtain rfl : j = n := by omega
      go_wp2
      go_ret
      exact ⟨_, rfl, hown, hbl⟩
end Go.Proofs.Ytkcdkjmkgncihaa
