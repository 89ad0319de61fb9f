/- Clone of package mem. -/
import Derived.Test.YtjdiepklgcdamaaDoorMemG
import Derived.Lib.Walk
namespace Go.Proofs.YtjdiepklgcdamaaDoor
open Go.ChangeShapes Go.WideShapes Go.ChangeAt Go.RowKit
set_option linter.unusedVariables false
set_option linter.unusedSimpArgs false

def wordsL (f : Nat → Int) (m : Nat) : List Value := (List.range m).map fun j => .int .u32 (f j)
theorem wordsL_get (f : Nat → Int) (m j : Nat) : (wordsL f m)[j]? = if j < m then some (.int .u32 (f j)) else none := by
  unfold wordsL
  rw [List.getElem?_map]
  by_cases h : j < m
  · rw [List.getElem?_range h, if_pos h]; rfl
  · rw [if_neg h, List.getElem?_eq_none (by simp; omega)]; rfl

set_option maxHeartbeats 1600000 in
theorem sclone_any (b c n cap : Nat) (f : Nat → Int) (w : World) (h : MAt b c n cap f w) : Calls Tryd.prog 33 #[.slice (some ⟨c, 0, none⟩) n cap] w fun e w' => ∃ c' cap', e = .returned (.slice (some ⟨c', 0, none⟩) n cap') ∧ w.heap.size ≤ c' ∧ c' < w'.heap.size ∧ (∃ cs : Array Value, w'.heap[c']? = some (.cells cs 38) ∧ n * 4 ≤ cs.size ∧ ∀ j, j < n * 4 → cs[j]? = some (.int .u32 (f j))) ∧ Below w.heap.size w w' := by
  have n1 := h.n1
  have n2 := h.n2
  have hw := h.word
  obtain ⟨i, hi, hzz⟩ := Option.map_eq_some_iff.1 (show (Tryd.prog.info? 38).map (fun i => (i.zero, i.size, i.bytes)) = some (some (.agg #[.int .u32 0, .int .u32 0, .int .u32 0, .int .u32 0]), 4, 16) by kernel_rfl)
  simp only [Prod.mk.injEq] at hzz
  obtain ⟨hz0, hz1, hz2⟩ := hzz
  have q : ∀ (w : World) (a : Option Addr) (n c n' c' : Nat), (binOp .eql 63 (.slice a n c) (.slice none n' c')).run Tryd.prog w = .ok (.bool a.isNone) w := fun w a n c n' c' => Lib.run_eql_slice_nil w _ _ a n c n' c' Tryd.underlying63
  have A : Hid (∀ j, j < n * 4 → w.cell? ⟨c, j, none⟩ = some (.int .u32 (f j))) := hw
  clear hw h
  go_enter Tryd.func33, Tryd.ntmps33
  go_wp2_with (at_builtin; refine wpList_append_own _ rfl _ _ 63 rfl w.heap.size 38 i (.agg #[.int .u32 0, .int .u32 0, .int .u32 0, .int .u32 0]) 4 16 Tryd.underlying63 hi hz0 hz1 hz2 rfl (by decide) _ _ _ rfl (World.ownsRow_made w #[] 0 (Nat.le_refl _) (Nat.zero_le _) rfl) ⟨c, 0, none⟩ n cap (wordsL f (n * 4)) rfl ?qc1 ?qc2 ?qc3 ?qc4 ?qc5 ?qc6 ?_)
  case qc1 => simp [wordsL]
  case qc2 =>
    intro j u hj
    rw [wordsL_get] at hj
    split at hj
    · rename_i hlt
      rw [Addr.add_lit]
      refine Lib.cell?_alloc_some _ ?_
      rw [Nat.zero_add, A.out j hlt]
      exact hj
    · cases hj
  case qc3 => intro u hu; obtain ⟨x, _, rfl⟩ := List.mem_map.1 hu; rfl
  case qc4 => unfold maxLen; omega
  case qc5 => omega
  case qc6 => simp
  intro v' w1 hown hgrow hnil
  go_wp2
  go_ret
  have hB : Below w.heap.size w w1 := ((Below.refl _ w).alloc (Nat.le_refl _) _).grown hgrow (by simp) (by intro k hk; simp [Value.ownBlock] at hk; omega)
  rcases hown.2 with ⟨rfl, e0⟩ | ⟨g, cp, cur, rfl, hg, hh, hnc, hcm, hcs, htk⟩
  · omega
  · refine ⟨g, cp, by simp, hg, (Array.getElem?_eq_some_iff.1 hh).1, ⟨cur, hh, by rw [hcs]; omega, ?_⟩, hB⟩
    intro j hj
    have e : (cur.toList.take (n * 4))[j]? = some (.int .u32 (f j)) := by
      rw [htk, wordsL_get, if_pos hj]
    rw [List.getElem?_take_of_lt hj] at e
    simpa using e

theorem clone_any (b c n cap : Nat) (f : Nat → Int) (w : World) (h : MAt b c n cap f w) : Calls Tryd.prog 13 #[.pointer (some ⟨b, 0, none⟩)] w fun e w' => ∃ b' c' cap', e = .returned (.pointer (some ⟨b', 0, none⟩)) ∧ MAt b' c' n cap' f w' ∧ w.heap.size ≤ b' ∧ w.heap.size ≤ c' ∧ Below w.heap.size w w' := by
  have hd := h.head
  go_enter Tryd.func13, Tryd.ntmps13
  go_wp2_with fail
  refine (sclone_any b c n cap f w h).mono ?_
  rintro e w1 ⟨c', cap', rfl, k1, k2, ⟨cs, k3, k4, k5⟩, hB⟩
  go_wp2
  go_ret
  exact ⟨w1.heap.size, c', cap', rfl, ⟨heap_alloc_new w1 _, ⟨cs, (((Below.refl w1.heap.size w1).alloc (Nat.le_refl _) _).block c' k2).trans k3, k4, k5⟩, by omega, h.n1, h.n2, h.rg⟩, hB.size, k1, hB.alloc hB.size _⟩
end Go.Proofs.YtjdiepklgcdamaaDoor
