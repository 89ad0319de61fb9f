/- What Ops returns. -/
import Derived.Test.YtheajilopplchaaDoorFirst
import Derived.Test.YtheajilopplchaaDoorNameOf
import Derived.WalkSpells
namespace Go.Proofs.YtheajilopplchaaDoor
open Go.ChangeShapes Go.WideShapes Go.ChangeAt Go.RowKit
set_option linter.unusedVariables false
set_option linter.unusedSimpArgs false

theorem infoI : (Tryd.prog.info? 3).map (fun i => (i.zero, i.size, i.bytes)) = some (some (.int .i64 0), 1, 8) := by kernel_rfl
def ocells (j : Nat) : List Value := (List.range j).map fun (k : Nat) => .int .i64 (1 + (k : Int))
theorem add_off (g n : Nat) : (⟨g, 0, none⟩ : Addr).add n = ⟨g, 0 + n, none⟩ := by
  unfold Addr.add
  split
  · simp
  · rfl
theorem one_new (w : World) (t : TypeId) (a : Value) : ∀ j u, [a][j]? = some u → (w.alloc (.cells #[a] t)).cell? ((⟨w.heap.size, 0, none⟩ : Addr).add j) = some u := by
  intro j u h
  match j, h with
  | 0, h => simp at h; subst h; simp [go_sem, Addr.add]

/-- A list of all instructions from the n-th on, in a block of its own that may be written. -/
structure Ol (g m n : Nat) (wc : World) : Prop where
  held : ∃ c t, wc.heap[g]? = some (.cells c t (0, 0)) ∧ c.size = m
  room : 69 ≤ m
  top : m ≤ maxLen
  cells : ∀ j, n ≤ j → j < 69 → wc.cell? ⟨g, j, none⟩ = some (.int .i64 (1 + (j : Int)))
theorem Ol.lt {g m n : Nat} {wc : World} (h : Ol g m n wc) : g < wc.heap.size := by
  obtain ⟨c, t, hc, _⟩ := h.held
  exact (Array.getElem?_eq_some_iff.1 hc).1
theorem Ol.below {g m n : Nat} {a b : World} (h : Ol g m n a) (hm : Below a.heap.size a b) : Ol g m n b := by
  obtain ⟨c, t, hc, hs⟩ := h.held
  exact ⟨⟨c, t, (hm.block _ h.lt).trans hc, hs⟩, h.room, h.top, fun j h1 h2 => (hm.cell h.lt).trans (h.cells j h1 h2)⟩

set_option maxHeartbeats 800000 in
set_option maxRecDepth 100000 in
theorem ops_any (w : World) :
    Calls Tryd.prog 23 #[] w fun e w' => (∃ g m, e = .returned (.slice (some ⟨g, 0, none⟩) 69 m) ∧ w.heap.size ≤ g ∧ Ol g m 0 w') ∧ Below w.heap.size w w' := by
  obtain ⟨i0, hi, hx⟩ := Option.map_eq_some_iff.1 infoI
  simp only [Prod.mk.injEq] at hx
  obtain ⟨hz0, hz1, hz2⟩ := hx
  go_enter Tryd.func23, Tryd.ntmps23
  go_wp2
  go_loopw [1, 2] (fun v i wr => ∃ j : Nat, j ≤ 69 ∧ i = .int .i64 (1 + j) ∧ wr.ownsRow w.heap.size 3 1 v j (ocells j) ∧ Below w.heap.size w wr) (fun _ i _ => (70 - intOf i).toNat)
  case atStart => exact ⟨0, by omega, rfl, World.ownsRow_nil _ _ _ _, Below.refl _ _⟩
  case round =>
    obtain ⟨j, hj, rfl, hown, hbl⟩ := hrel
    have hsz := hbl.size
    by_cases hlt : j < 69
    · go_wp2_with (first
        | (at_builtin; refine wpList_append_own _ rfl _ _ 49 rfl w.heap.size 3 i0 (.int .i64 0) 1 8 Tryd.underlying49 hi hz0 hz1 hz2 rfl (by decide) _ j (ocells j) rfl ?c1 ⟨wr.heap.size, 0, none⟩ 1 1 [.int .i64 (1 + j)] rfl rfl ?c2 ?c3 ?c4 ?c5 ?c6 ?_))
      case c1 => exact World.ownsRow.alloc (w := wr) hown _
      case c2 => exact one_new wr _ _
      case c3 => intro u hu; simp at hu; subst hu; rfl
      case c4 => unfold maxLen; omega
      case c5 => omega
      case c6 => simp; omega
      intro v' w2 hown' hg _
      have hb2 : Below w.heap.size w w2 := Below.grown (hbl.alloc (by omega) _) hg (by simp; omega) (fun b hb => (hown.lt b hb).1)
      have hc : ocells j ++ [.int .i64 (1 + (j : Int))] = ocells (j + 1) := by simp [ocells, List.range_succ]
      rw [hc] at hown'
      have X : Hid (w2.ownsRow w.heap.size 3 1 v' (j + 1) (ocells (j + 1)) ∧ Below w.heap.size w w2) := ⟨hown', hb2⟩
      clear hown' hg hb2
      go_wp2
      go_roundw
      case rel => exact ⟨j + 1, by omega, by go_num, X.out.1, X.out.2⟩
      case measure => simp [intOf]; omega
    · have hj32 : j = 69 := by omega
      subst hj32
      have hcells := fun g h => hown.cells (g := g) h
      rcases hown.2 with ⟨_, h32⟩ | ⟨g, cap, cur, rfl, hg, hh, hcap, hmax, hcur, htake⟩
      · omega
      have hcl := hcells g rfl
      have X : Hid (w.heap.size ≤ g ∧ Ol g cap 0 wr ∧ Below w.heap.size w wr) := ⟨hg, ⟨⟨cur, _, hh, by omega⟩, hcap, hmax, fun j _ hj => by
        have := hcl j (.int .i64 (1 + (j : Int))) (by simp [ocells, hj])
        rwa [add_off, Nat.zero_add] at this⟩, hbl⟩
      clear hown hh hcur htake hcells hcl hbl
      go_wp2
      go_ret
      exact ⟨⟨g, cap, rfl, X.out.1, X.out.2.1⟩, X.out.2.2⟩

end Go.Proofs.YtheajilopplchaaDoor
