/- WalkEnds: what stands ahead of the loop. -/
import Derived.Test.YtkcdkjmkgncihaaWalkU
import Derived.Test.YtkcdkjmkgncihaaWalkN
import Derived.Deep.RegionWith
namespace Go.Proofs.Ytkcdkjmkgncihaa
open Go.ChangeShapes Go.WideShapes Go.ChangeAt Go.RowKit
set_option linter.unusedVariables false
set_option linter.unusedSimpArgs false

/-- A copy of the words u. -/
def Mw (am : Option Addr) (n : Nat) (u : Nat → Int) (w : World) : Prop := 0 < n → ∃ g, am = some ⟨g, 0, none⟩ ∧ g < w.heap.size ∧ ∀ j, j < n → w.cell? ⟨g, j, none⟩ = some (.int .u32 (u j))
theorem Mw.below {am : Option Addr} {n : Nat} {u : Nat → Int} {w w' : World} (h : Mw am n u w) (hb : Below w.heap.size w w') : Mw am n u w' := fun hn => by
  obtain ⟨g, e, hl, hc⟩ := h hn
  exact ⟨g, e, Nat.lt_of_lt_of_le hl hb.size, fun j hj => (hb.cell hl).trans (hc j hj)⟩
theorem words_res (a : Option Addr) (n cap b off : Nat) (u : Nat → Int) (w : World) (hm : n ≤ 64) (hb : 0 < n → a = some ⟨b, off, none⟩ ∧ b < w.heap.size) (hc : ∀ j, j < n → w.cell? ⟨b, off + j, none⟩ = some (.int .u32 (u j))) :
    Calls Try.prog 8 #[.slice a n cap] w fun e w' => ∃ am cm, e = .returned (.slice am n cm) ∧ Mw am n u w' ∧ Below w.heap.size w w' := by
  refine (words_any a n cap b off u w hm hb hc).mono ?_
  rintro e w' ⟨v, rfl, hown, hbl⟩
  rcases hown.2 with ⟨rfl, h0⟩ | ⟨g, cm, cur, rfl, hg, hh, hcap, hmax, hcur, htake⟩
  · subst h0
    exact ⟨none, 0, rfl, fun h => absurd h (by omega), hbl⟩
  · refine ⟨some ⟨g, 0, none⟩, cm, rfl, fun hn => ⟨g, rfl, (Array.getElem?_eq_some_iff.1 hh).1, fun j hj => ?_⟩, hbl⟩
    have := hown.cells (g := g) rfl j (.int .u32 (u j)) (by rw [wordsL_get, if_pos hj])
    have e : (⟨g, 0, none⟩ : Addr).add j = ⟨g, j, none⟩ := by unfold Addr.add; split <;> simp
    rwa [e] at this
/-- What the law's own copy of its words gives, behind the chapter's examples. -/
def Wd (a : Option Addr) (n cap : Nat) (u : Nat → Int) (w : World) : Prop := ∀ w1, Below w.heap.size w w1 → Calls Try.prog 8 #[.slice a n cap] w1 fun e w' => ∃ am cm, e = .returned (.slice am n cm) ∧ Mw am n u w' ∧ Below w1.heap.size w1 w'
theorem wd_of (a : Option Addr) (n cap b off : Nat) (u : Nat → Int) (w : World) (hm : n ≤ 64) (hb : 0 < n → a = some ⟨b, off, none⟩ ∧ b < w.heap.size) (hc : ∀ j, j < n → w.cell? ⟨b, off + j, none⟩ = some (.int .u32 (u j))) : Wd a n cap u w := by
  intro w1 h1
  refine words_res a n cap b off u w1 hm (fun hn => ⟨(hb hn).1, Nat.lt_of_lt_of_le (hb hn).2 h1.size⟩) (fun j hj => (h1.cell (by exact (hb (by omega)).2)).trans (hc j hj))
end Go.Proofs.Ytkcdkjmkgncihaa
