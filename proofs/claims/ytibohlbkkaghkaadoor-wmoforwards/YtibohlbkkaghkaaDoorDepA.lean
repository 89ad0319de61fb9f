/- Lists of numbers that lie in memory; below, Clone, SameInts. -/
import Derived.Test.YtibohlbkkaghkaaDoorDepM
import Derived.Test.YtibohlbkkaghkaaDoorWord
import Derived.Lib.Walk
import Derived.Lib.SliceRun
namespace Go.Proofs.YtibohlbkkaghkaaDoor
open Go.ChangeShapes Go.WideShapes Go.ChangeAt Go.RowKit
set_option linter.unusedVariables false
set_option linter.unusedSimpArgs false

def slV (s : W.Sl) : Value := .slice s.a s.n s.c
/-- The list lies in memory, in a block that is not one of two. -/
structure Li (s : W.Sl) (l : List Int) (w : World) : Prop where
  n : s.n = l.length
  m : s.n ≤ 4096
  nc : s.n ≤ s.c
  at_ : 0 < s.n → ∃ b o, s.a = some ⟨b, o, none⟩ ∧ b < w.heap.size ∧ ∀ j x, l[j]? = some x → w.cell? ⟨b, o + j, none⟩ = some (.int .i64 x)
theorem Li.below {s : W.Sl} {l : List Int} {w w' : World} (h : Li s l w) (hb : Below w.heap.size w w') : Li s l w' :=
  ⟨h.n, h.m, h.nc, fun h0 => by
    obtain ⟨b, o, e, hl, hc⟩ := h.at_ h0
    exact ⟨b, o, e, Nat.lt_of_lt_of_le hl hb.size, fun j x hx => (hb.cell (p := ⟨b, o + j, none⟩) hl).trans (hc j x hx)⟩⟩
theorem li_nil (w : World) : Li W.Sl.nil [] w := ⟨rfl, by decide, by decide, fun h => absurd h (by decide)⟩
theorem li_zero (a : Option Addr) (c : Nat) (w : World) : Li ⟨a, 0, c⟩ [] w := ⟨rfl, by show 0 ≤ 4096; decide, Nat.zero_le _, fun h => absurd h (Nat.lt_irrefl 0)⟩
theorem Li.cons {s : W.Sl} {x : Int} {l : List Int} {w : World} (h : Li s (x :: l) w) : ∃ b o c, s = ⟨some ⟨b, o, none⟩, l.length + 1, c⟩ ∧ l.length + 1 ≤ c ∧ b < w.heap.size ∧ w.cell? ⟨b, o, none⟩ = some (.int .i64 x) ∧ ∀ j y, l[j]? = some y → w.cell? ⟨b, o + 1 + j, none⟩ = some (.int .i64 y) := by
  obtain ⟨b, o, e, hl, hc⟩ := h.at_ (by rw [h.n]; simp)
  have hn := h.n
  have hnc := h.nc
  obtain ⟨a, n, c⟩ := s
  simp only at e hn hnc
  subst e hn
  refine ⟨b, o, c, rfl, hnc, hl, hc 0 x rfl, fun j y hy => ?_⟩
  have := hc (j + 1) y (by simpa using hy)
  rw [show o + 1 + j = o + (j + 1) by omega]
  exact this
theorem li_some {b o n c : Nat} {l : List Int} {w : World} (hn : n = l.length) (hm : n ≤ 4096) (hnc : n ≤ c) (hb : b < w.heap.size) (hc : ∀ j x, l[j]? = some x → w.cell? ⟨b, o + j, none⟩ = some (.int .i64 x)) : Li ⟨some ⟨b, o, none⟩, n, c⟩ l w := ⟨hn, hm, hnc, fun _ => ⟨b, o, rfl, hb, hc⟩⟩

def intsL (l : List Int) : List Value := l.map fun x => .int .i64 x
theorem intsL_get (l : List Int) (j : Nat) : (intsL l)[j]? = (l[j]?).map fun x => .int .i64 x := by unfold intsL; rw [List.getElem?_map]
theorem own_li {w : World} {base n : Nat} {v : Value} {l : List Int} (h : w.ownsRow base 3 1 v n (intsL l)) (hn : n ≤ 4096) : ∃ s : W.Sl, v = slV s ∧ Li s l w ∧ (0 < s.n → ∃ b, s.a = some ⟨b, 0, none⟩ ∧ base ≤ b) := by
  have hlen : n = l.length := by
    have := h.1
    simp [intsL] at this
    omega
  rcases h.2 with ⟨rfl, h0⟩ | ⟨g, cap, cur, rfl, hg, hh, hcap, hmax, hcur, htake⟩
  · subst h0
    obtain rfl : l = [] := List.length_eq_zero_iff.1 hlen.symm
    exact ⟨⟨none, 0, 0⟩, rfl, li_zero _ _ _, fun h => absurd h (Nat.lt_irrefl 0)⟩
  · refine ⟨⟨some ⟨g, 0, none⟩, n, cap⟩, rfl, li_some hlen hn hcap (Array.getElem?_eq_some_iff.1 hh).1 fun j x hx => ?_, fun _ => ⟨g, rfl, hg⟩⟩
    have hc := h.cells (g := g) rfl j (.int .i64 x) (by rw [intsL_get, hx]; rfl)
    rw [Addr.add_lit] at hc
    exact hc

end Go.Proofs.YtibohlbkkaghkaaDoor