/- Operations as they come. -/
import Derived.Test.YtibohlbkkaghkaaDoorPpoU
import Derived.Deep.DeepAppendRoom
namespace Go.Proofs.YtibohlbkkaghkaaDoor
open Go.ChangeShapes Go.WideShapes Go.ChangeAt Go.RowKit
set_option linter.unusedVariables false
set_option linter.unusedSimpArgs false

def lst (f : Nat → Int) (n : Nat) : List Int := (List.range n).map f
theorem lst_len (f : Nat → Int) (n : Nat) : (lst f n).length = n := by unfold lst; simp
theorem lst_get (f : Nat → Int) (n j : Nat) (x : Int) (h : (lst f n)[j]? = some x) : j < n ∧ x = f j := by
  unfold lst at h
  rw [List.getElem?_map] at h
  by_cases hj : j < n
  · rw [List.getElem?_range hj] at h
    exact ⟨hj, by simpa using h.symm⟩
  · rw [List.getElem?_eq_none (by simp; omega)] at h
    simp at h
/-- A list of numbers as it comes. -/
structure IsLi (s : W.Sl) (f : Nat → Int) (w : World) : Prop where
  nc : s.n ≤ s.c
  cm : s.c ≤ maxLen
  at_ : 0 < s.n → ∃ b o, s.a = some ⟨b, o, none⟩ ∧ b < w.heap.size ∧ ∀ j, j < s.n → w.cell? ⟨b, o + j, none⟩ = some (.int .i64 (f j))
theorem IsLi.below {s : W.Sl} {f : Nat → Int} {w w' : World} (h : IsLi s f w) (hb : Below w.heap.size w w') : IsLi s f w' :=
  ⟨h.nc, h.cm, fun h0 => by
    obtain ⟨b, o, e, hl, hc⟩ := h.at_ h0
    exact ⟨b, o, e, Nat.lt_of_lt_of_le hl hb.size, fun j hj => (hb.cell (p := ⟨b, o + j, none⟩) hl).trans (hc j hj)⟩⟩
theorem IsLi.li {s : W.Sl} {f : Nat → Int} {w : World} (h : IsLi s f w) (hm : s.n ≤ 4096) : Li s (lst f s.n) w :=
  ⟨(lst_len _ _).symm, hm, h.nc, fun h0 => by
    obtain ⟨b, o, e, hl, hc⟩ := h.at_ h0
    refine ⟨b, o, e, hl, fun j x hx => ?_⟩
    obtain ⟨h1, rfl⟩ := lst_get f s.n j x hx
    exact hc j h1⟩
/-- An operation as it comes. -/
structure Ro (g off : Nat) (o : W.Opr) (S : S3) (A D C : Nat → Int) (w : World) : Prop where
  lt : g < w.heap.size
  c : ∀ k, k < 13 → w.cell? ⟨g, off + k, none⟩ = some (opF (fun _ => W.oz0 o) (fun _ => S) k)
  a : IsLi S.a A w
  d : IsLi S.d D w
  e : IsLi S.c C w
  z0 : -9223372036854775808 ≤ o.sz
  z1 : o.sz ≤ 9223372036854775807
  a0 : 0 ≤ o.ad
  a1 : o.ad < 4294967296
theorem Ro.below {g off : Nat} {o : W.Opr} {S : S3} {A D C : Nat → Int} {w w' : World} (h : Ro g off o S A D C w) (hb : Below w.heap.size w w') : Ro g off o S A D C w' :=
  ⟨Nat.lt_of_lt_of_le h.lt hb.size, fun k hk => (hb.cell (p := ⟨g, off + k, none⟩) h.lt).trans (h.c k hk), h.a.below hb, h.d.below hb, h.e.below hb, h.z0, h.z1, h.a0, h.a1⟩
/-- An operation with its lists. -/
def ozR (o : W.Opr) (S : S3) (A D C : Nat → Int) : W.Oz := ⟨o, lst A S.a.n, lst D S.d.n, lst C S.c.n⟩
theorem Ro.oz {g off : Nat} {o : W.Opr} {S : S3} {A D C : Nat → Int} {w : World} (h : Ro g off o S A D C w) (ha : S.a.n ≤ 4096) (hd : S.d.n ≤ 4096) (hc : S.c.n ≤ 4096) : OzAt g off (ozR o S A D C) w :=
  ⟨⟨h.lt, h.c 0 (by decide), h.c 1 (by decide), h.c 2 (by decide), h.c 5 (by decide), h.c 6 (by decide), h.c 7 (by decide)⟩, h.c 8 (by decide), h.c 9 (by decide), ⟨_, h.c 10 (by decide), h.a.li ha⟩, ⟨_, h.c 11 (by decide), h.d.li hd⟩, ⟨_, h.c 12 (by decide), h.e.li hc⟩⟩
/-- A row of cells loaded whole. -/
theorem ldO_any {w : World} {g off : Nat} (o : W.Opr) (S : S3) (h : ∀ k, k < 13 → w.cell? ⟨g, off + k, none⟩ = some (opF (fun _ => W.oz0 o) (fun _ => S) k)) : (ldO ⟨g, off, none⟩).run Tryd.prog w = .ok (.agg (opC o S.a S.d S.c)) w := by
  have hl := run_loadCells_list (P := Tryd.prog) w ⟨g, off, none⟩ (opC o S.a S.d S.c).toList (fun k v hv => by
    have hadd : (⟨g, off, none⟩ : Addr).add k = ⟨g, off + k, none⟩ := by unfold Addr.add; split <;> simp_all
    have hk : k < 13 := by
      have := (List.getElem?_eq_some_iff.1 hv).1
      exact this
    rw [hadd, h k hk]
    match k, hk with
    | 0, _ => exact hv
    | 1, _ => exact hv
    | 2, _ => exact hv
    | 3, _ => exact hv
    | 4, _ => exact hv
    | 5, _ => exact hv
    | 6, _ => exact hv
    | 7, _ => exact hv
    | 8, _ => exact hv
    | 9, _ => exact hv
    | 10, _ => exact hv
    | 11, _ => exact hv
    | 12, _ => exact hv)
  simp only [Array.length_toList, Array.toArray_toList] at hl
  have ha : (isAgg 38).run Tryd.prog w = .ok true w := by simp [go_sem]
  have hz : (sizeOf 38).run Tryd.prog w = .ok (opC o S.a S.d S.c).size w := by simp [go_sem, opC]
  unfold ldO
  have hs : (opC o S.a S.d S.c).size = 13 := rfl
  rw [hs] at hl hz
  simp [loadVar, Sem.run_bind, ha, hz, hl]
/-- Operations as they come. -/
structure Rs (a : Option Addr) (n c : Nat) (o : Nat → W.Opr) (S : Nat → S3) (A D C : Nat → Nat → Int) (w : World) : Prop where
  nc : n ≤ c
  cm : c ≤ maxLen
  at_ : 0 < n → ∃ g off, a = some ⟨g, off, none⟩ ∧ g < w.heap.size ∧ ∀ j, j < n → Ro g (off + j * 13) (o j) (S j) (A j) (D j) (C j) w
theorem Rs.below {a : Option Addr} {n c : Nat} {o : Nat → W.Opr} {S : Nat → S3} {A D C : Nat → Nat → Int} {w w' : World} (h : Rs a n c o S A D C w) (hb : Below w.heap.size w w') : Rs a n c o S A D C w' :=
  ⟨h.nc, h.cm, fun h0 => by
    obtain ⟨g, off, e, hl, hx⟩ := h.at_ h0
    exact ⟨g, off, e, Nat.lt_of_lt_of_le hl hb.size, fun j hj => (hx j hj).below hb⟩⟩
/-- Few, and what they hang on. -/
structure Few (n : Nat) (S : Nat → S3) : Prop where
  le : n ≤ 40
  l : ∀ j, j < n → (S j).a.n ≤ 40 ∧ (S j).d.n ≤ 40 ∧ (S j).c.n ≤ 40
end Go.Proofs.YtibohlbkkaghkaaDoor
