/- HomeAlone: its laws on numbers. -/
import Derived.Test.YtadkpelcbnljbaaHomR
namespace Go.Proofs.Ytadkpelcbnljbaa
open Go.ChangeShapes Go.WideShapes Go.ChangeAt Go.RowKit
set_option linter.unusedVariables false
set_option linter.unusedSimpArgs false

namespace W
/-- What the harts have: nothing, shared, alone, owned, modified: 0 to 4. -/
def allG : List (List Int) := [[0, 0, 0, 0], [0, 0, 0, 1], [0, 0, 1, 0], [0, 0, 1, 1], [0, 1, 0, 0], [0, 1, 0, 1], [0, 1, 1, 0], [0, 1, 1, 1], [1, 0, 0, 0], [1, 0, 0, 1], [1, 0, 1, 0], [1, 0, 1, 1], [1, 1, 0, 0], [1, 1, 0, 1], [1, 1, 1, 0], [1, 1, 1, 1], [3, 0, 0, 0], [3, 0, 0, 1], [3, 0, 1, 0], [3, 0, 1, 1], [3, 1, 0, 0], [3, 1, 0, 1], [3, 1, 1, 0], [3, 1, 1, 1], [0, 3, 0, 0], [0, 3, 0, 1], [0, 3, 1, 0], [0, 3, 1, 1], [1, 3, 0, 0], [1, 3, 0, 1], [1, 3, 1, 0], [1, 3, 1, 1], [0, 0, 3, 0], [0, 0, 3, 1], [0, 1, 3, 0], [0, 1, 3, 1], [1, 0, 3, 0], [1, 0, 3, 1], [1, 1, 3, 0], [1, 1, 3, 1], [0, 0, 0, 3], [0, 0, 1, 3], [0, 1, 0, 3], [0, 1, 1, 3], [1, 0, 0, 3], [1, 0, 1, 3], [1, 1, 0, 3], [1, 1, 1, 3], [2, 0, 0, 0], [4, 0, 0, 0], [0, 2, 0, 0], [0, 4, 0, 0], [0, 0, 2, 0], [0, 0, 4, 0], [0, 0, 0, 2], [0, 0, 0, 4]]
def gAt (g : List Int) (k : Int) : Int := g.getD k.toNat 0
def gSet (g : List Int) (k v : Int) : List Int := g.set k.toNat v
def dty (v : Int) : Bool := decide (v = 4) || decide (v = 3)
def dirtyG (g : List Int) : Bool := g.any dty
def owOf (g : List Int) : Int := if 2 ≤ gAt g 0 then 0 else if 2 ≤ gAt g 1 then 1 else if 2 ≤ gAt g 2 then 2 else if 2 ≤ gAt g 3 then 3 else -1
def shOf (g : List Int) : List Int := [0, 1, 2, 3].filter (fun k => decide (gAt g k = 1))
abbrev D4 := Int × Int × Int × Int
def mkS (g : List Int) (e : D4) (b : Int) : Hm := ⟨0, 4, e.1, e.2.1, e.2.2.1, e.2.2.2, owOf g, shOf g, -1, b, [], -1, mg0⟩
structure Al where
  s : Hm
  g : List Int
  o : List Mg
  t : Bool
def aMsg (g : List Int) (m : Mg) (y : D4) : Mg :=
  if m.k = 4 then ⟨10, 0, m.t, -1, 0, 0, 0, 0, false, false, false⟩
  else if m.k = 5 ∨ m.k = 6 then ⟨11, 0, m.t, -1, y.1, y.2.1, y.2.2.1, y.2.2.2, true, dty (gAt g m.t), false⟩
  else ⟨12, 0, m.t, -1, 0, 0, 0, 0, false, false, false⟩
def aG (g : List Int) (m : Mg) (r : Int) (wr : Bool) : List Int :=
  if m.k = 4 then gSet g m.t 0
  else if m.k = 6 then gSet g m.t 0
  else if m.k = 5 then gSet g m.t (if dty (gAt g m.t) = true then 3 else 1)
  else gSet g r (if (wr || m.a) = true then 2 else 1)
def astep (r : Int) (wr : Bool) (y : D4) (x : Al) (m : Mg) (l : List Mg) : Al :=
  ⟨(take x.s (aMsg x.g m y)).1, aG x.g m r wr, l ++ (take x.s (aMsg x.g m y)).2, x.t || (decide (m.k = 7) || decide (m.k = 8))⟩
def sendsOnly (l : List Mg) : Bool := l.all (fun q => decide (q.k = 7) || decide (q.k = 8))
def okB (r : Int) (y : D4) (x : Al) (m : Mg) : Bool :=
  decide (0 ≤ m.t) && (decide (m.t < 4) && (tk x.s (aMsg x.g m y) && ((decide ((take x.s (aMsg x.g m y)).2.length = 0) || decide ((take x.s (aMsg x.g m y)).2.length = 1) && decide (x.o.length = 1)) && ((if m.k = 7 ∨ m.k = 8 then decide ((take x.s (aMsg x.g m y)).2.length = 0) && decide (x.o.length = 1) else sendsOnly (take x.s (aMsg x.g m y)).2) && (
    if m.k = 4 then true
    else if m.k = 5 ∨ m.k = 6 then !decide (gAt x.g m.t = 0) && !decide (gAt x.g m.t = 1)
    else if m.k = 7 then decide (m.t = r)
    else if m.k = 8 then decide (m.t = r) && decide (gAt x.g r = 3)
    else false)))))
def okD (m : Mg) : List D4 := if m.k = 7 then [(m.d0, m.d1, m.d2, m.d3)] else []
def gEnd (g : List Int) (r : Int) (wr : Bool) : List Int := if wr = true then gSet g r 4 else g
def finB (r : Int) (wr : Bool) (x : Al) : Bool :=
  x.t && (decide (x.s.sv = -1) && (decide (x.s.ln = 0) && (decide (x.s.hs = 4) && (decide (x.s.ow = owOf (gEnd x.g r wr)) && (decide (x.s.sh = shOf (gEnd x.g r wr)) && (decide (x.s.ac = []) && (decide (x.s.te = -1) && (decide (x.s.bk = mg0) && decide (gEnd x.g r wr ∈ allG)))))))))
def finD (r : Int) (wr : Bool) (x : Al) : List D4 := if dirtyG (gEnd x.g r wr) = true then [] else [(x.s.e0, x.s.e1, x.s.e2, x.s.e3)]
def chk (r : Int) (wr : Bool) (y : D4) : Nat → Al → Bool × List D4
  | 0, x => (x.o.isEmpty && finB r wr x, finD r wr x)
  | n + 1, x => match x.o with
    | [] => (finB r wr x, finD r wr x)
    | m :: l => (okB r y x m && (chk r wr y n (astep r wr y x m l)).1, okD m ++ (chk r wr y n (astep r wr y x m l)).2)
def skip (g : List Int) (r : Int) (wr : Bool) : Bool := decide (gAt g r = 4) || (decide (gAt g r = 2) || (!wr && !decide (gAt g r = 0)))
def start (g : List Int) (r : Int) (wr : Bool) (e : D4) (b : Int) : Al :=
  ⟨(take (mkS g e b) (up (if wr = true then 2 else 1) 0 r)).1, g, (take (mkS g e b) (up (if wr = true then 2 else 1) 0 r)).2, false⟩
def cc (r : Int) (wr : Bool) (e y : D4) (b : Int) (g : List Int) : Bool × List D4 :=
  if skip g r wr = true then (true, []) else chk r wr y 5 (start g r wr (if dirtyG g = true then e else y) b)
theorem cc_0f (e0 e1 e2 e3 y0 y1 y2 y3 b : Int) : allG.map (cc 0 false (e0, e1, e2, e3) (y0, y1, y2, y3) b) = allG.map (fun g => (true, (cc 0 false (e0, e1, e2, e3) (y0, y1, y2, y3) b g).2.map (fun _ => (y0, y1, y2, y3)))) := by kernel_rfl
theorem cc_0t (e0 e1 e2 e3 y0 y1 y2 y3 b : Int) : allG.map (cc 0 true (e0, e1, e2, e3) (y0, y1, y2, y3) b) = allG.map (fun g => (true, (cc 0 true (e0, e1, e2, e3) (y0, y1, y2, y3) b g).2.map (fun _ => (y0, y1, y2, y3)))) := by kernel_rfl
theorem cc_1f (e0 e1 e2 e3 y0 y1 y2 y3 b : Int) : allG.map (cc 1 false (e0, e1, e2, e3) (y0, y1, y2, y3) b) = allG.map (fun g => (true, (cc 1 false (e0, e1, e2, e3) (y0, y1, y2, y3) b g).2.map (fun _ => (y0, y1, y2, y3)))) := by kernel_rfl
theorem cc_1t (e0 e1 e2 e3 y0 y1 y2 y3 b : Int) : allG.map (cc 1 true (e0, e1, e2, e3) (y0, y1, y2, y3) b) = allG.map (fun g => (true, (cc 1 true (e0, e1, e2, e3) (y0, y1, y2, y3) b g).2.map (fun _ => (y0, y1, y2, y3)))) := by kernel_rfl
theorem cc_2f (e0 e1 e2 e3 y0 y1 y2 y3 b : Int) : allG.map (cc 2 false (e0, e1, e2, e3) (y0, y1, y2, y3) b) = allG.map (fun g => (true, (cc 2 false (e0, e1, e2, e3) (y0, y1, y2, y3) b g).2.map (fun _ => (y0, y1, y2, y3)))) := by kernel_rfl
theorem cc_2t (e0 e1 e2 e3 y0 y1 y2 y3 b : Int) : allG.map (cc 2 true (e0, e1, e2, e3) (y0, y1, y2, y3) b) = allG.map (fun g => (true, (cc 2 true (e0, e1, e2, e3) (y0, y1, y2, y3) b g).2.map (fun _ => (y0, y1, y2, y3)))) := by kernel_rfl
theorem cc_3f (e0 e1 e2 e3 y0 y1 y2 y3 b : Int) : allG.map (cc 3 false (e0, e1, e2, e3) (y0, y1, y2, y3) b) = allG.map (fun g => (true, (cc 3 false (e0, e1, e2, e3) (y0, y1, y2, y3) b g).2.map (fun _ => (y0, y1, y2, y3)))) := by kernel_rfl
theorem cc_3t (e0 e1 e2 e3 y0 y1 y2 y3 b : Int) : allG.map (cc 3 true (e0, e1, e2, e3) (y0, y1, y2, y3) b) = allG.map (fun g => (true, (cc 3 true (e0, e1, e2, e3) (y0, y1, y2, y3) b g).2.map (fun _ => (y0, y1, y2, y3)))) := by kernel_rfl
/-- All that is to come is as it has to be. -/
def Good (r : Int) (wr : Bool) (y : D4) (n : Nat) (x : Al) : Prop := (chk r wr y n x).1 = true ∧ ∀ d ∈ (chk r wr y n x).2, d = y
theorem good_of {r : Int} {wr : Bool} {e y : D4} {b : Int} (h : allG.map (cc r wr e y b) = allG.map (fun g => (true, (cc r wr e y b g).2.map (fun _ => y)))) (g : List Int) (hg : g ∈ allG) (hs : skip g r wr = false) (hd : dirtyG g = false → e = y) : Good r wr y 5 (start g r wr e b) := by
  have h1 := List.map_inj_left.1 h g hg
  have e1 : cc r wr e y b g = chk r wr y 5 (start g r wr e b) := by
    unfold cc
    rw [if_neg (by rw [hs]; decide)]
    by_cases q : dirtyG g = true
    · rw [if_pos q]
    · rw [if_neg q, hd (by simpa using q)]
  rw [e1] at h1
  refine ⟨by rw [h1], fun d hd => ?_⟩
  rw [h1] at hd
  obtain ⟨_, _, rfl⟩ := List.mem_map.1 hd
  rfl
/-- What is asked of a step, in words. -/
theorem ok_parts {r : Int} {y : D4} {x : Al} {m : Mg} (h : okB r y x m = true) : (0 ≤ m.t ∧ m.t < 4) ∧ tk x.s (aMsg x.g m y) = true ∧ ((take x.s (aMsg x.g m y)).2 = [] ∨ (∃ M, (take x.s (aMsg x.g m y)).2 = [M]) ∧ x.o.length = 1) ∧ ((m.k = 7 ∨ m.k = 8) → (take x.s (aMsg x.g m y)).2 = [] ∧ x.o.length = 1) ∧ (¬ (m.k = 7 ∨ m.k = 8) → ∀ M ∈ (take x.s (aMsg x.g m y)).2, M.k = 7 ∨ M.k = 8) ∧
    (m.k = 4 ∨ ((m.k = 5 ∨ m.k = 6) ∧ ¬ gAt x.g m.t = 0 ∧ ¬ gAt x.g m.t = 1) ∨ (m.k = 7 ∧ m.t = r) ∨ (m.k = 8 ∧ m.t = r ∧ gAt x.g r = 3)) := by
  unfold okB at h
  rw [Bool.and_eq_true, Bool.and_eq_true, Bool.and_eq_true, Bool.and_eq_true, Bool.and_eq_true] at h
  obtain ⟨h0, h4, htk, hl, hs, hk⟩ := h
  refine ⟨⟨of_decide_eq_true h0, of_decide_eq_true h4⟩, htk, ?_, fun q => ?_, fun q => ?_, ?_⟩
  · rw [Bool.or_eq_true, Bool.and_eq_true] at hl
    rcases hl with hl | hl
    · exact Or.inl (List.eq_nil_of_length_eq_zero (of_decide_eq_true hl))
    · exact Or.inr ⟨List.length_eq_one_iff.1 (of_decide_eq_true hl.1), of_decide_eq_true hl.2⟩
  · rw [if_pos q, Bool.and_eq_true] at hs
    exact ⟨List.eq_nil_of_length_eq_zero (of_decide_eq_true hs.1), of_decide_eq_true hs.2⟩
  · rw [if_neg q] at hs
    intro M hM
    have := List.all_eq_true.1 hs M hM
    simpa using this
  · by_cases q4 : m.k = 4
    · exact Or.inl q4
    · rw [if_neg q4] at hk
      by_cases q5 : m.k = 5 ∨ m.k = 6
      · rw [if_pos q5] at hk
        refine Or.inr (Or.inl ⟨q5, ?_⟩)
        simpa using hk
      · rw [if_neg q5] at hk
        by_cases q7 : m.k = 7
        · rw [if_pos q7] at hk
          exact Or.inr (Or.inr (Or.inl ⟨q7, of_decide_eq_true hk⟩))
        · rw [if_neg q7] at hk
          by_cases q8 : m.k = 8
          · rw [if_pos q8, Bool.and_eq_true] at hk
            exact Or.inr (Or.inr (Or.inr ⟨q8, of_decide_eq_true hk.1, of_decide_eq_true hk.2⟩))
          · rw [if_neg q8] at hk
            cases hk
theorem fin_parts {r : Int} {wr : Bool} {x : Al} (h : finB r wr x = true) : x.t = true ∧ x.s.sv = -1 ∧ x.s = mkS (gEnd x.g r wr) (x.s.e0, x.s.e1, x.s.e2, x.s.e3) x.s.b_ ∧ gEnd x.g r wr ∈ allG := by
  unfold finB at h
  simp only [Bool.and_eq_true, decide_eq_true_eq] at h
  obtain ⟨h1, h2, h3, h4, h5, h6, h7, h8, h9, h10⟩ := h
  refine ⟨h1, h2, ?_, h10⟩
  obtain ⟨⟨ln, hs, e0, e1, e2, e3, ow, sh, sv, b_, ac, te, bk⟩, g, o, t⟩ := x
  dsimp only at *
  subst h2 h3 h4 h5 h6 h7 h8 h9
  rfl
theorem alone_g : ∀ g ∈ allG, ∀ r : Nat, r < 4 → ∀ k : Nat, k < 4 → k = r ∨ gAt g k = 0 ∨ (gAt g r ≠ 4 ∧ gAt g r ≠ 2) := by decide +kernel
theorem dirty_set : ∀ g ∈ allG, ∀ r : Nat, r < 4 → dirtyG (gSet g r 4) = true := by decide +kernel
theorem aMsg_k (g : List Int) (m : Mg) (y : D4) : -9223372036854775808 ≤ (aMsg g m y).k ∧ (aMsg g m y).k ≤ 9223372036854775807 := by
  unfold aMsg
  split
  · exact ⟨by dsimp only; decide, by dsimp only; decide⟩
  · split
    · exact ⟨by dsimp only; decide, by dsimp only; decide⟩
    · exact ⟨by dsimp only; decide, by dsimp only; decide⟩
theorem start_good (r : Nat) (hr : r < 4) (wr : Bool) (e y : D4) (b : Int) (g : List Int) (hg : g ∈ allG) (hs : skip g r wr = false) (hd : dirtyG g = false → e = y) : Good r wr y 5 (start g r wr e b) := by
  obtain ⟨e0, e1, e2, e3⟩ := e
  obtain ⟨y0, y1, y2, y3⟩ := y
  have : r = 0 ∨ r = 1 ∨ r = 2 ∨ r = 3 := by omega
  rcases this with rfl | rfl | rfl | rfl <;> cases wr
  · exact good_of (cc_0f e0 e1 e2 e3 y0 y1 y2 y3 b) g hg hs hd
  · exact good_of (cc_0t e0 e1 e2 e3 y0 y1 y2 y3 b) g hg hs hd
  · exact good_of (cc_1f e0 e1 e2 e3 y0 y1 y2 y3 b) g hg hs hd
  · exact good_of (cc_1t e0 e1 e2 e3 y0 y1 y2 y3 b) g hg hs hd
  · exact good_of (cc_2f e0 e1 e2 e3 y0 y1 y2 y3 b) g hg hs hd
  · exact good_of (cc_2t e0 e1 e2 e3 y0 y1 y2 y3 b) g hg hs hd
  · exact good_of (cc_3f e0 e1 e2 e3 y0 y1 y2 y3 b) g hg hs hd
  · exact good_of (cc_3t e0 e1 e2 e3 y0 y1 y2 y3 b) g hg hs hd
theorem good_step {r : Int} {wr : Bool} {y : D4} {n : Nat} {x : Al} {m : Mg} {l : List Mg} (h : Good r wr y n x) (ho : x.o = m :: l) : ∃ k, n = k + 1 ∧ okB r y x m = true ∧ (m.k = 7 → (m.d0, m.d1, m.d2, m.d3) = y) ∧ Good r wr y k (astep r wr y x m l) := by
  cases n with
  | zero =>
    have := h.1
    unfold chk at this
    rw [ho] at this
    simp at this
  | succ k =>
    obtain ⟨h1, h2⟩ := h
    unfold chk at h1 h2
    rw [ho] at h1 h2
    dsimp only at h1 h2
    rw [Bool.and_eq_true] at h1
    refine ⟨k, rfl, h1.1, fun hk => h2 _ (List.mem_append_left _ (by unfold okD; rw [if_pos hk]; simp)), h1.2, fun d hd => h2 d (List.mem_append_right _ hd)⟩
theorem good_end {r : Int} {wr : Bool} {y : D4} {n : Nat} {x : Al} (h : Good r wr y n x) (ho : x.o = []) : finB r wr x = true ∧ (dirtyG (gEnd x.g r wr) = false → (x.s.e0, x.s.e1, x.s.e2, x.s.e3) = y) := by
  cases n with
  | zero =>
    obtain ⟨h1, h2⟩ := h
    unfold chk at h1 h2
    rw [ho] at h1
    refine ⟨by simpa using h1, fun hd => h2 _ ?_⟩
    unfold finD
    rw [if_neg (by rw [hd]; decide)]
    simp
  | succ k =>
    obtain ⟨h1, h2⟩ := h
    unfold chk at h1 h2
    rw [ho] at h1 h2
    dsimp only at h1 h2
    refine ⟨h1, fun hd => h2 _ ?_⟩
    unfold finD
    rw [if_neg (by rw [hd]; decide)]
    simp
end W
end Go.Proofs.Ytadkpelcbnljbaa
