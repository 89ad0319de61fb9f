/- What Of keeps: a row of lists, beside a look. -/
import Derived.Test.YtibohlbkkaghkaaDoorPpoT
namespace Go.Proofs.YtibohlbkkaghkaaDoor
open Go.ChangeShapes Go.WideShapes Go.ChangeAt Go.RowKit
set_option linter.unusedVariables false
set_option linter.unusedSimpArgs false

theorem Bc.same {b n : Nat} {f : Nat → Value} {w w' : World} (h : Bc b n f w) (e : w'.heap[b]? = w.heap[b]?) : Bc b n f w' :=
  ⟨by have := h.lt; rw [Array.getElem?_eq_getElem this] at e; exact (Array.getElem?_eq_some_iff.1 e).1, fun j hj => (World.cell?_of_block e).trans (h.c j hj), fun j => by
    have := h.fz j
    simp only [World.frozen?] at this ⊢
    rw [e]
    exact this⟩
theorem own_same {w w' : World} {base : Nat} {e : TypeId} {size : Nat} {v : Value} {n : Nat} {xs : List Value} (h : w.ownsRow base e size v n xs) (k : ∀ g, some g = v.ownBlock → w'.heap[g]? = w.heap[g]?) : w'.ownsRow base e size v n xs := by
  obtain ⟨h1, h2⟩ := h
  refine ⟨h1, ?_⟩
  rcases h2 with h2 | ⟨g, cap, cur, e1, e2, e3, e4⟩
  · exact Or.inl h2
  · exact Or.inr ⟨g, cap, cur, e1, e2, (k g (by rw [e1]; rfl)).trans e3, e4⟩
theorem own_base {w : World} {base b2 : Nat} {e : TypeId} {size : Nat} {v : Value} {n : Nat} {xs : List Value} (h : w.ownsRow base e size v n xs) (k : b2 ≤ base) : w.ownsRow b2 e size v n xs := by
  obtain ⟨h1, h2⟩ := h
  refine ⟨h1, ?_⟩
  rcases h2 with h2 | ⟨g, cap, cur, e1, e2, e3⟩
  · exact Or.inl h2
  · exact Or.inr ⟨g, cap, cur, e1, Nat.le_trans k e2, e3⟩
theorem LkF.bare {F : Nat → Option Obj} {w0 : World} {d : Kd} {w : World} (h : LkF F w0 d w) : LkF F0 w0 d w := { h with fr := fun c o e => absurd e (by simp [F0]) }
theorem LkF.rebase {F : Nat → Option Obj} {w0 w1 : World} {d : Kd} {w : World} (h : LkF F w1 d w) (hb : Below w0.heap.size w0 w1) : LkF F w0 d w :=
  { h with bl := hb.trans (h.bl.mono hb.size), h := own_base h.h hb.size, nk := Nat.le_trans hb.size h.nk, na := Nat.le_trans hb.size h.na, np := Nat.le_trans hb.size h.np, nr := Nat.le_trans hb.size h.nr, ng := Nat.le_trans hb.size h.ng }
/-- None of the look's blocks. -/
def Kd.no (d : Kd) (c : Nat) : Prop := c ≠ d.kb ∧ c ≠ d.ab ∧ c ≠ d.pb ∧ c ≠ d.rb ∧ c ≠ d.hb ∧ some c ≠ (slV d.H).ownBlock
theorem LkF.new {F : Nat → Option Obj} {w0 : World} {d : Kd} {w : World} (h : LkF F w0 d w) (c : Nat) (hc : w.heap.size ≤ c) : d.no c := by
  have h1 := h.k.lt
  have h2 := h.a.lt
  have h3 := h.p.lt
  have h4 := h.r.lt
  have h5 := h.g.lt
  refine ⟨by omega, by omega, by omega, by omega, by omega, fun e => ?_⟩
  have := (h.h.lt c e.symm).2
  omega
theorem LkF.away {w0 : World} {d : Kd} {w w' : World} {r : Option Nat} (h : LkF F0 w0 d w) (hg : w.grownBy w' r) (hr : ∀ c, r = some c → w0.heap.size ≤ c ∧ d.no c) : LkF F0 w0 d w' :=
  { h with
    bl := Below.grown h.bl hg h.bl.size (fun j e => (hr j e).1)
    k := h.k.grown hg (fun e => (hr _ e.symm).2.1 rfl)
    a := h.a.grown hg (fun e => (hr _ e.symm).2.2.1 rfl)
    p := h.p.grown hg (fun e => (hr _ e.symm).2.2.2.1 rfl)
    r := h.r.grown hg (fun e => (hr _ e.symm).2.2.2.2.1 rfl)
    g := h.g.grown hg (fun e => (hr _ e.symm).2.2.2.2.2.1 rfl)
    h := h.h.kept hg (by
      cases q : (slV d.H).ownBlock with
      | none => exact Or.inl rfl
      | some c => exact Or.inr fun e => (hr c e.symm).2.2.2.2.2.2 q.symm)
    fr := fun c o e => absurd e (by simp [F0]) }
def PB (eb n : Nat) (S : Nat → W.Sl) (c : Nat) : Prop := c = eb ∨ ∃ a, a < n ∧ some c = (slV (S a)).ownBlock
def intsV (l : List Int) : List Value := l.map (Value.int .i64)
theorem intsV_len (l : List Int) : (intsV l).length = l.length := by simp [intsV]
theorem intsV_app (l : List Int) (x : Int) : intsV (l ++ [x]) = intsV l ++ [.int .i64 x] := by simp [intsV]
/-- A row of lists of numbers. -/
structure Bh (base eb n : Nat) (S : Nat → W.Sl) (L : Nat → List Int) (w : World) : Prop where
  e : Bc eb n (fun a => slV (S a)) w
  ne : base ≤ eb
  i : ∀ a, a < n → w.ownsRow base 3 1 (slV (S a)) (L a).length (intsV (L a))
  d : ∀ a, a < n → some eb ≠ (slV (S a)).ownBlock
  dd : ∀ a b, a < n → b < n → a ≠ b → (slV (S a)).ownBlock = none ∨ (slV (S a)).ownBlock ≠ (slV (S b)).ownBlock
theorem Bh.same {base eb n : Nat} {S : Nat → W.Sl} {L : Nat → List Int} {w w' : World} (h : Bh base eb n S L w) (k : ∀ c, PB eb n S c → w'.heap[c]? = w.heap[c]?) : Bh base eb n S L w' :=
  { h with e := h.e.same (k eb (Or.inl rfl)), i := fun a ha => own_same (h.i a ha) fun g hg => k g (Or.inr ⟨a, ha, hg⟩) }
theorem Bh.lt {base eb n : Nat} {S : Nat → W.Sl} {L : Nat → List Int} {w : World} (h : Bh base eb n S L w) (c : Nat) (hc : PB eb n S c) : base ≤ c ∧ c < w.heap.size := by
  rcases hc with rfl | ⟨a, ha, e⟩
  · exact ⟨h.ne, h.e.lt⟩
  · exact (h.i a ha).lt c e.symm
theorem Bh.below {base eb n : Nat} {S : Nat → W.Sl} {L : Nat → List Int} {w w' : World} (h : Bh base eb n S L w) (hb : Below w.heap.size w w') : Bh base eb n S L w' := h.same fun c hc => hb.block c (h.lt c hc).2
theorem Bh.congr {base eb n : Nat} {S : Nat → W.Sl} {L M : Nat → List Int} {w : World} (h : Bh base eb n S L w) (e : ∀ a, a < n → L a = M a) : Bh base eb n S M w :=
  { h with i := fun a ha => by rw [← e a ha]; exact h.i a ha }
def updZ (S : Nat → W.Sl) (a : Nat) (s : W.Sl) : Nat → W.Sl := fun j => if j = a then s else S j
def updLL (L : Nat → List Int) (a : Nat) (s : List Int) : Nat → List Int := fun j => if j = a then s else L j
/-- One of its lists grows. -/
theorem Bh.app {base eb n : Nat} {S : Nat → W.Sl} {L : Nat → List Int} {w w' : World} (h : Bh base eb n S L w) (a : Nat) (ha : a < n) (x : Int) (g cap : Nat) (hg : w.grownBy w' (slV (S a)).ownBlock) (ho : w'.ownsRow base 3 1 (.slice (some ⟨g, 0, none⟩) ((L a).length + 1) cap) ((L a).length + 1) (intsV (L a) ++ [.int .i64 x])) (hat : (slV (S a)).ownBlock = some g ∨ g = w.heap.size) :
    Bh base eb n (updZ S a ⟨some ⟨g, 0, none⟩, (L a).length + 1, cap⟩) (updLL L a (L a ++ [x])) (w'.setCell ⟨eb, a, none⟩ (.slice (some ⟨g, 0, none⟩) ((L a).length + 1) cap)) := by
  have hge : g ≠ eb := by
    rcases hat with e | e
    · intro e2
      exact h.d a ha (by rw [e, e2])
    · have := h.e.lt
      omega
  have oth : ∀ b, b < n → b ≠ a → (slV (S b)).ownBlock = none ∨ (slV (S b)).ownBlock ≠ some g := by
    intro b hb hne
    rcases hat with e | e
    · rcases h.dd b a hb ha hne with h1 | h1
      · exact Or.inl h1
      · exact Or.inr (by rw [← e]; exact h1)
    · refine Or.inr fun e2 => ?_
      have := ((h.i b hb).lt g e2).2
      omega
  refine ⟨((h.e.grown hg (h.d a ha)).set a _).congr fun j hj => ?_, h.ne, fun b hb => ?_, fun b hb => ?_, fun b c hb hc hne => ?_⟩
  · unfold updV updZ
    by_cases e : j = a
    · rw [if_pos e, if_pos e]; rfl
    · rw [if_neg e, if_neg e]
  · unfold updZ updLL
    by_cases e : b = a
    · rw [if_pos e, if_pos e, List.length_append, intsV_app]
      exact ho.kept (gsetCell _ _ _ _) (Or.inr (by show some g ≠ some eb; exact ne_some hge))
    · rw [if_neg e, if_neg e]
      refine ((h.i b hb).kept hg (h.dd b a hb ha e)).kept (gsetCell _ _ _ _) (Or.inr (Ne.symm (h.d b hb)))
  · unfold updZ
    by_cases e : b = a
    · rw [if_pos e]; show some eb ≠ some g; exact ne_some (Ne.symm hge)
    · rw [if_neg e]; exact h.d b hb
  · unfold updZ
    by_cases e : b = a
    · by_cases e2 : c = a
      · omega
      · rw [if_pos e, if_neg e2]
        rcases oth c hc e2 with h1 | h1
        · exact Or.inr (by show some g ≠ _; rw [h1]; simp)
        · exact Or.inr (Ne.symm h1)
    · rw [if_neg e]
      by_cases e2 : c = a
      · rw [if_pos e2]; exact oth b hb e
      · rw [if_neg e2]; exact h.dd b c hb hc hne
/-- A look and the row. -/
structure Of1 (w0 : World) (d : Kd) (eb : Nat) (S : Nat → W.Sl) (L : Nat → List Int) (w : World) : Prop where
  k : LkF F0 w0 d w
  h : Bh w0.heap.size eb d.n S L w
  ap : ∀ c, PB eb d.n S c → d.no c
theorem Of1.back {w0 : World} {d d' : Kd} {eb : Nat} {S : Nat → W.Sl} {L : Nat → List Int} {w w' : World} (o : Of1 w0 d eb S L w) (h : LkF (frm (PB eb d.n S) w) w0 d' w') (hn : d'.n = d.n) : Of1 w0 d' eb S L w' := by
  have q := fun c hc => h.out c hc (o.h.lt c hc).2
  refine ⟨h.bare, ?_, ?_⟩
  · rw [hn]; exact o.h.same fun c hc => (q c hc).1
  · rw [hn]; exact fun c hc => (q c hc).2
theorem Of1.frame {w0 : World} {d : Kd} {eb : Nat} {S : Nat → W.Sl} {L : Nat → List Int} {w : World} (o : Of1 w0 d eb S L w) : LkF (frm (PB eb d.n S) w) w0 d w := o.k.frame _ o.ap
theorem Of1.below {w0 : World} {d : Kd} {eb : Nat} {S : Nat → W.Sl} {L : Nat → List Int} {w w' : World} (o : Of1 w0 d eb S L w) (hb : Below w.heap.size w w') : Of1 w0 d eb S L w' := ⟨o.k.below hb, o.h.below hb, o.ap⟩
theorem Of1.congr {w0 : World} {d : Kd} {eb : Nat} {S : Nat → W.Sl} {L M : Nat → List Int} {w : World} (o : Of1 w0 d eb S L w) (e : ∀ a, a < d.n → L a = M a) : Of1 w0 d eb S M w := ⟨o.k, o.h.congr e, o.ap⟩
theorem Of1.app {w0 : World} {d : Kd} {eb : Nat} {S : Nat → W.Sl} {L : Nat → List Int} {w w' : World} (o : Of1 w0 d eb S L w) (a : Nat) (ha : a < d.n) (x : Int) (g cap : Nat) (hg : w.grownBy w' (slV (S a)).ownBlock) (ho : w'.ownsRow w0.heap.size 3 1 (.slice (some ⟨g, 0, none⟩) ((L a).length + 1) cap) ((L a).length + 1) (intsV (L a) ++ [.int .i64 x])) (hat : (slV (S a)).ownBlock = some g ∨ g = w.heap.size) :
    Of1 w0 d eb (updZ S a ⟨some ⟨g, 0, none⟩, (L a).length + 1, cap⟩) (updLL L a (L a ++ [x])) (w'.setCell ⟨eb, a, none⟩ (.slice (some ⟨g, 0, none⟩) ((L a).length + 1) cap)) := by
  have ng : d.no g := by
    rcases hat with e | e
    · exact o.ap g (Or.inr ⟨a, ha, e.symm⟩)
    · exact o.k.new g (by omega)
  refine ⟨(o.k.away hg fun c e => ⟨((o.h.i a ha).lt c e).1, o.ap c (Or.inr ⟨a, ha, e.symm⟩)⟩).away (gsetCell _ _ _ _) (fun c e => by cases e; exact ⟨o.h.ne, o.ap eb (Or.inl rfl)⟩), o.h.app a ha x g cap hg ho hat, fun c hc => ?_⟩
  rcases hc with rfl | ⟨b, hb, e⟩
  · exact o.ap c (Or.inl rfl)
  · unfold updZ at e
    by_cases q : b = a
    · rw [if_pos q] at e
      have : c = g := Option.some.inj e
      rw [this]
      exact ng
    · rw [if_neg q] at e
      exact o.ap c (Or.inr ⟨b, hb, e⟩)
namespace W
/-- Those behind a, ahead of b, that have to stay there. -/
def ofN (x : Nat → Oz) (b a : Nat) : List Nat := (List.range b).filter fun m => decide (a < m) && (whyO x a m != 0)
def ofL (x : Nat → Oz) (b a : Nat) : List Int := (ofN x b a).map fun m : Nat => (m : Int)
theorem ofL_succ (x : Nat → Oz) (b a : Nat) : ofL x (b + 1) a = if a < b ∧ whyO x a b ≠ 0 then ofL x b a ++ [(b : Int)] else ofL x b a := by
  unfold ofL ofN
  rw [List.range_succ, List.filter_append, List.map_append]
  by_cases h : a < b ∧ whyO x a b ≠ 0
  · rw [if_pos h, List.filter_cons, List.filter_nil, if_pos (by simp [h])]; rfl
  · rw [if_neg h, List.filter_cons, List.filter_nil, if_neg (by simpa using h)]; simp
theorem ofL_len (x : Nat → Oz) (b a : Nat) : (ofL x b a).length ≤ b := by
  unfold ofL ofN
  rw [List.length_map]
  exact Nat.le_trans (List.length_filter_le _ _) (by simp)
/-- Behind j of the look's rules at b. -/
def ofJ (x : Nat → Oz) (b j a : Nat) : List Int := if a < j then ofL x (b + 1) a else ofL x b a
theorem ofJ_hit (x : Nat → Oz) (b j a : Nat) (hj : j < b) (hw : whyO x j b ≠ 0) : updLL (ofJ x b j) j (ofJ x b j j ++ [(b : Int)]) a = ofJ x b (j + 1) a := by
  unfold updLL ofJ
  by_cases e : a = j
  · subst e
    rw [if_pos rfl, if_neg (Nat.lt_irrefl _), if_pos (by omega), ofL_succ, if_pos ⟨hj, hw⟩]
  · rw [if_neg e]
    by_cases e2 : a < j
    · rw [if_pos e2, if_pos (by omega)]
    · rw [if_neg e2, if_neg (by omega)]
theorem ofJ_miss (x : Nat → Oz) (b j a : Nat) (hw : whyO x j b = 0) : ofJ x b j a = ofJ x b (j + 1) a := by
  unfold ofJ
  by_cases e : a = j
  · subst e
    rw [if_neg (Nat.lt_irrefl _), if_pos (by omega), ofL_succ, if_neg (fun h => h.2 hw)]
  · by_cases e2 : a < j
    · rw [if_pos e2, if_pos (by omega)]
    · rw [if_neg e2, if_neg (by omega)]
theorem ofJ_end (x : Nat → Oz) (b a : Nat) : ofJ x b b a = ofL x (b + 1) a := by
  unfold ofJ
  by_cases e : a < b
  · rw [if_pos e]
  · rw [if_neg e, ofL_succ, if_neg (fun h => e h.1)]
theorem ofJ_len (x : Nat → Oz) (b j a : Nat) : (ofJ x b j a).length ≤ b + 1 := by
  unfold ofJ
  split
  · exact ofL_len x (b + 1) a
  · have := ofL_len x b a; omega
end W
theorem make_rows (n : Nat) (hn : n ≤ 8192) (w : World) : (Instr.makeSlice 64 (.int .i64 (n : Int)) (.int .i64 (n : Int))).run Tryd.prog w = .ok (.slice (some ⟨w.heap.size, 0, none⟩) n n) (w.alloc (.cells (madeCells #[.slice none 0 0] n) 23)) := by
  obtain ⟨i, hi, hzz⟩ := Option.map_eq_some_iff.1 (show (Tryd.prog.info? 23).map (fun i => (i.zero, i.size, i.bytes)) = some (some (.slice none 0 0), 1, 24) by kernel_rfl)
  simp only [Prod.mk.injEq] at hzz
  obtain ⟨hz, hs, hb⟩ := hzz
  have hr := run_make (P := Tryd.prog) w 64 23 i _ Tryd.underlying64 hi hz .i64 .i64 n n (by omega) (by omega) (by rw [hb]; omega) (by omega)
  simp only [Int.toNat_natCast, hs, Nat.mul_one] at hr
  exact hr
theorem bh_made (base n : Nat) (w : World) (hb : base ≤ w.heap.size) : Bh base w.heap.size n (fun _ => W.Sl.nil) (fun _ => []) (w.alloc (.cells (madeCells #[.slice none 0 0] n) 23)) :=
  ⟨(Bc.made w #[.slice none 0 0] n 23).congr fun j hj => by show #[Value.slice none 0 0][j % 1]! = _; rw [Nat.mod_one]; rfl, hb, fun a ha => ⟨rfl, Or.inl ⟨rfl, rfl⟩⟩, fun a ha => by simp [slV, W.Sl.nil, Value.ownBlock], fun a b _ _ _ => Or.inl rfl⟩
theorem pb_made (eb n c : Nat) (h : PB eb n (fun _ => W.Sl.nil) c) : c = eb := by
  rcases h with h | ⟨a, _, e⟩
  · exact h
  · simp [slV, W.Sl.nil, Value.ownBlock] at e
end Go.Proofs.YtibohlbkkaghkaaDoor
