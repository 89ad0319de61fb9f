/- Texts in one: PpoT, PpoV0, PpoV1, WmoG2, WmoS2, WmoU2. -/
import Derived.Deep.AppendLies
import Derived.Deep.QuietTactic
import Derived.BigQuiet
import Derived.Test.YtibohlbkkaghkaaDoorJ02
import Derived.Test.YtibohlbkkaghkaaDoorJ07
import Derived.Test.YtibohlbkkaghkaaDoorJ10
import Derived.Test.YtibohlbkkaghkaaDoorJ11
import Derived.Test.YtibohlbkkaghkaaDoorJ13
/- Why. -/
namespace Go.Proofs.YtibohlbkkaghkaaDoor
open Go.ChangeShapes Go.WideShapes Go.ChangeAt Go.RowKit
set_option linter.unusedVariables false
set_option linter.unusedSimpArgs false

/-- Operations whose numbers are such as a Go value's. -/
structure W.OzOk (z : W.Oz) : Prop where
  z0 : -9223372036854775808 ≤ z.o.sz
  z1 : z.o.sz ≤ 9223372036854775807
  a0 : 0 ≤ z.o.ad
  a1 : z.o.ad < 4294967296
theorem W.actO_sp (o : W.Opr) (h0 : 0 ≤ o.ad) (h1 : o.ad < 4294967296) : W.SpOk (W.actO o).p := by
  unfold W.actO
  cases (o.k == 4)
  · exact W.spn_ok o h0 h1
  · exact ⟨Int.le_refl _, (by decide : (0 : Int) < 4294967296), Int.le_refl _, (by decide : (0 : Int) ≤ 4294967296)⟩
theorem W.acts_sp (x : Nat → W.Oz) (b j : Nat) (h : W.OzOk (x j)) : W.SpOk (W.acts x b j).p := W.actO_sp _ h.a0 h.a1
theorem Ol.less {a : Option Addr} {n m : Nat} {x : Nat → W.Oz} {w : World} (h : Ol a n x w) (hm : m ≤ n) : Ol a m x w := ⟨fun h0 => by
  obtain ⟨g, o, e, hx⟩ := h.at_ (by omega)
  exact ⟨g, o, e, fun j hj => hx j (by omega)⟩⟩

end Go.Proofs.YtibohlbkkaghkaaDoor

/- What Of keeps: a row of lists, beside a look. -/
namespace Go.Proofs.YtibohlbkkaghkaaDoor
open Go.ChangeShapes Go.WideShapes Go.ChangeAt Go.RowKit
set_option linter.unusedVariables false
set_option linter.unusedSimpArgs false

theorem Bc.same {b n : Nat} {f : Nat → Value} {w w' : World} (h : Bc b n f w) (e : w'.heap[b]? = w.heap[b]?) : Bc b n f w' :=
  ⟨by have := h.lt; rw [Array.getElem?_eq_getElem this] at e; exact (Array.getElem?_eq_some_iff.1 e).1, fun j hj => (World.cell?_of_block e).trans (h.c j hj), fun j => by
    have := h.fz j
    simp only [World.frozen?] at this ⊢
    rw [e]
    exact this⟩
theorem own_same {w w' : World} {base : Nat} {e : TypeId} {size : Nat} {v : Value} {n : Nat} {xs : List Value} (h : w.ownsRow base e size v n xs) (k : ∀ g, some g = v.ownBlock → w'.heap[g]? = w.heap[g]?) : w'.ownsRow base e size v n xs := by
  obtain ⟨h1, h2⟩ := h
  refine ⟨h1, ?_⟩
  rcases h2 with h2 | ⟨g, cap, cur, e1, e2, e3, e4⟩
  · exact Or.inl h2
  · exact Or.inr ⟨g, cap, cur, e1, e2, (k g (by rw [e1]; rfl)).trans e3, e4⟩
theorem own_base {w : World} {base b2 : Nat} {e : TypeId} {size : Nat} {v : Value} {n : Nat} {xs : List Value} (h : w.ownsRow base e size v n xs) (k : b2 ≤ base) : w.ownsRow b2 e size v n xs := by
  obtain ⟨h1, h2⟩ := h
  refine ⟨h1, ?_⟩
  rcases h2 with h2 | ⟨g, cap, cur, e1, e2, e3⟩
  · exact Or.inl h2
  · exact Or.inr ⟨g, cap, cur, e1, Nat.le_trans k e2, e3⟩
theorem LkF.bare {F : Nat → Option Obj} {w0 : World} {d : Kd} {w : World} (h : LkF F w0 d w) : LkF F0 w0 d w := { h with fr := fun c o e => absurd e (by simp [F0]) }
theorem LkF.rebase {F : Nat → Option Obj} {w0 w1 : World} {d : Kd} {w : World} (h : LkF F w1 d w) (hb : Below w0.heap.size w0 w1) : LkF F w0 d w :=
  { h with bl := hb.trans (h.bl.mono hb.size), h := own_base h.h hb.size, nk := Nat.le_trans hb.size h.nk, na := Nat.le_trans hb.size h.na, np := Nat.le_trans hb.size h.np, nr := Nat.le_trans hb.size h.nr, ng := Nat.le_trans hb.size h.ng }
/-- None of the look's blocks. -/
def Kd.no (d : Kd) (c : Nat) : Prop := c ≠ d.kb ∧ c ≠ d.ab ∧ c ≠ d.pb ∧ c ≠ d.rb ∧ c ≠ d.hb ∧ some c ≠ (slV d.H).ownBlock
theorem LkF.new {F : Nat → Option Obj} {w0 : World} {d : Kd} {w : World} (h : LkF F w0 d w) (c : Nat) (hc : w.heap.size ≤ c) : d.no c := by
  have h1 := h.k.lt
  have h2 := h.a.lt
  have h3 := h.p.lt
  have h4 := h.r.lt
  have h5 := h.g.lt
  refine ⟨by omega, by omega, by omega, by omega, by omega, fun e => ?_⟩
  have := (h.h.lt c e.symm).2
  omega
theorem LkF.away {w0 : World} {d : Kd} {w w' : World} {r : Option Nat} (h : LkF F0 w0 d w) (hg : w.grownBy w' r) (hr : ∀ c, r = some c → w0.heap.size ≤ c ∧ d.no c) : LkF F0 w0 d w' :=
  { h with
    bl := Below.grown h.bl hg h.bl.size (fun j e => (hr j e).1)
    k := h.k.grown hg (fun e => (hr _ e.symm).2.1 rfl)
    a := h.a.grown hg (fun e => (hr _ e.symm).2.2.1 rfl)
    p := h.p.grown hg (fun e => (hr _ e.symm).2.2.2.1 rfl)
    r := h.r.grown hg (fun e => (hr _ e.symm).2.2.2.2.1 rfl)
    g := h.g.grown hg (fun e => (hr _ e.symm).2.2.2.2.2.1 rfl)
    h := h.h.kept hg (by
      cases q : (slV d.H).ownBlock with
      | none => exact Or.inl rfl
      | some c => exact Or.inr fun e => (hr c e.symm).2.2.2.2.2.2 q.symm)
    fr := fun c o e => absurd e (by simp [F0]) }
def PB (eb n : Nat) (S : Nat → W.Sl) (c : Nat) : Prop := c = eb ∨ ∃ a, a < n ∧ some c = (slV (S a)).ownBlock
def intsV (l : List Int) : List Value := l.map (Value.int .i64)
theorem intsV_len (l : List Int) : (intsV l).length = l.length := by simp [intsV]
theorem intsV_app (l : List Int) (x : Int) : intsV (l ++ [x]) = intsV l ++ [.int .i64 x] := by simp [intsV]
/-- A row of lists of numbers. -/
structure Bh (base eb n : Nat) (S : Nat → W.Sl) (L : Nat → List Int) (w : World) : Prop where
  e : Bc eb n (fun a => slV (S a)) w
  ne : base ≤ eb
  i : ∀ a, a < n → w.ownsRow base 3 1 (slV (S a)) (L a).length (intsV (L a))
  d : ∀ a, a < n → some eb ≠ (slV (S a)).ownBlock
  dd : ∀ a b, a < n → b < n → a ≠ b → (slV (S a)).ownBlock = none ∨ (slV (S a)).ownBlock ≠ (slV (S b)).ownBlock
theorem Bh.same {base eb n : Nat} {S : Nat → W.Sl} {L : Nat → List Int} {w w' : World} (h : Bh base eb n S L w) (k : ∀ c, PB eb n S c → w'.heap[c]? = w.heap[c]?) : Bh base eb n S L w' :=
  { h with e := h.e.same (k eb (Or.inl rfl)), i := fun a ha => own_same (h.i a ha) fun g hg => k g (Or.inr ⟨a, ha, hg⟩) }
theorem Bh.lt {base eb n : Nat} {S : Nat → W.Sl} {L : Nat → List Int} {w : World} (h : Bh base eb n S L w) (c : Nat) (hc : PB eb n S c) : base ≤ c ∧ c < w.heap.size := by
  rcases hc with rfl | ⟨a, ha, e⟩
  · exact ⟨h.ne, h.e.lt⟩
  · exact (h.i a ha).lt c e.symm
theorem Bh.below {base eb n : Nat} {S : Nat → W.Sl} {L : Nat → List Int} {w w' : World} (h : Bh base eb n S L w) (hb : Below w.heap.size w w') : Bh base eb n S L w' := h.same fun c hc => hb.block c (h.lt c hc).2
theorem Bh.congr {base eb n : Nat} {S : Nat → W.Sl} {L M : Nat → List Int} {w : World} (h : Bh base eb n S L w) (e : ∀ a, a < n → L a = M a) : Bh base eb n S M w :=
  { h with i := fun a ha => by rw [← e a ha]; exact h.i a ha }
def updZ (S : Nat → W.Sl) (a : Nat) (s : W.Sl) : Nat → W.Sl := fun j => if j = a then s else S j
def updLL (L : Nat → List Int) (a : Nat) (s : List Int) : Nat → List Int := fun j => if j = a then s else L j
/-- One of its lists grows. -/
theorem Bh.app {base eb n : Nat} {S : Nat → W.Sl} {L : Nat → List Int} {w w' : World} (h : Bh base eb n S L w) (a : Nat) (ha : a < n) (x : Int) (g cap : Nat) (hg : w.grownBy w' (slV (S a)).ownBlock) (ho : w'.ownsRow base 3 1 (.slice (some ⟨g, 0, none⟩) ((L a).length + 1) cap) ((L a).length + 1) (intsV (L a) ++ [.int .i64 x])) (hat : (slV (S a)).ownBlock = some g ∨ g = w.heap.size) :
    Bh base eb n (updZ S a ⟨some ⟨g, 0, none⟩, (L a).length + 1, cap⟩) (updLL L a (L a ++ [x])) (w'.setCell ⟨eb, a, none⟩ (.slice (some ⟨g, 0, none⟩) ((L a).length + 1) cap)) := by
  have hge : g ≠ eb := by
    rcases hat with e | e
    · intro e2
      exact h.d a ha (by rw [e, e2])
    · have := h.e.lt
      omega
  have oth : ∀ b, b < n → b ≠ a → (slV (S b)).ownBlock = none ∨ (slV (S b)).ownBlock ≠ some g := by
    intro b hb hne
    rcases hat with e | e
    · rcases h.dd b a hb ha hne with h1 | h1
      · exact Or.inl h1
      · exact Or.inr (by rw [← e]; exact h1)
    · refine Or.inr fun e2 => ?_
      have := ((h.i b hb).lt g e2).2
      omega
  refine ⟨((h.e.grown hg (h.d a ha)).set a _).congr fun j hj => ?_, h.ne, fun b hb => ?_, fun b hb => ?_, fun b c hb hc hne => ?_⟩
  · unfold updV updZ
    by_cases e : j = a
    · rw [if_pos e, if_pos e]; rfl
    · rw [if_neg e, if_neg e]
  · unfold updZ updLL
    by_cases e : b = a
    · rw [if_pos e, if_pos e, List.length_append, intsV_app]
      exact ho.kept (gsetCell _ _ _ _) (Or.inr (by show some g ≠ some eb; exact ne_some hge))
    · rw [if_neg e, if_neg e]
      refine ((h.i b hb).kept hg (h.dd b a hb ha e)).kept (gsetCell _ _ _ _) (Or.inr (Ne.symm (h.d b hb)))
  · unfold updZ
    by_cases e : b = a
    · rw [if_pos e]; show some eb ≠ some g; exact ne_some (Ne.symm hge)
    · rw [if_neg e]; exact h.d b hb
  · unfold updZ
    by_cases e : b = a
    · by_cases e2 : c = a
      · omega
      · rw [if_pos e, if_neg e2]
        rcases oth c hc e2 with h1 | h1
        · exact Or.inr (by show some g ≠ _; rw [h1]; simp)
        · exact Or.inr (Ne.symm h1)
    · rw [if_neg e]
      by_cases e2 : c = a
      · rw [if_pos e2]; exact oth b hb e
      · rw [if_neg e2]; exact h.dd b c hb hc hne
/-- A look and the row. -/
structure Of1 (w0 : World) (d : Kd) (eb : Nat) (S : Nat → W.Sl) (L : Nat → List Int) (w : World) : Prop where
  k : LkF F0 w0 d w
  h : Bh w0.heap.size eb d.n S L w
  ap : ∀ c, PB eb d.n S c → d.no c
theorem Of1.back {w0 : World} {d d' : Kd} {eb : Nat} {S : Nat → W.Sl} {L : Nat → List Int} {w w' : World} (o : Of1 w0 d eb S L w) (h : LkF (frm (PB eb d.n S) w) w0 d' w') (hn : d'.n = d.n) : Of1 w0 d' eb S L w' := by
  have q := fun c hc => h.out c hc (o.h.lt c hc).2
  refine ⟨h.bare, ?_, ?_⟩
  · rw [hn]; exact o.h.same fun c hc => (q c hc).1
  · rw [hn]; exact fun c hc => (q c hc).2
theorem Of1.frame {w0 : World} {d : Kd} {eb : Nat} {S : Nat → W.Sl} {L : Nat → List Int} {w : World} (o : Of1 w0 d eb S L w) : LkF (frm (PB eb d.n S) w) w0 d w := o.k.frame _ o.ap
theorem Of1.below {w0 : World} {d : Kd} {eb : Nat} {S : Nat → W.Sl} {L : Nat → List Int} {w w' : World} (o : Of1 w0 d eb S L w) (hb : Below w.heap.size w w') : Of1 w0 d eb S L w' := ⟨o.k.below hb, o.h.below hb, o.ap⟩
theorem Of1.congr {w0 : World} {d : Kd} {eb : Nat} {S : Nat → W.Sl} {L M : Nat → List Int} {w : World} (o : Of1 w0 d eb S L w) (e : ∀ a, a < d.n → L a = M a) : Of1 w0 d eb S M w := ⟨o.k, o.h.congr e, o.ap⟩
theorem Of1.app {w0 : World} {d : Kd} {eb : Nat} {S : Nat → W.Sl} {L : Nat → List Int} {w w' : World} (o : Of1 w0 d eb S L w) (a : Nat) (ha : a < d.n) (x : Int) (g cap : Nat) (hg : w.grownBy w' (slV (S a)).ownBlock) (ho : w'.ownsRow w0.heap.size 3 1 (.slice (some ⟨g, 0, none⟩) ((L a).length + 1) cap) ((L a).length + 1) (intsV (L a) ++ [.int .i64 x])) (hat : (slV (S a)).ownBlock = some g ∨ g = w.heap.size) :
    Of1 w0 d eb (updZ S a ⟨some ⟨g, 0, none⟩, (L a).length + 1, cap⟩) (updLL L a (L a ++ [x])) (w'.setCell ⟨eb, a, none⟩ (.slice (some ⟨g, 0, none⟩) ((L a).length + 1) cap)) := by
  have ng : d.no g := by
    rcases hat with e | e
    · exact o.ap g (Or.inr ⟨a, ha, e.symm⟩)
    · exact o.k.new g (by omega)
  refine ⟨(o.k.away hg fun c e => ⟨((o.h.i a ha).lt c e).1, o.ap c (Or.inr ⟨a, ha, e.symm⟩)⟩).away (gsetCell _ _ _ _) (fun c e => by cases e; exact ⟨o.h.ne, o.ap eb (Or.inl rfl)⟩), o.h.app a ha x g cap hg ho hat, fun c hc => ?_⟩
  rcases hc with rfl | ⟨b, hb, e⟩
  · exact o.ap c (Or.inl rfl)
  · unfold updZ at e
    by_cases q : b = a
    · rw [if_pos q] at e
      have : c = g := Option.some.inj e
      rw [this]
      exact ng
    · rw [if_neg q] at e
      exact o.ap c (Or.inr ⟨b, hb, e⟩)
namespace W
/-- Those behind a, ahead of b, that have to stay there. -/
def ofN (x : Nat → Oz) (b a : Nat) : List Nat := (List.range b).filter fun m => decide (a < m) && (whyO x a m != 0)
def ofL (x : Nat → Oz) (b a : Nat) : List Int := (ofN x b a).map fun m : Nat => (m : Int)
theorem ofL_succ (x : Nat → Oz) (b a : Nat) : ofL x (b + 1) a = if a < b ∧ whyO x a b ≠ 0 then ofL x b a ++ [(b : Int)] else ofL x b a := by
  unfold ofL ofN
  rw [List.range_succ, List.filter_append, List.map_append]
  by_cases h : a < b ∧ whyO x a b ≠ 0
  · rw [if_pos h, List.filter_cons, List.filter_nil, if_pos (by simp [h])]; rfl
  · rw [if_neg h, List.filter_cons, List.filter_nil, if_neg (by simpa using h)]; simp
theorem ofL_len (x : Nat → Oz) (b a : Nat) : (ofL x b a).length ≤ b := by
  unfold ofL ofN
  rw [List.length_map]
  exact Nat.le_trans (List.length_filter_le _ _) (by simp)
/-- Behind j of the look's rules at b. -/
def ofJ (x : Nat → Oz) (b j a : Nat) : List Int := if a < j then ofL x (b + 1) a else ofL x b a
theorem ofJ_hit (x : Nat → Oz) (b j a : Nat) (hj : j < b) (hw : whyO x j b ≠ 0) : updLL (ofJ x b j) j (ofJ x b j j ++ [(b : Int)]) a = ofJ x b (j + 1) a := by
  unfold updLL ofJ
  by_cases e : a = j
  · subst e
    rw [if_pos rfl, if_neg (Nat.lt_irrefl _), if_pos (by omega), ofL_succ, if_pos ⟨hj, hw⟩]
  · rw [if_neg e]
    by_cases e2 : a < j
    · rw [if_pos e2, if_pos (by omega)]
    · rw [if_neg e2, if_neg (by omega)]
theorem ofJ_miss (x : Nat → Oz) (b j a : Nat) (hw : whyO x j b = 0) : ofJ x b j a = ofJ x b (j + 1) a := by
  unfold ofJ
  by_cases e : a = j
  · subst e
    rw [if_neg (Nat.lt_irrefl _), if_pos (by omega), ofL_succ, if_neg (fun h => h.2 hw)]
  · by_cases e2 : a < j
    · rw [if_pos e2, if_pos (by omega)]
    · rw [if_neg e2, if_neg (by omega)]
theorem ofJ_end (x : Nat → Oz) (b a : Nat) : ofJ x b b a = ofL x (b + 1) a := by
  unfold ofJ
  by_cases e : a < b
  · rw [if_pos e]
  · rw [if_neg e, ofL_succ, if_neg (fun h => e h.1)]
theorem ofJ_len (x : Nat → Oz) (b j a : Nat) : (ofJ x b j a).length ≤ b + 1 := by
  unfold ofJ
  split
  · exact ofL_len x (b + 1) a
  · have := ofL_len x b a; omega
end W
theorem make_rows (n : Nat) (hn : n ≤ 8192) (w : World) : (Instr.makeSlice 64 (.int .i64 (n : Int)) (.int .i64 (n : Int))).run Tryd.prog w = .ok (.slice (some ⟨w.heap.size, 0, none⟩) n n) (w.alloc (.cells (madeCells #[.slice none 0 0] n) 23)) := by
  obtain ⟨i, hi, hzz⟩ := Option.map_eq_some_iff.1 (show (Tryd.prog.info? 23).map (fun i => (i.zero, i.size, i.bytes)) = some (some (.slice none 0 0), 1, 24) by kernel_rfl)
  simp only [Prod.mk.injEq] at hzz
  obtain ⟨hz, hs, hb⟩ := hzz
  have hr := run_make (P := Tryd.prog) w 64 23 i _ Tryd.underlying64 hi hz .i64 .i64 n n (by omega) (by omega) (by rw [hb]; omega) (by omega)
  simp only [Int.toNat_natCast, hs, Nat.mul_one] at hr
  exact hr
theorem bh_made (base n : Nat) (w : World) (hb : base ≤ w.heap.size) : Bh base w.heap.size n (fun _ => W.Sl.nil) (fun _ => []) (w.alloc (.cells (madeCells #[.slice none 0 0] n) 23)) :=
  ⟨(Bc.made w #[.slice none 0 0] n 23).congr fun j hj => by show #[Value.slice none 0 0][j % 1]! = _; rw [Nat.mod_one]; rfl, hb, fun a ha => ⟨rfl, Or.inl ⟨rfl, rfl⟩⟩, fun a ha => by simp [slV, W.Sl.nil, Value.ownBlock], fun a b _ _ _ => Or.inl rfl⟩
theorem pb_made (eb n c : Nat) (h : PB eb n (fun _ => W.Sl.nil) c) : c = eb := by
  rcases h with h | ⟨a, _, e⟩
  · exact h
  · simp [slV, W.Sl.nil, Value.ownBlock] at e
end Go.Proofs.YtibohlbkkaghkaaDoor

/- Of. -/
namespace Go.Proofs.YtibohlbkkaghkaaDoor
open Go.ChangeShapes Go.WideShapes Go.ChangeAt Go.RowKit
set_option linter.unusedVariables false
set_option linter.unusedSimpArgs false

theorem news_i (x : Int) (w : World) : ∀ j u, [Value.int .i64 x][j]? = some u → (w.alloc (.cells #[.int .i64 x] 3)).cell? ((⟨w.heap.size, 0, none⟩ : Addr).add j) = some u := by
  intro j u hu
  match j, hu with
  | 0, hu =>
    simp at hu
    subst hu
    exact cell_of_row _ _ 0 _ _ (0, 0) (heap_alloc_last w _)
theorem of1_lk {w w1 w5 : World} {a : Option Addr} {n c kb ab pb rb hb : Nat} {P : Nat → Int} {A : Nat → W.Act} (eb : Nat) (hb1 : Below w.heap.size w w1) (L : LkF F0 w1 (kdU kb ab pb rb hb n (.slice a n c) P A) w5) (hB : Bh w.heap.size eb n (fun _ => W.Sl.nil) (fun _ => []) w5) (hno : (kdU kb ab pb rb hb n (.slice a n c) P A).no eb) : Of1 w (kdU kb ab pb rb hb n (.slice a n c) P A) eb (fun _ => W.Sl.nil) (fun _ => []) w5 :=
  ⟨L.rebase hb1, hB, fun x hx => by rw [pb_made eb _ x hx]; exact hno⟩
theorem lk_old {w1 w5 : World} {d : Kd} (L : LkF F0 w1 d w5) (hd : d.H = W.Sl.nil) (c : Nat) (hc : c < w1.heap.size) : d.no c := by
  have h1 := L.nk
  have h2 := L.na
  have h3 := L.np
  have h4 := L.nr
  have h5 := L.ng
  refine ⟨by omega, by omega, by omega, by omega, by omega, fun e => ?_⟩
  rw [hd] at e
  simp [slV, W.Sl.nil, Value.ownBlock] at e
set_option maxRecDepth 10000 in
set_option maxHeartbeats 3200000 in
theorem of_any (a : Option Addr) (n c : Nat) (x : Nat → W.Oz) (w : World) (hO : Ol a n x w) (hn : n ≤ 4000) (hz : ∀ j, j < n → W.OzOk (x j)) :
    Calls Tryd.prog 52 #[.slice a n c] w fun e w' => ∃ eb S, e = .returned (.slice (some ⟨eb, 0, none⟩) n n) ∧ Bh w.heap.size eb n S (W.ofL x n) w' ∧ Below w.heap.size w w' := by
  obtain ⟨it, ht, hzz⟩ := Option.map_eq_some_iff.1 (show (Tryd.prog.info? 3).map (fun i => (i.zero, i.size, i.bytes)) = some (some (.int .i64 0), 1, 8) by kernel_rfl)
  simp only [Prod.mk.injEq] at hzz
  obtain ⟨hy0, hy1, hy2⟩ := hzz
  obtain ⟨OB, hOB, hmB⟩ : ∃ o : Obj, Hid (o = (.cells (madeCells #[.slice none 0 0] n) 23)) ∧ ∀ w, (Instr.makeSlice 64 (.int .i64 (n : Int)) (.int .i64 (n : Int))).run Tryd.prog w = .ok (.slice (some ⟨w.heap.size, 0, none⟩) n n) (w.alloc o) := ⟨_, rfl, make_rows n (by omega)⟩
  have hLk := fun w' (hb : Below w.heap.size w w') => lookAt_any a n c x w' (hO.below hb) (by omega) (fun j hj => ⟨(hz j hj).z0, (hz j hj).z1⟩)
  have HH : Hid (_ ∧ _ ∧ _) := ⟨hLk, hO, hz⟩
  clear hLk hO hz
  go_enter Tryd.func52, Tryd.ntmps52
  go_wp2_with (fail)
  go_cut [3, 4] from 8 to 13 (fun v k wx => ∃ eb kb ab pb rb hb, v = .slice (some ⟨eb, 0, none⟩) n n ∧ k = .pointer (some ⟨kb, 0, none⟩) ∧ Of1 w (kdU kb ab pb rb hb n (.slice a n c) (W.pairO x) fun i => W.actO (x i).o) eb (fun _ => W.Sl.nil) (fun _ => []) wx)
  case first =>
    go_region_with ((go_at_call 58; refine (HH.out.1 _ (by first | exact (Below.refl _ _).drew | exact ((Below.refl _ _).alloc (Nat.le_refl _) _).drew)).mono ?_; rintro e w5 ⟨kb, ab, pb, rb, hb, rfl, L5⟩))
    all_goals
      go_wp2
      go_meet
      case rel => (first
        | exact ⟨w.heap.size, kb, ab, pb, rb, hb, rfl, rfl, of1_lk w.heap.size ((Below.refl _ _).alloc (Nat.le_refl _) OB).drew L5 (by have := bh_made w.heap.size n w (Nat.le_refl _); rw [← hOB.out] at this; exact (this.below (Below.refl _ _).drew).below L5.bl) (lk_old L5 rfl _ (by show w.heap.size < (w.alloc OB).heap.size; simp))⟩
        | exact ⟨w5.heap.size, kb, ab, pb, rb, hb, rfl, rfl, of1_lk w5.heap.size (Below.refl _ _).drew (L5.below ((Below.refl _ _).alloc (Nat.le_refl _) OB)) (by have := bh_made w.heap.size n w5 L5.bl.size; rw [← hOB.out] at this; exact this) (L5.new _ (Nat.le_refl _))⟩)
  case rest =>
    obtain ⟨eb, kb, ab, pb, rb, hb, rfl, rfl, hL⟩ := hcut
    have hL0 : Of1 w (kdU kb ab pb rb hb n (.slice a n c) (W.pairO x) (W.acts x 0)) eb (fun _ => W.Sl.nil) (W.ofL x 0) wc := ⟨LkF.congrA (d := kdU kb ab pb rb hb n (.slice a n c) (W.pairO x) (W.acts x 0)) (A := fun i => W.actO (x i).o) hL.k (fun i _ => (W.acts_zero x i).symm), hL.h, hL.ap⟩
    have HL0 : Hid _ := hL0
    clear hL hL0 hmB
    go_wp2
    go_loopw [15] (fun i wr => ∃ b : Nat, b ≤ n ∧ i = .int .i64 (b : Int) ∧ ∃ S R G B k H hid, Of1 w ⟨kb, ab, pb, rb, hb, n, .slice a n c, W.acts x b, W.pairO x, R, G, B, k, H, hid⟩ eb S (W.ofL x b) wr) (fun i _ => n - (intOf i).toNat)
    case atStart => exact ⟨0, by omega, rfl, _, _, _, _, _, _, _, HL0.out⟩
    case round =>
      clear HL0
      obtain ⟨b, hbn, rfl, S, R, G, B, k, H, hid, hL⟩ := hrel
      by_cases hlt : b < n
      · obtain ⟨g, o, rfl, hx⟩ := HH.out.2.1.at_ (by omega)
        have hBk := back2_any w _ wr hL.frame b 0 (Nat.zero_le _) (by show b < n; omega) (by show n ≤ 4000; omega) g o c rfl x (fun j hj => hx j (by omega)) (fun j hj => W.acts_sp x b j (HH.out.2.2 j hj))
        try dsimp only at hBk
        have hbI : (b : Int) < (n : Int) := by omega
        have HB : Hid (Calls _ _ _ _ _ ∧ _ ∧ _) := ⟨hBk, hL, hx⟩
        clear hBk hL hx
        go_wp2_with (fail)
        refine HB.out.1.mono ?_
        rintro e w2 ⟨rfl, B2, k2, H2, hid2, G2, R2, L2, hR⟩
        have o2 := HB.out.2.1.back L2 rfl
        try dsimp only at o2
        have hRw : ∀ q, q < b → R2 q = W.whyO x q b := fun q hq => hR q (Nat.zero_le _) hq
        have c3 := o2.k.k.c 3 (by decide)
        have kl := o2.k.k.lt
        simp only [Kd.f] at c3 kl
        have HO : Hid (_ ∧ _ ∧ _) := ⟨o2.congr (M := W.ofJ x b 0) (fun q _ => by unfold W.ofJ; rw [if_neg (by omega)]), hRw, HB.out.2.2⟩
        clear o2 L2 hR hRw HB
        go_wp2
        go_loopw [28] (fun i wr => ∃ j : Nat, j ≤ b ∧ i = .int .i64 (j : Int) ∧ ∃ S, Of1 w ⟨kb, ab, pb, rb, hb, n, .slice (some ⟨g, o, none⟩) n c, W.acts x b, W.pairO x, R2, G2, B2, k2, H2, hid2⟩ eb S (W.ofJ x b j) wr) (fun i _ => b - (intOf i).toNat)
        case atStart => exact ⟨0, by omega, rfl, _, HO.out.1⟩
        case round =>
          clear c3 kl
          obtain ⟨j, hjb, rfl, S3, o3⟩ := hrel
          by_cases hj : j < b
          · have hjI : (j : Int) < (b : Int) := by omega
            have hjn : (j : Int) < (n : Int) := by omega
            have rj := o3.k.r.c j (by show j < n; omega)
            have rl := o3.k.r.lt
            have ej := o3.h.e.c j (by show j < n; omega)
            have el := o3.h.e.lt
            have ef := o3.h.e.fz j
            have hw := HO.out.2.1 j hj
            dsimp only at rj rl
            rw [hw] at rj
            have hlen := W.ofJ_len x b j j
            have oj := o3.h.i j (by show j < n; omega)
            by_cases q0 : W.whyO x j b = 0
            · rw [q0] at rj
              have X := o3.congr (M := W.ofJ x b (j + 1)) (fun q _ => W.ofJ_miss x b j q q0)
              have HX : Hid _ := X
              clear X o3 oj q0 hw hlen ej el ef
              go_wp2
              go_roundw
              case rel => exact ⟨j + 1, by omega, by go_num, S3, HX.out⟩
              case measure => simp [intOf]; omega
            · have q1 : (W.whyO x j b != 0) = true := by simpa using q0
              have al := (Below.refl wr.heap.size wr).alloc (Nat.le_refl _) (.cells #[.int .i64 (b : Int)] 3)
              have oA := o3.below al
              have n5 := news_i (b : Int) wr
              have d3 : ∀ u ∈ [Value.int .i64 (b : Int)], u.oneCell' = true := by intro u hu; simp at hu; rw [hu]; rfl
              have d6 : w.heap.size ≤ (wr.alloc (.cells #[.int .i64 (b : Int)] 3)).heap.size := by have := o3.k.bl.size; simp; omega
              have d7 : (wr.alloc (.cells #[.int .i64 (b : Int)] 3)).heap.size = wr.heap.size + 1 := by simp
              have hit := fun q => W.ofJ_hit x b j q hj q0
              have ew : eb ≠ wr.heap.size := by omega
              have HX : Hid (_ ∧ _ ∧ _ ∧ _ ∧ _ ∧ _ ∧ _ ∧ _) := ⟨oA, n5, d3, d6, d7, hit, hlen, oA.h.i j (by show j < n; omega)⟩
              clear oA n5 d3 d6 d7 hit o3 oj q0 hw al
              generalize W.whyO x j b = WY at *
              generalize hLJ : W.ofJ x b j j = LJ at *
              generalize hSJ : slV (S3 j) = SJ at *
              have HS : Hid (_ ∧ _) := ⟨hLJ, hSJ⟩
              clear hLJ hSJ
              go_wp2_with (at_builtin; refine wpList_append_lies _ rfl _ _ 23 rfl w.heap.size 3 it (.int .i64 0) 1 8 Tryd.underlying23 ht hy0 hy1 hy2 rfl (by decide) SJ LJ.length (intsV LJ) rfl HX.out.2.2.2.2.2.2.2 ⟨wr.heap.size, 0, none⟩ 1 1 [.int .i64 (b : Int)] rfl rfl HX.out.2.1 HX.out.2.2.1 (by decide) (by have := HX.out.2.2.2.2.2.2.1; unfold maxLen; omega) (by have := HX.out.2.2.2.2.2.2.1; omega) HX.out.2.2.2.1 (wr.heap.size + 1) HX.out.2.2.2.2.1 ?_)
              intro g5 cap5 w5 own5 hg5 hat5 hlt5
              have X5 := HX.out.1.app j (by show j < n; omega) (b : Int) g5 cap5 (by rw [HS.out.2]; exact hg5) (by rw [HS.out.1]; exact own5) (by rw [HS.out.2, HX.out.2.2.2.2.1]; exact hat5)
              rw [HS.out.1] at X5
              have X6 := X5.congr (M := W.ofJ x b (j + 1)) (fun q _ => HX.out.2.2.2.2.2.1 q)
              have ej5 : w5.cell? ⟨eb, j, none⟩ = some SJ := by
                have := (HX.out.1.h.e.grown hg5 (by rw [← HS.out.2]; exact HX.out.1.h.d j (by show j < n; omega))).c j (by show j < n; omega)
                rw [this, HS.out.2]
              have ef5 : w5.frozen? ⟨eb, j, none⟩ = false := (HX.out.1.h.e.grown hg5 (by rw [← HS.out.2]; exact HX.out.1.h.d j (by show j < n; omega))).fz j
              have el5 : eb < w5.heap.size := (HX.out.1.h.e.grown hg5 (by rw [← HS.out.2]; exact HX.out.1.h.d j (by show j < n; omega))).lt
              have HX6 : Hid _ := X6
              clear X5 X6 own5 hg5 hat5 HX HS ej el ef rj rl hlen
              go_wp2
              go_roundw
              case rel => exact ⟨j + 1, by omega, by go_num, _, HX6.out⟩
              case measure => simp [intOf]; omega
          · have ejb : j = b := by omega
            subst ejb
            have hjI : ¬ (j : Int) < (j : Int) := by omega
            have o4 := o3.congr (M := W.ofL x (j + 1)) (fun q _ => W.ofJ_end x j q)
            have hLd := lead_any w _ wr o4.frame j (by show j < n; omega) (by show n ≤ 4096; omega) (fun i => W.acts_rg x j i) g o c rfl (x j) (HO.out.2.2 j (by omega))
            try dsimp only at hLd
            have HD : Hid (Calls _ _ _ _ _ ∧ _) := ⟨hLd, o4⟩
            clear hLd o3 o4
            go_wp2_with (fail)
            refine HD.out.1.mono ?_
            rintro e w2 ⟨rfl, L2⟩
            have L3 := LkF.congrA (d := ⟨kb, ab, pb, rb, hb, n, .slice (some ⟨g, o, none⟩) n c, W.acts x j, W.pairO x, R2, G2, B2, k2, H2, hid2⟩) (B := W.acts x (j + 1)) L2 (fun i _ => W.acts_succ x j i)
            have o5 := HD.out.2.back L3 rfl
            try dsimp only at o5
            have HO5 : Hid _ := o5
            clear L2 L3 HD o5
            go_wp2
            go_roundw
            case rel => exact ⟨j + 1, by omega, by go_num, _, _, _, _, _, _, _, HO5.out⟩
            case measure => simp [intOf]; omega
      · have e : b = n := by omega
        subst e
        have HF : Hid (_ ∧ _) := ⟨hL.h, hL.k.bl⟩
        clear hL
        go_wp2
        go_ret
        first | exact ⟨eb, rfl, ⟨S, HF.out.1⟩, HF.out.2⟩ | exact ⟨eb, S, rfl, HF.out.1, HF.out.2⟩
end Go.Proofs.YtibohlbkkaghkaaDoor

/- wmo: harts that do not go as their lists do. -/
namespace Go.Proofs.YtibohlbkkaghkaaDoor
open Go.ChangeShapes Go.WideShapes Go.ChangeAt Go.RowKit
set_option linter.unusedVariables false
set_option linter.unusedSimpArgs false

namespace W
def inTb (f : Nat → Int) (n : Nat) : Bool := (List.range n).all fun j => (f j == 0) || decide (mx f j ≤ f j)
theorem inTb_no {f : Nat → Int} {n j : Nat} (hj : j < n) (h0 : f j ≠ 0) (h1 : f j < mx f j) : inTb f n = false := by
  unfold inTb
  rw [List.all_eq_false]
  refine ⟨j, List.mem_range.2 hj, ?_⟩
  simp [h0]
  omega
theorem inTb_yes {f : Nat → Int} {n : Nat} (h : ∀ j, j < n → f j = 0 ∨ mx f j ≤ f j) : inTb f n = true := by
  unfold inTb
  rw [List.all_eq_true]
  intro j hj
  rcases h j (List.mem_range.1 hj) with h | h
  · simp [h]
  · simp [h]
/-- Does one that has to stay behind a lie ahead of it? -/
def ahd (x : Nat → Oz) (f : Nat → Int) (n a : Nat) : Bool := (ofL x n a).any fun b => decide (f b.toNat < f a)
def tnF (x : Nat → Oz) (f : Nat → Int) (n : Nat) : Nat → Int
  | 0 => 0
  | j + 1 => bif ((tnF x f n j == 0) || decide (f j < tnF x f n j)) && ahd x f n j then f j else tnF x f n j
def tin (x : Nat → Oz) (f : Nat → Int) (n : Nat) : Int := bif inTb f n then 0 else tnF x f n n
def turF (t : Nat → Int) : Nat → Int
  | 0 => 0
  | j + 1 => bif decide (0 < t j) && ((turF t j == 0) || decide (t j < turF t j)) then t j else turF t j
theorem ofL_bd (x : Nat → Oz) (n a : Nat) (b : Int) (hb : b ∈ ofL x n a) : 0 ≤ b ∧ b < (n : Int) := by
  unfold ofL ofN at hb
  rw [List.mem_map] at hb
  obtain ⟨m, hm, rfl⟩ := hb
  have := List.mem_range.1 (List.mem_filter.1 hm).1
  omega
end W
theorem li_own {w : World} {base : Nat} {s : W.Sl} {l : List Int} (h : w.ownsRow base 3 1 (slV s) l.length (intsV l)) (hl : l.length ≤ 4096) : Li s l w := by
  obtain ⟨a, n, c⟩ := s
  obtain ⟨h1, h2⟩ := id h
  rcases h2 with ⟨e, h0⟩ | ⟨g, cap, cur, e, e2, e3, e4, e5⟩
  · simp [slV] at e
    obtain ⟨rfl, rfl, rfl⟩ := e
    exact ⟨by show 0 = _; omega, by show 0 ≤ 4096; omega, Nat.le_refl _, fun h => absurd h (by show ¬ 0 < 0; omega)⟩
  · simp [slV] at e
    obtain ⟨rfl, rfl, rfl⟩ := e
    refine ⟨rfl, hl, e4, fun _ => ⟨g, 0, rfl, (Array.getElem?_eq_some_iff.1 e3).1, fun j x hx => ?_⟩⟩
    have := h.cells (g := g) rfl j (.int .i64 x) (by simp [intsV, hx])
    have e0 : (⟨g, 0, none⟩ : Addr).add j = ⟨g, 0 + j, none⟩ := by
      unfold Addr.add
      by_cases h : j = 0
      · subst h; rfl
      · simp [h]
    rw [e0] at this
    exact this
set_option maxHeartbeats 800000 in
theorem inTurn2_any (pb n : Nat) (f : Nat → Int) (w : World) (h : Bc pb n (fun i => .int .i64 (f i)) w) (hn : n ≤ 4096) :
    Calls Tryd.prog 51 #[.slice (some ⟨pb, 0, none⟩) n n] w fun e w' => e = .returned (.bool (W.inTb f n)) ∧ w = w' := by
  have lt := h.lt
  have HH : Hid _ := h.c
  clear h
  go_enter Tryd.func51, Tryd.ntmps51
  go_wp2
  go_loopw [3, 8] (fun s i wr => ∃ j : Nat, j ≤ n ∧ s = .int .i64 (W.mx f j) ∧ i = .int .i64 (j : Int) ∧ (∀ q, q < j → f q = 0 ∨ W.mx f q ≤ f q) ∧ wr = w) (fun _ i _ => n - (intOf i).toNat)
  case atStart => exact ⟨0, by omega, rfl, rfl, fun q hq => by omega, rfl⟩
  case round =>
    obtain ⟨j, hj, rfl, rfl, hq, rfl⟩ := hrel
    by_cases hlt : j < n
    · have g0 := HH.out j hlt
      have hjn : (j : Int) < (n : Int) := by omega
      have e1 : W.mx f (j + 1) = max (W.mx f j) (f j) := rfl
      have hno := fun h0 h1 => W.inTb_no (f := f) (n := n) hlt h0 h1
      have hgo : f j = 0 ∨ W.mx f j ≤ f j → ∀ q, q < j + 1 → f q = 0 ∨ W.mx f q ≤ f q := fun h q hq2 => by
        by_cases e : q = j
        · rw [e]; exact h
        · exact hq q (by omega)
      have HQ : Hid (_ ∧ _) := ⟨hno, hgo⟩
      clear hno hgo hq
      generalize f j = p at *
      generalize W.mx f j = T at *
      by_cases hp : p = 0
      · subst hp
        go_wp2
        go_roundw
        case rel => exact ⟨j + 1, by omega, by first | rw [e1] | (rw [e1]; simp), by go_num, HQ.out.2 (Or.inl rfl), trivial⟩
        case measure => simp [intOf]; omega
      · have r1 : (p != 0) = true := by simpa using hp
        by_cases r2 : p < T
        · have e2 := HQ.out.1 hp r2
          have HE : Hid _ := e2
          clear e2
          go_wp2
          go_ret
          exact ⟨congrArg (fun b => Ending.returned (.bool b)) HE.out.symm, rfl⟩
        · go_wp2
          go_roundw
          case rel => exact ⟨j + 1, by omega, by first | rw [e1] | (rw [e1]; simp), by go_num, HQ.out.2 (Or.inr (by omega)), trivial⟩
          case measure => simp [intOf]; omega
    · have hjn : ¬ (j : Int) < (n : Int) := by omega
      have e2 : W.inTb f n = true := W.inTb_yes fun q h => hq q (by omega)
      have HE : Hid _ := e2
      clear hq e2
      generalize W.mx f j = T at *
      go_wp2
      go_ret
      exact ⟨congrArg (fun b => Ending.returned (.bool b)) HE.out.symm, rfl⟩
set_option maxHeartbeats 800000 in
theorem anyAhead_any (s : W.Sl) (l : List Int) (pb n : Nat) (f : Nat → Int) (p : Int) (w : World) (hL : Li s l w) (h : Bc pb n (fun i => .int .i64 (f i)) w) (hl : ∀ b ∈ l, 0 ≤ b ∧ b < (n : Int)) :
    Calls Tryd.prog 53 #[slV s, .slice (some ⟨pb, 0, none⟩) n n, .int .i64 p] w fun e w' => e = .returned (.bool (l.any fun b => decide (f b.toNat < p))) ∧ w = w' := by
  obtain ⟨hn, hm, _, hc⟩ := hL
  obtain ⟨a, m, c⟩ := s
  simp only at hn hm hc
  subst hn
  have lt := h.lt
  have HK : Hid (_ ∧ _ ∧ _) := ⟨hc, h.c, hl⟩
  clear hc hl h
  unfold slV
  go_enter Tryd.func53, Tryd.ntmps53
  go_wp2
  go_loopw [11] (fun i wr => ∃ j : Nat, j ≤ l.length ∧ i = .int .i64 j ∧ (∀ q y, q < j → l[q]? = some y → ¬ f y.toNat < p) ∧ wr = w) (fun i _ => l.length - (intOf i).toNat)
  case atStart => exact ⟨0, by omega, rfl, fun q y hq => by omega, rfl⟩
  case round =>
    obtain ⟨j, hj, rfl, hq, rfl⟩ := hrel
    by_cases hlt : j < l.length
    · obtain ⟨b, o, rfl, hb, hc⟩ := HK.out.1 (by omega)
      have ex : l[j]? = some l[j] := List.getElem?_eq_getElem hlt
      have g0 := hc j l[j] ex
      have g1 := HK.out.2.2 l[j] (List.getElem_mem hlt)
      have hjn : (j : Int) < (l.length : Int) := by omega
      have hyes : f l[j].toNat < p → (l.any fun b => decide (f b.toNat < p)) = true := fun h => List.any_eq_true.2 ⟨l[j], List.getElem_mem hlt, by simpa using h⟩
      clear hc
      generalize l[j] = x at *
      obtain ⟨k, rfl⟩ := Int.eq_ofNat_of_zero_le g1.1
      have g2 := HK.out.2.1 k (by omega)
      have g3 := g1.2
      rw [Int.toNat_natCast] at hyes
      have hgo : ¬ f k < p → ∀ q y, q < j + 1 → l[q]? = some y → ¬ f y.toNat < p := fun h q y hq2 hy => by
        by_cases e : q = j
        · rw [e, ex] at hy
          cases hy
          rw [Int.toNat_natCast]
          exact h
        · exact hq q y (by omega) hy
      have HQ : Hid (_ ∧ _) := ⟨hyes, hgo⟩
      clear hyes hgo hq ex g1
      try dsimp only at g2
      generalize f k = F at *
      by_cases r2 : F < p
      · have e2 := HQ.out.1 r2
        have HE : Hid _ := e2
        clear e2
        go_wp2
        go_ret
        exact ⟨congrArg (fun b => Ending.returned (.bool b)) HE.out.symm, rfl⟩
      · go_wp2
        go_roundw
        case rel => exact ⟨j + 1, by omega, by go_num, HQ.out.2 r2, trivial⟩
        case measure => simp [intOf]; omega
    · have hjn : ¬ (j : Int) < (l.length : Int) := by omega
      have e2 : (l.any fun b => decide (f b.toNat < p)) = false := by
        rw [List.any_eq_false]
        intro y hy
        obtain ⟨q, hq1, rfl⟩ := List.getElem_of_mem hy
        simpa using hq q _ (by omega) (List.getElem?_eq_getElem hq1)
      have HE : Hid _ := e2
      clear hq e2
      go_wp2
      go_ret
      exact ⟨congrArg (fun b => Ending.returned (.bool b)) HE.out.symm, rfl⟩
set_option maxHeartbeats 1600000 in
theorem turnedIn2_any (a : Option Addr) (c : Nat) (x : Nat → W.Oz) (pb n : Nat) (f : Nat → Int) (w : World) (hO : Ol a n x w) (hz : ∀ j, j < n → W.OzOk (x j)) (h : Bc pb n (fun i => .int .i64 (f i)) w) (hn : n ≤ 4000) :
    Calls Tryd.prog 38 #[.slice a n c, .slice (some ⟨pb, 0, none⟩) n n] w fun e w' => e = .returned (.int .i64 (W.tin x f n)) ∧ Below w.heap.size w w' := by
  have hi := inTurn2_any pb n f w h (by omega)
  have hof := of_any a n c x w hO hn hz
  unfold W.tin
  have HH : Hid (Calls _ _ _ _ _ ∧ Calls _ _ _ _ _ ∧ _) := ⟨hi, hof, h⟩
  clear hi hof h hO hz
  generalize W.inTb f n = IT at *
  cases IT
  · go_enter Tryd.func38, Tryd.ntmps38
    go_wp2_with (fail)
    refine HH.out.1.mono ?_
    rintro e w1 ⟨rfl, rfl⟩
    go_wp2_with (fail)
    refine HH.out.2.1.mono ?_
    rintro e w2 ⟨eb, S, rfl, hB, bl⟩
    have hP := HH.out.2.2.below bl
    have el := hB.e.lt
    have pl := hP.lt
    have HB : Hid (_ ∧ _ ∧ _) := ⟨hB, hP, bl⟩
    clear hB hP bl HH
    go_wp2
    go_loopw [5, 13] (fun t i wr => ∃ j : Nat, j ≤ n ∧ t = .int .i64 (W.tnF x f n j) ∧ i = .int .i64 (j : Int) ∧ wr = w2) (fun _ i _ => n - (intOf i).toNat)
    case atStart => exact ⟨0, by omega, rfl, rfl, rfl⟩
    case round =>
      obtain ⟨j, hj, rfl, rfl, rfl⟩ := hrel
      by_cases hlt : j < n
      · have hjn : (j : Int) < (n : Int) := by omega
        have ej := HB.out.1.e.c j hlt
        have pj := HB.out.2.1.c j hlt
        have hA := anyAhead_any (S j) (W.ofL x n j) pb n f (f j) wr (li_own (HB.out.1.i j hlt) (by have := W.ofL_len x n j; omega)) HB.out.2.1 (fun b hb => W.ofL_bd x n j b hb)
        have ht : W.tnF x f n (j + 1) = bif ((W.tnF x f n j == 0) || decide (f j < W.tnF x f n j)) && W.ahd x f n j then f j else W.tnF x f n j := rfl
        change Calls _ _ _ _ (fun e w' => e = .returned (.bool (W.ahd x f n j)) ∧ _) at hA
        have HA : Hid (Calls _ _ _ _ _ ∧ _) := ⟨hA, ht⟩
        clear hA ht
        try dsimp only at ej pj
        generalize slV (S j) = SJ at *
        generalize f j = p at *
        generalize W.tnF x f n j = T at *
        generalize W.ahd x f n j = AN at *
        cases e0 : (T == 0)
        · by_cases r : p < T
          · have e1 : decide (p < T) = true := by simpa using r
            rw [e0, e1] at HA
            go_wp2_with (fail)
            refine HA.out.1.mono ?_
            rintro e w1 ⟨rfl, rfl⟩
            cases AN
            · go_wp2
              go_roundw
              case rel => exact ⟨j + 1, by omega, by rw [HA.out.2]; rfl, by go_num, trivial⟩
              case measure => simp [intOf]; omega
            · go_wp2
              go_roundw
              case rel => exact ⟨j + 1, by omega, by rw [HA.out.2]; rfl, by go_num, trivial⟩
              case measure => simp [intOf]; omega
          · have e1 : decide (p < T) = false := by simpa using r
            rw [e0, e1] at HA
            go_wp2
            go_roundw
            case rel => exact ⟨j + 1, by omega, by rw [HA.out.2]; rfl, by go_num, trivial⟩
            case measure => simp [intOf]; omega
        · rw [e0] at HA
          go_wp2_with (fail)
          refine HA.out.1.mono ?_
          rintro e w1 ⟨rfl, rfl⟩
          cases AN
          · go_wp2
            go_roundw
            case rel => exact ⟨j + 1, by omega, by rw [HA.out.2]; rfl, by go_num, trivial⟩
            case measure => simp [intOf]; omega
          · go_wp2
            go_roundw
            case rel => exact ⟨j + 1, by omega, by rw [HA.out.2]; rfl, by go_num, trivial⟩
            case measure => simp [intOf]; omega
      · have e : j = n := by omega
        subst e
        have hjn : ¬ (j : Int) < (j : Int) := by omega
        have bl := HB.out.2.2
        clear HB
        go_wp2
        go_ret
        exact ⟨rfl, bl⟩
  · go_enter Tryd.func38, Tryd.ntmps38
    go_wp2_with (fail)
    refine HH.out.1.mono ?_
    rintro e w1 ⟨rfl, rfl⟩
    go_wp2
    go_ret
    exact ⟨rfl, Below.refl _ _⟩
theorem W.vd_oz {K : Nat} {n : Nat → Nat} {x : Nat → Nat → W.Oz} (v : W.Vd K n x) (h : Nat) (hh : h < K) (j : Nat) (hj : j < n h) : W.OzOk (x h j) := by
  have b := (v.s h hh).b j hj
  refine ⟨?_, ?_, (v.s h hh).a0 j hj, (v.s h hh).a1 j hj⟩
  · unfold W.FitB at b; omega
  · unfold W.FitB at b; omega
set_option maxHeartbeats 800000 in
theorem turned2_any (b K KC : Nat) (a : Nat → Option Addr) (n c : Nat → Nat) (x : Nat → Nat → W.Oz) (base PB : Nat) (pb : Nat → Nat) (f : Nat → Nat → Int) (w : World) (h : Hs b K a n c x w) (v : W.Vd K n x) (hP : Pl base PB K n pb f K w) (h4 : ∀ h, h < K → n h ≤ 4000) :
    Calls Tryd.prog 27 #[.slice (some ⟨b, 0, none⟩) K KC, .slice (some ⟨PB, 0, none⟩) K K] w fun e w' => e = .returned (.int .i64 (W.turF (fun h => W.tin (x h) (f h) (n h)) K)) ∧ Below w.heap.size w w' := by
  have k1 := v.k
  have HH : Hid (_ ∧ _ ∧ _ ∧ _) := ⟨h, v, hP, h4⟩
  clear h v hP h4
  go_enter Tryd.func27, Tryd.ntmps27
  go_wp2
  go_loopw [5, 11] (fun s i wr => ∃ j : Nat, j ≤ K ∧ s = .int .i64 (W.turF (fun h => W.tin (x h) (f h) (n h)) j) ∧ i = .int .i64 (j : Int) ∧ Below w.heap.size w wr) (fun _ i _ => K - (intOf i).toNat)
  case atStart => exact ⟨0, by omega, rfl, rfl, Below.refl _ _⟩
  case round =>
    obtain ⟨j, hj, rfl, rfl, br⟩ := hrel
    by_cases hlt : j < K
    · have hS := HH.out.1.below br
      have hQ := HH.out.2.2.1.below br
      have lt := hS.lt
      have pl := hQ.o.lt
      have g0 := hS.cl j hlt
      have q0 := hQ.o.c j hlt
      rw [if_pos hlt] at q0
      have hjn : (j : Int) < (K : Int) := by omega
      have ti := turnedIn2_any (a j) (c j) (x j) (pb j) (n j) (f j) wr (hS.ol j hlt) (fun i hi => W.vd_oz HH.out.2.1 j hlt i hi) (hQ.i j hlt) (HH.out.2.2.2 j hlt)
      have hs : W.turF (fun h => W.tin (x h) (f h) (n h)) (j + 1) = bif decide (0 < W.tin (x j) (f j) (n j)) && ((W.turF (fun h => W.tin (x h) (f h) (n h)) j == 0) || decide (W.tin (x j) (f j) (n j) < W.turF (fun h => W.tin (x h) (f h) (n h)) j)) then W.tin (x j) (f j) (n j) else W.turF (fun h => W.tin (x h) (f h) (n h)) j := rfl
      have HT : Hid (Calls _ _ _ _ _ ∧ _ ∧ _) := ⟨ti, hs, br⟩
      clear ti hs hS hQ br
      generalize W.tin (x j) (f j) (n j) = t at *
      generalize hT : W.turF (fun h => W.tin (x h) (f h) (n h)) j = T at *
      clear hT
      generalize n j = nj at *
      generalize a j = aj at *
      generalize c j = cj at *
      generalize pb j = pj at *
      go_wp2_with (fail)
      refine HT.out.1.mono ?_
      rintro e w1 ⟨rfl, b1⟩
      have B1 := HT.out.2.2.trans (b1.mono HT.out.2.2.size)
      clear b1 g0 q0 lt pl
      by_cases r0 : 0 < t
      · have d0 : decide (0 < t) = true := by simpa using r0
        cases e0 : (T == 0)
        · by_cases r : t < T
          · have d1 : decide (t < T) = true := by simpa using r
            rw [d0, e0, d1] at HT
            go_wp2
            go_roundw
            case rel => exact ⟨j + 1, by omega, by rw [HT.out.2.1]; rfl, by go_num, B1⟩
            case measure => simp [intOf]; omega
          · have d1 : decide (t < T) = false := by simpa using r
            rw [d0, e0, d1] at HT
            go_wp2
            go_roundw
            case rel => exact ⟨j + 1, by omega, by rw [HT.out.2.1]; rfl, by go_num, B1⟩
            case measure => simp [intOf]; omega
        · rw [d0, e0] at HT
          go_wp2
          go_roundw
          case rel => exact ⟨j + 1, by omega, by rw [HT.out.2.1]; rfl, by go_num, B1⟩
          case measure => simp [intOf]; omega
      · have d0 : decide (0 < t) = false := by simpa using r0
        rw [d0] at HT
        go_wp2
        go_roundw
        case rel => exact ⟨j + 1, by omega, by rw [HT.out.2.1]; rfl, by go_num, B1⟩
        case measure => simp [intOf]; omega
    · have e : j = K := by omega
      subst e
      have hjn : ¬ (j : Int) < (j : Int) := by omega
      go_wp2
      go_ret
      exact ⟨rfl, br⟩
end Go.Proofs.YtibohlbkkaghkaaDoor

/- wmo: Check of operations that can be, in an order that names each once. -/
namespace Go.Proofs.YtibohlbkkaghkaaDoor
open Go.ChangeShapes Go.WideShapes Go.ChangeAt Go.RowKit Go.Maps
set_option linter.unusedVariables false
set_option linter.unusedSimpArgs false

/-- What Check is given, and what comes of it. -/
structure Ck2 (b K KC : Nat) (a : Nat → Option Addr) (n c : Nat → Nat) (x : Nat → Nat → W.Oz) (S : Nat → Nat → S3) (oa : Option Addr) (N : Nat) (r : Nat → Nat × Nat) (cb : Nat) (A : Nat → Addr) (w : World) : Prop where
  hf : Hf b K a n c x S w
  v : W.Vd K n x
  os : Os oa N r w
  or_ : W.Or K n x N r
  n4 : ∀ h, h < K → n h ≤ 4000
  fz : Fz cb w
  st : Sent A w
  nl : N ≤ 4096
  fr : ∀ p, p < N + 1 → W.rds (W.stp x S n (W.plc r N) K N p).o.k = true → ∀ k, k < (W.stp x S n (W.plc r N) K N p).o.sz.toNat → W.FrO (W.stp x S n (W.plc r N) K N) (N + 1) ((W.stp x S n (W.plc r N) K N p).fr k) ((W.stp x S n (W.plc r N) K N p).o.ad + k)
  lr : ∀ p, p < N + 1 → 0 ≤ (W.stp x S n (W.plc r N) K N p).lr ∧ (W.stp x S n (W.plc r N) K N p).lr < ((N + 1 : Nat) : Int)
  l4 : ∀ p, p < N + 1 → 0 < (W.stp x S n (W.plc r N) K N p).lr → (W.stp x S n (W.plc r N) K N (W.stp x S n (W.plc r N) K N p).lr.toNat).o.ad + 4 ≤ 4294967296
set_option maxRecDepth 10000 in
set_option maxHeartbeats 1600000 in
theorem check2_ok (b K KC : Nat) (a : Nat → Option Addr) (n c : Nat → Nat) (x : Nat → Nat → W.Oz) (S : Nat → Nat → S3) (oa : Option Addr) (N oc : Nat) (r : Nat → Nat × Nat) (cb : Nat) (A : Nat → Addr) (w : World) (h : Ck2 b K KC a n c x S oa N r cb A w) (tu : W.turF (fun h => W.tin (x h) (W.plc r N h) (n h)) K = 0) (m1 : Nat) (m1h : m1 = N + 1) (m2 : Nat) (m2h : m2 = N + 1) (hok : ∀ p, p < m1 → W.okR (W.stp x S n (W.plc r N) K N) p) (hbad : m1 < N + 1 → ¬ W.okR (W.stp x S n (W.plc r N) K N) m1) (hok2 : ∀ p, p < m2 → W.okP (W.stp x S n (W.plc r N) K N) p) (hbad2 : m2 < N + 1 → ¬ W.okP (W.stp x S n (W.plc r N) K N) m2) :
    Calls Tryd.prog 14 #[.slice (some ⟨b, 0, none⟩) K KC, .slice oa N oc, fvZ cb] w fun e w' => e = .returned .nilIface ∧ Below w.heap.size w w' := by
  have HH : Hid (Calls _ _ _ _ _ ∧ _) := ⟨valid_any b K KC a n c x w h.hf.hs h.v, h⟩
  have nl := h.nl
  have HM : Hid (_ ∧ _ ∧ _ ∧ _) := ⟨hok, hbad, hok2, hbad2⟩
  clear hok hbad hok2 hbad2
  clear h
  generalize hFV : fvZ cb = FV at *
  go_enter Tryd.func14, Tryd.ntmps14
  go_wp2_with (fail)
  refine HH.out.1.mono ?_
  rintro e w1 ⟨rfl, b1⟩
  have hl := lay_any b K KC a n c x oa N oc r w1 (HH.out.2.hf.hs.below b1) HH.out.2.v (HH.out.2.os.below b1) HH.out.2.or_
  have HL : Hid (Calls _ _ _ _ _) := hl
  clear hl
  go_wp2_with (fail)
  refine HL.out.mono ?_
  rintro e w2 ⟨⟨PB, pb, rfl, hP⟩, b2⟩
  have B2 := b1.trans (b2.mono b1.size)
  have ht := turned2_any b K KC a n c x w1.heap.size PB pb (W.plc r N) w2 (HH.out.2.hf.hs.below B2) HH.out.2.v hP HH.out.2.n4
  rw [tu] at ht
  have hs := fun w3 (b3 : Below w2.heap.size w2 w3) => stepsOf_any b K KC a n c x S w1.heap.size PB N pb (W.plc r N) w3 ((HH.out.2.hf.below B2).below b3) HH.out.2.v (hP.below b3) (fun h i => W.plc_bd r N h i) nl
  have HT : Hid (Calls _ _ _ _ _ ∧ _ ∧ _) := ⟨ht, hs, B2⟩
  clear ht hs hP b1 b2 B2 HL tu
  go_wp2_with (fail)
  refine HT.out.1.mono ?_
  rintro e w3 ⟨rfl, b3⟩
  go_wp2_with (fail)
  refine (HT.out.2.1 _ b3).mono ?_
  rintro e w4 ⟨⟨sb, rfl, hsb, hS⟩, b4⟩
  have B3 := HT.out.2.2.trans (b3.mono HT.out.2.2.size)
  have B4 := B3.trans (b4.mono B3.size)
  clear B3 b3
  have hmr := misread_any sb (N + 1) cb _ m1 (by omega) w4 hS (by omega) (HH.out.2.fz.below B4) (fun p _ => W.stp_byt x S n _ K N HH.out.2.v p) HH.out.2.fr HM.out.1 HM.out.2.1
  rw [hFV] at hmr
  have hpa := fun w' (hb : Below w4.heap.size w4 w') => parted_any sb (N + 1) _ m2 (by omega) w' (hS.below hb) (by omega) (fun p _ => W.stp_byt x S n _ K N HH.out.2.v p) HH.out.2.lr HH.out.2.l4 HM.out.2.2.1 HM.out.2.2.2
  have HX : Hid (Calls _ _ _ _ _ ∧ _ ∧ _) := ⟨hmr, hpa, B4⟩
  clear hmr hpa hS b4 B4 HT hsb
  have e1 : ¬ m1 < N + 1 := by omega
  have e2 : ¬ m2 < N + 1 := by omega
  rw [if_neg e1] at HX
  simp only [if_neg e2] at HX
  go_wp2_with (fail)
  refine HX.out.1.mono ?_
  rintro e w5 ⟨rfl, b5⟩
  go_wp2_with (fail)
  refine (HX.out.2.1 _ b5).mono ?_
  rintro e w6 ⟨rfl, b6⟩
  have B6 := HX.out.2.2.trans ((b5.trans (b6.mono b5.size)).mono HX.out.2.2.size)
  clear b5 b6 HX
  go_wp2
  go_ret
  exact ⟨rfl, B6⟩
set_option maxRecDepth 10000 in
set_option maxHeartbeats 1600000 in
theorem check2_val (b K KC : Nat) (a : Nat → Option Addr) (n c : Nat → Nat) (x : Nat → Nat → W.Oz) (S : Nat → Nat → S3) (oa : Option Addr) (N oc : Nat) (r : Nat → Nat × Nat) (cb : Nat) (A : Nat → Addr) (w : World) (h : Ck2 b K KC a n c x S oa N r cb A w) (tu : W.turF (fun h => W.tin (x h) (W.plc r N h) (n h)) K = 0) (m1 : Nat) (m1h : 1 ≤ m1 ∧ m1 < N + 1) (m2 : Nat) (m2h : m2 ≤ N + 1) (hok : ∀ p, p < m1 → W.okR (W.stp x S n (W.plc r N) K N) p) (hbad : m1 < N + 1 → ¬ W.okR (W.stp x S n (W.plc r N) K N) m1) (hok2 : ∀ p, p < m2 → W.okP (W.stp x S n (W.plc r N) K N) p) (hbad2 : m2 < N + 1 → ¬ W.okP (W.stp x S n (W.plc r N) K N) m2) :
    Calls Tryd.prog 14 #[.slice (some ⟨b, 0, none⟩) K KC, .slice oa N oc, fvZ cb] w fun e w' => (∃ q, e = .returned (.iface 78 (.pointer (some ⟨q, 0, none⟩))) ∧ w'.heap[q]? = some (.cells #[.int .i64 ((m1 : Int) - 1), ptr A 1] 80)) ∧ Below w.heap.size w w' := by
  have HH : Hid (Calls _ _ _ _ _ ∧ _) := ⟨valid_any b K KC a n c x w h.hf.hs h.v, h⟩
  have nl := h.nl
  have HM : Hid (_ ∧ _ ∧ _ ∧ _) := ⟨hok, hbad, hok2, hbad2⟩
  clear hok hbad hok2 hbad2
  clear h
  generalize hFV : fvZ cb = FV at *
  go_enter Tryd.func14, Tryd.ntmps14
  go_wp2_with (fail)
  refine HH.out.1.mono ?_
  rintro e w1 ⟨rfl, b1⟩
  have hl := lay_any b K KC a n c x oa N oc r w1 (HH.out.2.hf.hs.below b1) HH.out.2.v (HH.out.2.os.below b1) HH.out.2.or_
  have HL : Hid (Calls _ _ _ _ _) := hl
  clear hl
  go_wp2_with (fail)
  refine HL.out.mono ?_
  rintro e w2 ⟨⟨PB, pb, rfl, hP⟩, b2⟩
  have B2 := b1.trans (b2.mono b1.size)
  have ht := turned2_any b K KC a n c x w1.heap.size PB pb (W.plc r N) w2 (HH.out.2.hf.hs.below B2) HH.out.2.v hP HH.out.2.n4
  rw [tu] at ht
  have hs := fun w3 (b3 : Below w2.heap.size w2 w3) => stepsOf_any b K KC a n c x S w1.heap.size PB N pb (W.plc r N) w3 ((HH.out.2.hf.below B2).below b3) HH.out.2.v (hP.below b3) (fun h i => W.plc_bd r N h i) nl
  have HT : Hid (Calls _ _ _ _ _ ∧ _ ∧ _) := ⟨ht, hs, B2⟩
  clear ht hs hP b1 b2 B2 HL tu
  go_wp2_with (fail)
  refine HT.out.1.mono ?_
  rintro e w3 ⟨rfl, b3⟩
  go_wp2_with (fail)
  refine (HT.out.2.1 _ b3).mono ?_
  rintro e w4 ⟨⟨sb, rfl, hsb, hS⟩, b4⟩
  have B3 := HT.out.2.2.trans (b3.mono HT.out.2.2.size)
  have B4 := B3.trans (b4.mono B3.size)
  clear B3 b3
  have hmr := misread_any sb (N + 1) cb _ m1 (by omega) w4 hS (by omega) (HH.out.2.fz.below B4) (fun p _ => W.stp_byt x S n _ K N HH.out.2.v p) HH.out.2.fr HM.out.1 HM.out.2.1
  rw [hFV] at hmr
  have hpa := fun w' (hb : Below w4.heap.size w4 w') => parted_any sb (N + 1) _ m2 (by omega) w' (hS.below hb) (by omega) (fun p _ => W.stp_byt x S n _ K N HH.out.2.v p) HH.out.2.lr HH.out.2.l4 HM.out.2.2.1 HM.out.2.2.2
  have HX : Hid (Calls _ _ _ _ _ ∧ _ ∧ _) := ⟨hmr, hpa, B4⟩
  clear hmr hpa hS b4 B4 HT hsb
  rw [if_pos m1h.2] at HX
  have mp : (0 : Int) < (m1 : Int) := by omega
  go_wp2_with (fail)
  refine HX.out.1.mono ?_
  rintro e WX ⟨rfl, b5⟩
  have BX := HX.out.2.2.trans (b5.mono HX.out.2.2.size)
  clear b5 HX
  have sg := (HH.out.2.st.below BX).cell 1 (by decide)
  have fl := fun w' => wfault_any (A 1) (m1 : Int) (by omega) (by omega) w'
  have HQ : Hid (_ ∧ _) := ⟨fl, BX⟩
  clear fl BX
  go_wp2_with (fail)
  refine (HQ.out.1 _).mono ?_
  rintro e w7 ⟨rfl, rfl⟩
  have hl := heap_alloc_last WX (.cells #[.int .i64 ((m1 : Int) - 1), .iface 141 (.pointer (some (A 1)))] 80)
  have B7 := HQ.out.2.alloc HQ.out.2.size (.cells #[.int .i64 ((m1 : Int) - 1), .iface 141 (.pointer (some (A 1)))] 80)
  have HW : Hid (_ ∧ _) := ⟨hl, B7⟩
  clear hl B7 HQ
  go_wp2
  go_ret
  exact ⟨⟨_, rfl, HW.out.1⟩, HW.out.2⟩
set_option maxRecDepth 10000 in
set_option maxHeartbeats 1600000 in
theorem check2_ord (b K KC : Nat) (a : Nat → Option Addr) (n c : Nat → Nat) (x : Nat → Nat → W.Oz) (S : Nat → Nat → S3) (oa : Option Addr) (N oc : Nat) (r : Nat → Nat × Nat) (cb : Nat) (A : Nat → Addr) (w : World) (h : Ck2 b K KC a n c x S oa N r cb A w) (tu : W.turF (fun h => W.tin (x h) (W.plc r N h) (n h)) K = 0) (m1 : Nat) (m1h : m1 = N + 1) (m2 : Nat) (m2h : 1 ≤ m2 ∧ m2 < N + 1) (hok : ∀ p, p < m1 → W.okR (W.stp x S n (W.plc r N) K N) p) (hbad : m1 < N + 1 → ¬ W.okR (W.stp x S n (W.plc r N) K N) m1) (hok2 : ∀ p, p < m2 → W.okP (W.stp x S n (W.plc r N) K N) p) (hbad2 : m2 < N + 1 → ¬ W.okP (W.stp x S n (W.plc r N) K N) m2) :
    Calls Tryd.prog 14 #[.slice (some ⟨b, 0, none⟩) K KC, .slice oa N oc, fvZ cb] w fun e w' => (∃ q, e = .returned (.iface 78 (.pointer (some ⟨q, 0, none⟩))) ∧ w'.heap[q]? = some (.cells #[.int .i64 ((m2 : Int) - 1), ptr A 0] 80)) ∧ Below w.heap.size w w' := by
  have HH : Hid (Calls _ _ _ _ _ ∧ _) := ⟨valid_any b K KC a n c x w h.hf.hs h.v, h⟩
  have nl := h.nl
  have HM : Hid (_ ∧ _ ∧ _ ∧ _) := ⟨hok, hbad, hok2, hbad2⟩
  clear hok hbad hok2 hbad2
  clear h
  generalize hFV : fvZ cb = FV at *
  go_enter Tryd.func14, Tryd.ntmps14
  go_wp2_with (fail)
  refine HH.out.1.mono ?_
  rintro e w1 ⟨rfl, b1⟩
  have hl := lay_any b K KC a n c x oa N oc r w1 (HH.out.2.hf.hs.below b1) HH.out.2.v (HH.out.2.os.below b1) HH.out.2.or_
  have HL : Hid (Calls _ _ _ _ _) := hl
  clear hl
  go_wp2_with (fail)
  refine HL.out.mono ?_
  rintro e w2 ⟨⟨PB, pb, rfl, hP⟩, b2⟩
  have B2 := b1.trans (b2.mono b1.size)
  have ht := turned2_any b K KC a n c x w1.heap.size PB pb (W.plc r N) w2 (HH.out.2.hf.hs.below B2) HH.out.2.v hP HH.out.2.n4
  rw [tu] at ht
  have hs := fun w3 (b3 : Below w2.heap.size w2 w3) => stepsOf_any b K KC a n c x S w1.heap.size PB N pb (W.plc r N) w3 ((HH.out.2.hf.below B2).below b3) HH.out.2.v (hP.below b3) (fun h i => W.plc_bd r N h i) nl
  have HT : Hid (Calls _ _ _ _ _ ∧ _ ∧ _) := ⟨ht, hs, B2⟩
  clear ht hs hP b1 b2 B2 HL tu
  go_wp2_with (fail)
  refine HT.out.1.mono ?_
  rintro e w3 ⟨rfl, b3⟩
  go_wp2_with (fail)
  refine (HT.out.2.1 _ b3).mono ?_
  rintro e w4 ⟨⟨sb, rfl, hsb, hS⟩, b4⟩
  have B3 := HT.out.2.2.trans (b3.mono HT.out.2.2.size)
  have B4 := B3.trans (b4.mono B3.size)
  clear B3 b3
  have hmr := misread_any sb (N + 1) cb _ m1 (by omega) w4 hS (by omega) (HH.out.2.fz.below B4) (fun p _ => W.stp_byt x S n _ K N HH.out.2.v p) HH.out.2.fr HM.out.1 HM.out.2.1
  rw [hFV] at hmr
  have hpa := fun w' (hb : Below w4.heap.size w4 w') => parted_any sb (N + 1) _ m2 (by omega) w' (hS.below hb) (by omega) (fun p _ => W.stp_byt x S n _ K N HH.out.2.v p) HH.out.2.lr HH.out.2.l4 HM.out.2.2.1 HM.out.2.2.2
  have HX : Hid (Calls _ _ _ _ _ ∧ _ ∧ _) := ⟨hmr, hpa, B4⟩
  clear hmr hpa hS b4 B4 HT hsb
  have e1 : ¬ m1 < N + 1 := by omega
  rw [if_neg e1] at HX
  simp only [if_pos m2h.2] at HX
  have mp : (0 : Int) < (m2 : Int) := by omega
  go_wp2_with (fail)
  refine HX.out.1.mono ?_
  rintro e w5 ⟨rfl, b5⟩
  go_wp2_with (fail)
  refine (HX.out.2.1 _ b5).mono ?_
  rintro e WX ⟨rfl, b6⟩
  have BX := HX.out.2.2.trans ((b5.trans (b6.mono b5.size)).mono HX.out.2.2.size)
  clear b5 b6 HX
  have sg := (HH.out.2.st.below BX).cell 0 (by decide)
  have fl := fun w' => wfault_any (A 0) (m2 : Int) (by omega) (by omega) w'
  have HQ : Hid (_ ∧ _) := ⟨fl, BX⟩
  clear fl BX
  go_wp2_with (fail)
  refine (HQ.out.1 _).mono ?_
  rintro e w7 ⟨rfl, rfl⟩
  have hl := heap_alloc_last WX (.cells #[.int .i64 ((m2 : Int) - 1), .iface 141 (.pointer (some (A 0)))] 80)
  have B7 := HQ.out.2.alloc HQ.out.2.size (.cells #[.int .i64 ((m2 : Int) - 1), .iface 141 (.pointer (some (A 0)))] 80)
  have HW : Hid (_ ∧ _) := ⟨hl, B7⟩
  clear hl B7 HQ
  go_wp2
  go_ret
  exact ⟨⟨_, rfl, HW.out.1⟩, HW.out.2⟩
set_option maxRecDepth 10000 in
set_option maxHeartbeats 1600000 in
theorem check2_tur (b K KC : Nat) (a : Nat → Option Addr) (n c : Nat → Nat) (x : Nat → Nat → W.Oz) (S : Nat → Nat → S3) (oa : Option Addr) (N oc : Nat) (r : Nat → Nat × Nat) (cb : Nat) (A : Nat → Addr) (w : World) (h : Ck2 b K KC a n c x S oa N r cb A w) (p : Nat) (p0 : 1 ≤ p) (p1 : p ≤ 4500) (tu : W.turF (fun h => W.tin (x h) (W.plc r N h) (n h)) K = (p : Int)) :
    Calls Tryd.prog 14 #[.slice (some ⟨b, 0, none⟩) K KC, .slice oa N oc, fvZ cb] w fun e w' => (∃ q, e = .returned (.iface 78 (.pointer (some ⟨q, 0, none⟩))) ∧ w'.heap[q]? = some (.cells #[.int .i64 ((p : Int) - 1), ptr A 0] 80)) ∧ Below w.heap.size w w' := by
  have HH : Hid (Calls _ _ _ _ _ ∧ _) := ⟨valid_any b K KC a n c x w h.hf.hs h.v, h⟩
  have nl := h.nl
  clear h
  generalize hFV : fvZ cb = FV at *
  go_enter Tryd.func14, Tryd.ntmps14
  go_wp2_with (fail)
  refine HH.out.1.mono ?_
  rintro e w1 ⟨rfl, b1⟩
  have hl := lay_any b K KC a n c x oa N oc r w1 (HH.out.2.hf.hs.below b1) HH.out.2.v (HH.out.2.os.below b1) HH.out.2.or_
  have HL : Hid (Calls _ _ _ _ _) := hl
  clear hl
  go_wp2_with (fail)
  refine HL.out.mono ?_
  rintro e w2 ⟨⟨PB, pb, rfl, hP⟩, b2⟩
  have B2 := b1.trans (b2.mono b1.size)
  have ht := turned2_any b K KC a n c x w1.heap.size PB pb (W.plc r N) w2 (HH.out.2.hf.hs.below B2) HH.out.2.v hP HH.out.2.n4
  rw [tu] at ht
  have HT : Hid (Calls _ _ _ _ _ ∧ _) := ⟨ht, B2⟩
  clear ht hP b1 b2 B2 HL tu
  have mp : (0 : Int) < (p : Int) := by omega
  go_wp2_with (fail)
  refine HT.out.1.mono ?_
  rintro e WX ⟨rfl, b3⟩
  have BX := HT.out.2.trans (b3.mono HT.out.2.size)
  clear b3 HT
  have sg := (HH.out.2.st.below BX).cell 0 (by decide)
  have fl := fun w' => wfault_any (A 0) (p : Int) (by omega) (by omega) w'
  have HQ : Hid (_ ∧ _) := ⟨fl, BX⟩
  clear fl BX
  go_wp2_with (fail)
  refine (HQ.out.1 _).mono ?_
  rintro e w7 ⟨rfl, rfl⟩
  have hl := heap_alloc_last WX (.cells #[.int .i64 ((p : Int) - 1), .iface 141 (.pointer (some (A 0)))] 80)
  have B7 := HQ.out.2.alloc HQ.out.2.size (.cells #[.int .i64 ((p : Int) - 1), .iface 141 (.pointer (some (A 0)))] 80)
  have HW : Hid (_ ∧ _) := ⟨hl, B7⟩
  clear hl B7 HQ
  go_wp2
  go_ret
  exact ⟨⟨_, rfl, HW.out.1⟩, HW.out.2⟩
end Go.Proofs.YtibohlbkkaghkaaDoor

/- wmo: Check of operations that are written out, whatever their order. -/
namespace Go.Proofs.YtibohlbkkaghkaaDoor
open Go.ChangeShapes Go.WideShapes Go.ChangeAt Go.RowKit Go.Maps
set_option linter.unusedVariables false
set_option linter.unusedSimpArgs false

namespace W
def tuM (LL : List (List Opr)) (rs : List (Nat × Nat)) : Int := turF (fun h => tin (xM LL h) (plc (rM rs) rs.length h) (nM LL h)) LL.length
def ckE (LL : List (List Opr)) (rs : List (Nat × Nat)) : Bool := vdB LL && orB LL rs && all LL.length (fun h => decide (nM LL h ≤ 4000)) && decide (rs.length ≤ 4096) && frB (stM LL rs) (rs.length + 1) && lrB (stM LL rs) (rs.length + 1)
def ckC (LL : List (List Opr)) (rs : List (Nat × Nat)) (m1 m2 : Nat) : Bool := ckE LL rs && upB (okRb (stM LL rs)) m1 (rs.length + 1) && upB (okPb (stM LL rs)) m2 (rs.length + 1)
end W
theorem Mem.ck2 {b ob cb : Nat} {LL : List (List W.Opr)} {rs : List (Nat × Nat)} {gs : Nat → Nat} {A : Nat → Addr} {w : World} (KC : Nat) (m1 m2 : Nat) (h : Mem b ob cb LL rs gs A w) (hc : W.ckC LL rs m1 m2 = true) (hv : ∀ h i, 0 ≤ (W.xM LL h i).o.vl ∧ (W.xM LL h i).o.vl < 4294967296) :
    Ck2 b LL.length KC (fun h => some ⟨gs h, 0, none⟩) (W.nM LL) (W.nM LL) (W.xM LL) W.sM (some ⟨ob, 0, none⟩) rs.length (W.rM rs) cb A w ∧ (∀ p, p < m1 → W.okR (W.stM LL rs) p) ∧ (m1 < rs.length + 1 → ¬ W.okR (W.stM LL rs) m1) ∧ (∀ p, p < m2 → W.okP (W.stM LL rs) p) ∧ (m2 < rs.length + 1 → ¬ W.okP (W.stM LL rs) m2) := by
  unfold W.ckC W.ckE at hc
  simp only [Bool.and_eq_true, decide_eq_true_eq] at hc
  obtain ⟨⟨⟨⟨⟨⟨⟨h1, h2⟩, h3⟩, h4⟩, h5⟩, h6⟩, h7⟩, h8⟩ := hc
  have hl := fun p hp => W.all_ok h6 p hp
  simp only [Bool.and_eq_true, decide_eq_true_eq] at hl
  have hvl : ∀ p, 0 ≤ (W.stM LL rs p).o.vl ∧ (W.stM LL rs p).o.vl < 4294967296 := W.stp_P (fun o => 0 ≤ o.vl ∧ o.vl < 4294967296) _ _ _ _ _ _ ⟨Int.le_refl _, (by decide : (0 : Int) < 4294967296)⟩ hv
  refine ⟨⟨hf_rows b LL gs _ h.bl h.o h.i, W.vdB_ok LL h1, os_rows ob rs h.ol h.r, W.orB_ok LL rs h2, fun i hi => of_decide_eq_true (W.all_ok h3 i hi), h.f, h.s, h4, fun p hp hr k hk => W.frB_ok _ _ h5 hvl p hp hr k hk, fun p hp => (hl p hp).1, fun p hp h0 => ?_⟩, fun p hp => (W.okRb_iff _ _).1 (W.upB_1 h7 p hp), fun hm e => W.upB_2 h7 hm ((W.okRb_iff _ _).2 e), fun p hp => (W.okPb_iff _ _).1 (W.upB_1 h8 p hp), fun hm e => W.upB_2 h8 hm ((W.okPb_iff _ _).2 e)⟩
  have := (hl p hp).2
  rw [Bool.or_eq_true] at this
  rcases this with this | this
  · rw [Bool.not_eq_true', decide_eq_false_iff_not] at this
    exact absurd h0 this
  · exact of_decide_eq_true this
theorem chk2_ok {b ob cb : Nat} {LL : List (List W.Opr)} {rs : List (Nat × Nat)} {gs : Nat → Nat} {A : Nat → Addr} {w : World} (K N KC oc : Nat) (hK : K = LL.length) (hN : N = rs.length) (h : Mem b ob cb LL rs gs A w) (hc : W.ckC LL rs (rs.length + 1) (rs.length + 1) = true) (tu : W.tuM LL rs = 0) (hv : ∀ h i, 0 ≤ (W.xM LL h i).o.vl ∧ (W.xM LL h i).o.vl < 4294967296) :
    Calls Tryd.prog 14 #[.slice (some ⟨b, 0, none⟩) K KC, .slice (some ⟨ob, 0, none⟩) N oc, fvZ cb] w fun e w' => e = .returned .nilIface ∧ Below w.heap.size w w' := by
  subst hK hN
  obtain ⟨h1, h2, h3, h4, h5⟩ := h.ck2 KC _ _ hc hv
  exact check2_ok b _ KC _ _ _ _ _ _ _ oc _ cb A w h1 tu _ rfl _ rfl h2 h3 h4 h5
theorem chk2_val {b ob cb : Nat} {LL : List (List W.Opr)} {rs : List (Nat × Nat)} {gs : Nat → Nat} {A : Nat → Addr} {w : World} (K N KC oc m1 : Nat) (hm : 1 ≤ m1 ∧ m1 < rs.length + 1) (m2 : Nat) (hm2 : m2 ≤ rs.length + 1) (hK : K = LL.length) (hN : N = rs.length) (h : Mem b ob cb LL rs gs A w) (hc : W.ckC LL rs m1 m2 = true) (tu : W.tuM LL rs = 0) (hv : ∀ h i, 0 ≤ (W.xM LL h i).o.vl ∧ (W.xM LL h i).o.vl < 4294967296) :
    Calls Tryd.prog 14 #[.slice (some ⟨b, 0, none⟩) K KC, .slice (some ⟨ob, 0, none⟩) N oc, fvZ cb] w fun e w' => (∃ q, e = .returned (.iface 78 (.pointer (some ⟨q, 0, none⟩))) ∧ w'.heap[q]? = some (.cells #[.int .i64 ((m1 : Int) - 1), ptr A 1] 80)) ∧ Below w.heap.size w w' := by
  subst hK hN
  obtain ⟨h1, h2, h3, h4, h5⟩ := h.ck2 KC _ _ hc hv
  exact check2_val b _ KC _ _ _ _ _ _ _ oc _ cb A w h1 tu m1 hm m2 hm2 h2 h3 h4 h5
theorem chk2_ord {b ob cb : Nat} {LL : List (List W.Opr)} {rs : List (Nat × Nat)} {gs : Nat → Nat} {A : Nat → Addr} {w : World} (K N KC oc m2 : Nat) (hm : 1 ≤ m2 ∧ m2 < rs.length + 1) (hK : K = LL.length) (hN : N = rs.length) (h : Mem b ob cb LL rs gs A w) (hc : W.ckC LL rs (rs.length + 1) m2 = true) (tu : W.tuM LL rs = 0) (hv : ∀ h i, 0 ≤ (W.xM LL h i).o.vl ∧ (W.xM LL h i).o.vl < 4294967296) :
    Calls Tryd.prog 14 #[.slice (some ⟨b, 0, none⟩) K KC, .slice (some ⟨ob, 0, none⟩) N oc, fvZ cb] w fun e w' => (∃ q, e = .returned (.iface 78 (.pointer (some ⟨q, 0, none⟩))) ∧ w'.heap[q]? = some (.cells #[.int .i64 ((m2 : Int) - 1), ptr A 0] 80)) ∧ Below w.heap.size w w' := by
  subst hK hN
  obtain ⟨h1, h2, h3, h4, h5⟩ := h.ck2 KC _ _ hc hv
  exact check2_ord b _ KC _ _ _ _ _ _ _ oc _ cb A w h1 tu _ rfl m2 hm h2 h3 h4 h5
theorem Mem.ckE {b ob cb : Nat} {LL : List (List W.Opr)} {rs : List (Nat × Nat)} {gs : Nat → Nat} {A : Nat → Addr} {w : World} (KC : Nat) (h : Mem b ob cb LL rs gs A w) (hc : W.ckE LL rs = true) (hv : ∀ h i, 0 ≤ (W.xM LL h i).o.vl ∧ (W.xM LL h i).o.vl < 4294967296) :
    Ck2 b LL.length KC (fun h => some ⟨gs h, 0, none⟩) (W.nM LL) (W.nM LL) (W.xM LL) W.sM (some ⟨ob, 0, none⟩) rs.length (W.rM rs) cb A w := by
  unfold W.ckE at hc
  simp only [Bool.and_eq_true, decide_eq_true_eq] at hc
  obtain ⟨⟨⟨⟨⟨h1, h2⟩, h3⟩, h4⟩, h5⟩, h6⟩ := hc
  have hl := fun p hp => W.all_ok h6 p hp
  simp only [Bool.and_eq_true, decide_eq_true_eq] at hl
  have hvl : ∀ p, 0 ≤ (W.stM LL rs p).o.vl ∧ (W.stM LL rs p).o.vl < 4294967296 := W.stp_P (fun o => 0 ≤ o.vl ∧ o.vl < 4294967296) _ _ _ _ _ _ ⟨Int.le_refl _, (by decide : (0 : Int) < 4294967296)⟩ hv
  refine ⟨hf_rows b LL gs _ h.bl h.o h.i, W.vdB_ok LL h1, os_rows ob rs h.ol h.r, W.orB_ok LL rs h2, fun i hi => of_decide_eq_true (W.all_ok h3 i hi), h.f, h.s, h4, fun p hp hr k hk => W.frB_ok _ _ h5 hvl p hp hr k hk, fun p hp => (hl p hp).1, fun p hp h0 => ?_⟩
  have := (hl p hp).2
  rw [Bool.or_eq_true] at this
  rcases this with this | this
  · rw [Bool.not_eq_true', decide_eq_false_iff_not] at this
    exact absurd h0 this
  · exact of_decide_eq_true this
theorem chk2_tur {b ob cb : Nat} {LL : List (List W.Opr)} {rs : List (Nat × Nat)} {gs : Nat → Nat} {A : Nat → Addr} {w : World} (K N KC oc p : Nat) (p0 : 1 ≤ p) (p1 : p ≤ 4500) (hK : K = LL.length) (hN : N = rs.length) (h : Mem b ob cb LL rs gs A w) (hc : W.ckE LL rs = true) (tu : W.tuM LL rs = (p : Int)) (hv : ∀ h i, 0 ≤ (W.xM LL h i).o.vl ∧ (W.xM LL h i).o.vl < 4294967296) :
    Calls Tryd.prog 14 #[.slice (some ⟨b, 0, none⟩) K KC, .slice (some ⟨ob, 0, none⟩) N oc, fvZ cb] w fun e w' => (∃ q, e = .returned (.iface 78 (.pointer (some ⟨q, 0, none⟩))) ∧ w'.heap[q]? = some (.cells #[.int .i64 ((p : Int) - 1), ptr A 0] 80)) ∧ Below w.heap.size w w' := by
  subst hK hN
  have h1 := h.ckE KC hc hv
  exact check2_tur b _ KC _ _ _ _ _ _ _ oc _ cb A w h1 p p0 p1 tu
end Go.Proofs.YtibohlbkkaghkaaDoor
