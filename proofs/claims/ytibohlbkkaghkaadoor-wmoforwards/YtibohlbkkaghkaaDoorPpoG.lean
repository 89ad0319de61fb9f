/- A look in memory. -/
import Derived.Test.YtibohlbkkaghkaaDoorPpoF
import Derived.Deep.WholeRow
namespace Go.Proofs.YtibohlbkkaghkaaDoor
open Go.ChangeShapes Go.WideShapes Go.ChangeAt Go.RowKit
set_option linter.unusedVariables false
set_option linter.unusedSimpArgs false
variable {F : Nat → Option Obj}

/-- A block holds these cells. -/
structure Bc (b n : Nat) (f : Nat → Value) (w : World) : Prop where
  lt : b < w.heap.size
  c : ∀ j, j < n → w.cell? ⟨b, j, none⟩ = some (f j)
  fz : ∀ j, w.frozen? ⟨b, j, none⟩ = false
theorem Bc.below {b n : Nat} {f : Nat → Value} {w w' : World} (h : Bc b n f w) (hb : Below w.heap.size w w') : Bc b n f w' :=
  ⟨Nat.lt_of_lt_of_le h.lt hb.size, fun j hj => (hb.cell (p := ⟨b, j, none⟩) h.lt).trans (h.c j hj), fun j => (hb.frozen (p := ⟨b, j, none⟩) h.lt).trans (h.fz j)⟩
def updV (f : Nat → Value) (k : Nat) (v : Value) : Nat → Value := fun j => if j = k then v else f j
theorem Bc.set {b n : Nat} {f : Nat → Value} {w : World} (h : Bc b n f w) (k : Nat) (v : Value) : Bc b n (updV f k v) (w.setCell ⟨b, k, none⟩ v) :=
  ⟨by simpa [World.setCell] using h.lt, fun j hj => by
    unfold updV
    by_cases e : j = k
    · subst e
      rw [if_pos rfl]
      exact World.cell?_setCell_same _ _ _ (h.c j hj)
    · rw [if_neg e]
      exact (World.cell?_setCell_other _ _ _ _ (by simp [e])).trans (h.c j hj), fun j => (World.frozen?_setCell _ _ _ _).trans (h.fz j)⟩
theorem Bc.other {b n : Nat} {f : Nat → Value} {w : World} (h : Bc b n f w) (g k : Nat) (v : Value) (hg : b ≠ g) : Bc b n f (w.setCell ⟨g, k, none⟩ v) :=
  ⟨by simpa [World.setCell] using h.lt, fun j hj => (World.cell?_setCell_other _ _ _ _ (by simp [hg])).trans (h.c j hj), fun j => (World.frozen?_setCell _ _ _ _).trans (h.fz j)⟩
theorem Bc.grown {b n : Nat} {f : Nat → Value} {w w' : World} {r : Option Nat} (h : Bc b n f w) (hg : w.grownBy w' r) (hne : some b ≠ r) : Bc b n f w' := by
  have q := hg.block b h.lt hne
  exact ⟨Nat.lt_of_lt_of_le h.lt hg.size, fun j hj => (World.cell?_of_block q).trans (h.c j hj), fun j => by
    have := h.fz j
    simp only [World.frozen?] at this ⊢
    rw [q]
    exact this⟩
theorem Bc.congr {b n : Nat} {f g : Nat → Value} {w : World} (h : Bc b n f w) (e : ∀ j, j < n → f j = g j) : Bc b n g w := ⟨h.lt, fun j hj => by rw [← e j hj]; exact h.c j hj, h.fz⟩
theorem gsetCell (w : World) (b k : Nat) (v : Value) : w.grownBy (w.setCell ⟨b, k, none⟩ v) (some b) := by
  refine ⟨rfl, rfl, rfl, by simp [World.setCell], fun g hb hne => ?_⟩
  simp only [World.setCell, Array.getElem?_modify]
  rw [if_neg (fun e => hne (by rw [e]))]
/-- All that a look is. -/
structure Kd where
  kb : Nat
  ab : Nat
  pb : Nat
  rb : Nat
  hb : Nat
  n : Nat
  l : Value
  A : Nat → W.Act
  P : Nat → Int
  R : Nat → Int
  G : Nat → Int
  b : W.Act
  k : Int
  H : W.Sl
  hid : List W.Sp
def Kd.f (d : Kd) : Nat → Value
  | 0 => d.l
  | 1 => .slice (some ⟨d.ab, 0, none⟩) d.n d.n
  | 2 => .slice (some ⟨d.pb, 0, none⟩) d.n d.n
  | 3 => .slice (some ⟨d.rb, 0, none⟩) d.n d.n
  | 4 => .slice (some ⟨d.hb, 0, none⟩) d.n d.n
  | 5 => .int .u32 d.b.p.f
  | 6 => .int .u64 d.b.p.s
  | 7 => .int .u8 d.b.t
  | 8 => .int .u8 d.k
  | _ => slV d.H
def acF (A : Nat → W.Act) (j : Nat) : Value := match j % 3 with | 0 => .int .u32 (A (j / 3)).p.f | 1 => .int .u64 (A (j / 3)).p.s | _ => .int .u8 (A (j / 3)).t
def spX (l : List W.Sp) : List Value := l.flatMap fun s => [.int .u32 s.f, .int .u64 s.s]
structure LkF (F : Nat → Option Obj) (w0 : World) (d : Kd) (w : World) : Prop where
  bl : Below w0.heap.size w0 w
  k : Bc d.kb 10 d.f w
  a : Bc d.ab (3 * d.n) (acF d.A) w
  p : Bc d.pb d.n (fun j => .int .i64 (d.P j)) w
  r : Bc d.rb d.n (fun j => .int .u8 (d.R j)) w
  g : Bc d.hb d.n (fun j => .int .u8 (d.G j)) w
  h : w.ownsRow w0.heap.size 114 2 (slV d.H) d.hid.length (spX d.hid)
  nk : w0.heap.size ≤ d.kb
  na : w0.heap.size ≤ d.ab
  np : w0.heap.size ≤ d.pb
  nr : w0.heap.size ≤ d.rb
  ng : w0.heap.size ≤ d.hb
  ka : d.kb ≠ d.ab
  kp : d.kb ≠ d.pb
  kr : d.kb ≠ d.rb
  kg : d.kb ≠ d.hb
  ap : d.ab ≠ d.pb
  ar : d.ab ≠ d.rb
  ag : d.ab ≠ d.hb
  pr : d.pb ≠ d.rb
  pg : d.pb ≠ d.hb
  rg : d.rb ≠ d.hb
  hk : some d.kb ≠ (slV d.H).ownBlock
  ha : some d.ab ≠ (slV d.H).ownBlock
  hp : some d.pb ≠ (slV d.H).ownBlock
  hr : some d.rb ≠ (slV d.H).ownBlock
  hg : some d.hb ≠ (slV d.H).ownBlock
  ok : ∀ s ∈ d.hid, W.SpOk s
  fr : ∀ c o, F c = some o → w.heap[c]? = some o ∧ c ≠ d.kb ∧ c ≠ d.ab ∧ c ≠ d.pb ∧ c ≠ d.rb ∧ c ≠ d.hb ∧ some c ≠ (slV d.H).ownBlock
def F0 : Nat → Option Obj := fun _ => none
theorem blk_lt {w : World} {c : Nat} {o : Obj} (h : w.heap[c]? = some o) : c < w.heap.size := (Array.getElem?_eq_some_iff.1 h).1
theorem own_below {w w' : World} {base : Nat} {e : TypeId} {size : Nat} {v : Value} {n : Nat} {xs : List Value} (h : w.ownsRow base e size v n xs) (hb : Below w.heap.size w w') : w'.ownsRow base e size v n xs :=
  h.kept (row := none) ⟨hb.os, hb.tape, hb.output, hb.size, fun k hk _ => hb.block k hk⟩ (by cases hv : v.ownBlock <;> simp)
theorem LkF.below {w0 : World} {d : Kd} {w w' : World} (h : LkF F w0 d w) (hb : Below w.heap.size w w') : LkF F w0 d w' :=
  { h with bl := h.bl.trans (hb.mono h.bl.size), k := h.k.below hb, a := h.a.below hb, p := h.p.below hb, r := h.r.below hb, g := h.g.below hb, h := own_below h.h hb, fr := fun c o e => ⟨(hb.block c (blk_lt (h.fr c o e).1)).trans (h.fr c o e).1, (h.fr c o e).2⟩ }
theorem ne_some {a b : Nat} (h : a ≠ b) : some a ≠ some b := fun e => h (Option.some.inj e)
theorem LkF.act {w0 : World} {d : Kd} {w : World} (h : LkF F w0 d w) (j : Nat) (hj : j < d.n) : w.cell? ⟨d.ab, j * 3, none⟩ = some (.int .u32 (d.A j).p.f) ∧ w.cell? ⟨d.ab, j * 3 + 1, none⟩ = some (.int .u64 (d.A j).p.s) ∧ w.cell? ⟨d.ab, j * 3 + 2, none⟩ = some (.int .u8 (d.A j).t) := by
  refine ⟨?_, ?_, ?_⟩
  · rw [h.a.c (j * 3) (by omega)]; unfold acF; rw [show j * 3 % 3 = 0 by omega, show j * 3 / 3 = j by omega]; try rfl
  · rw [h.a.c (j * 3 + 1) (by omega)]; unfold acF; rw [show (j * 3 + 1) % 3 = 1 by omega, show (j * 3 + 1) / 3 = j by omega]; try rfl
  · rw [h.a.c (j * 3 + 2) (by omega)]; unfold acF; rw [show (j * 3 + 2) % 3 = 2 by omega, show (j * 3 + 2) / 3 = j by omega]; try rfl
/-- Within the look's own block. -/
theorem LkF.onK {w0 : World} {d : Kd} {w w' : World} (h : LkF F w0 d w) (hg : w.grownBy w' (some d.kb)) (b : W.Act) (k : Int) (hk : Bc d.kb 10 { d with b := b, k := k }.f w') : LkF F w0 { d with b := b, k := k } w' :=
  { h with
    bl := Below.grown h.bl hg h.bl.size (fun j e => by cases e; exact h.nk)
    k := hk
    a := h.a.grown hg (ne_some h.ka.symm)
    p := h.p.grown hg (ne_some h.kp.symm)
    r := h.r.grown hg (ne_some h.kr.symm)
    g := h.g.grown hg (ne_some h.kg.symm)
    h := h.h.kept hg (Or.inr (Ne.symm h.hk))
    fr := fun c o e => ⟨(hg.block c (blk_lt (h.fr c o e).1) (ne_some (h.fr c o e).2.1)).trans (h.fr c o e).1, (h.fr c o e).2⟩ }
theorem LkF.setK {w0 : World} {d : Kd} {w : World} (h : LkF F w0 d w) (v : Int) : LkF F w0 { d with k := v } (w.setCell ⟨d.kb, 8, none⟩ (.int .u8 v)) :=
  h.onK (gsetCell _ _ _ _) d.b v ((h.k.set 8 _).congr fun j hj => by
    unfold updV
    match j, hj with
    | 0, _ => rfl
    | 1, _ => rfl
    | 2, _ => rfl
    | 3, _ => rfl
    | 4, _ => rfl
    | 5, _ => rfl
    | 6, _ => rfl
    | 7, _ => rfl
    | 8, _ => rfl
    | 9, _ => rfl)
theorem gtrans {x y z : World} {r : Option Nat} (h : x.grownBy y r) (k : y.grownBy z r) : x.grownBy z r :=
  ⟨k.os.trans h.os, k.tape.trans h.tape, k.output.trans h.output, Nat.le_trans h.size k.size, fun b hb hne => (k.block b (Nat.lt_of_lt_of_le hb h.size) hne).trans (h.block b hb hne)⟩
theorem LkF.setB {w0 : World} {d : Kd} {w : World} (h : LkF F w0 d w) (b : W.Act) : LkF F w0 { d with b := b } (((w.setCell ⟨d.kb, 5, none⟩ (.int .u32 b.p.f)).setCell ⟨d.kb, 6, none⟩ (.int .u64 b.p.s)).setCell ⟨d.kb, 7, none⟩ (.int .u8 b.t)) :=
  h.onK (gtrans (gtrans (gsetCell _ _ _ _) (gsetCell _ _ _ _)) (gsetCell _ _ _ _)) b d.k ((((h.k.set 5 _).set 6 _).set 7 _).congr fun j hj => by
    unfold updV
    match j, hj with
    | 0, _ => rfl
    | 1, _ => rfl
    | 2, _ => rfl
    | 3, _ => rfl
    | 4, _ => rfl
    | 5, _ => rfl
    | 6, _ => rfl
    | 7, _ => rfl
    | 8, _ => rfl
    | 9, _ => rfl)
/-- Another list of what is hidden: its block is old, or new. -/
theorem LkF.setH {w0 : World} {d : Kd} {w w' : World} (h : LkF F w0 d w) (P : W.Sl) (l : List W.Sp) (hl : ∀ s ∈ l, W.SpOk s) (hg : w.grownBy w' (slV d.H).ownBlock) (ho : w'.ownsRow w0.heap.size 114 2 (slV P) l.length (spX l)) (hP : ∀ b, some b = (slV P).ownBlock → some b = (slV d.H).ownBlock ∨ w.heap.size ≤ b) : LkF F w0 { d with H := P, hid := l } (w'.setCell ⟨d.kb, 9, none⟩ (slV P)) := by
  have nb : ∀ b, b < w.heap.size → some b ≠ (slV d.H).ownBlock → some b ≠ (slV P).ownBlock := fun b hb h1 h2 => by
    rcases hP b h2 with h3 | h3
    · exact h1 h3
    · omega
  exact { h with
    bl := (Below.grown h.bl hg h.bl.size (fun b e => (h.h.lt b e).1)).setCell h.nk _
    k := ((h.k.grown hg h.hk).set 9 _).congr fun j hj => by
      unfold updV
      match j, hj with
      | 0, _ => rfl
      | 1, _ => rfl
      | 2, _ => rfl
      | 3, _ => rfl
      | 4, _ => rfl
      | 5, _ => rfl
      | 6, _ => rfl
      | 7, _ => rfl
      | 8, _ => rfl
      | 9, _ => rfl
    a := (h.a.grown hg h.ha).other _ _ _ h.ka.symm
    p := (h.p.grown hg h.hp).other _ _ _ h.kp.symm
    r := (h.r.grown hg h.hr).other _ _ _ h.kr.symm
    g := (h.g.grown hg h.hg).other _ _ _ h.kg.symm
    h := ho.kept (gsetCell _ _ _ _) (Or.inr (Ne.symm (nb _ h.k.lt h.hk)))
    hk := nb _ h.k.lt h.hk
    ha := nb _ h.a.lt h.ha
    hp := nb _ h.p.lt h.hp
    hr := nb _ h.r.lt h.hr
    hg := nb _ h.g.lt h.hg
    ok := hl
    fr := fun c o e => by
      obtain ⟨f1, f2, f3, f4, f5, f6, f7⟩ := h.fr c o e
      refine ⟨?_, f2, f3, f4, f5, f6, nb c (blk_lt f1) f7⟩
      have q := (hg.block c (blk_lt f1) f7).trans f1
      exact ((gsetCell w' d.kb 9 (slV P)).block c (blk_lt q) (ne_some f2)).trans q }
def updI (f : Nat → Int) (k : Nat) (v : Int) : Nat → Int := fun j => if j = k then v else f j
theorem LkF.onG {w0 : World} {d : Kd} {w w' : World} (h : LkF F w0 d w) (hg : w.grownBy w' (some d.hb)) (G : Nat → Int) (hk : Bc d.hb d.n (fun j => .int .u8 (G j)) w') : LkF F w0 { d with G := G } w' :=
  { h with
    bl := Below.grown h.bl hg h.bl.size (fun j e => by cases e; exact h.ng)
    k := (h.k.grown hg (ne_some h.kg)).congr fun j hj => by
      match j, hj with
      | 0, _ => rfl
      | 1, _ => rfl
      | 2, _ => rfl
      | 3, _ => rfl
      | 4, _ => rfl
      | 5, _ => rfl
      | 6, _ => rfl
      | 7, _ => rfl
      | 8, _ => rfl
      | 9, _ => rfl
    a := h.a.grown hg (ne_some h.ag)
    p := h.p.grown hg (ne_some h.pg)
    r := h.r.grown hg (ne_some h.rg)
    g := hk
    h := h.h.kept hg (Or.inr (Ne.symm h.hg))
    fr := fun c o e => ⟨(hg.block c (blk_lt (h.fr c o e).1) (ne_some (h.fr c o e).2.2.2.2.2.1)).trans (h.fr c o e).1, (h.fr c o e).2⟩ }
theorem LkF.onR {w0 : World} {d : Kd} {w w' : World} (h : LkF F w0 d w) (hg : w.grownBy w' (some d.rb)) (R : Nat → Int) (hk : Bc d.rb d.n (fun j => .int .u8 (R j)) w') : LkF F w0 { d with R := R } w' :=
  { h with
    bl := Below.grown h.bl hg h.bl.size (fun j e => by cases e; exact h.nr)
    k := (h.k.grown hg (ne_some h.kr)).congr fun j hj => by
      match j, hj with
      | 0, _ => rfl
      | 1, _ => rfl
      | 2, _ => rfl
      | 3, _ => rfl
      | 4, _ => rfl
      | 5, _ => rfl
      | 6, _ => rfl
      | 7, _ => rfl
      | 8, _ => rfl
      | 9, _ => rfl
    a := h.a.grown hg (ne_some h.ar)
    p := h.p.grown hg (ne_some h.pr)
    r := hk
    g := h.g.grown hg (ne_some h.rg.symm)
    h := h.h.kept hg (Or.inr (Ne.symm h.hr))
    fr := fun c o e => ⟨(hg.block c (blk_lt (h.fr c o e).1) (ne_some (h.fr c o e).2.2.2.2.1)).trans (h.fr c o e).1, (h.fr c o e).2⟩ }
theorem LkF.onA {w0 : World} {d : Kd} {w w' : World} (h : LkF F w0 d w) (hg : w.grownBy w' (some d.ab)) (A : Nat → W.Act) (hk : Bc d.ab (3 * d.n) (acF A) w') : LkF F w0 { d with A := A } w' :=
  { h with
    bl := Below.grown h.bl hg h.bl.size (fun j e => by cases e; exact h.na)
    k := (h.k.grown hg (ne_some h.ka)).congr fun j hj => by
      match j, hj with
      | 0, _ => rfl
      | 1, _ => rfl
      | 2, _ => rfl
      | 3, _ => rfl
      | 4, _ => rfl
      | 5, _ => rfl
      | 6, _ => rfl
      | 7, _ => rfl
      | 8, _ => rfl
      | 9, _ => rfl
    a := hk
    p := h.p.grown hg (ne_some h.ap.symm)
    r := h.r.grown hg (ne_some h.ar.symm)
    g := h.g.grown hg (ne_some h.ag.symm)
    h := h.h.kept hg (Or.inr (Ne.symm h.ha))
    fr := fun c o e => ⟨(hg.block c (blk_lt (h.fr c o e).1) (ne_some (h.fr c o e).2.2.1)).trans (h.fr c o e).1, (h.fr c o e).2⟩ }
theorem LkF.setG {w0 : World} {d : Kd} {w : World} (h : LkF F w0 d w) (j : Nat) (v : Int) : LkF F w0 { d with G := updI d.G j v } (w.setCell ⟨d.hb, j, none⟩ (.int .u8 v)) :=
  h.onG (gsetCell _ _ _ _) _ ((h.g.set j _).congr fun i hi => by unfold updV updI; split <;> rfl)
theorem LkF.setR {w0 : World} {d : Kd} {w : World} (h : LkF F w0 d w) (j : Nat) (v : Int) : LkF F w0 { d with R := updI d.R j v } (w.setCell ⟨d.rb, j, none⟩ (.int .u8 v)) :=
  h.onR (gsetCell _ _ _ _) _ ((h.r.set j _).congr fun i hi => by unfold updV updI; split <;> rfl)
def updT (A : Nat → W.Act) (k : Nat) (t : Int) : Nat → W.Act := fun j => if j = k then ⟨(A j).p, t⟩ else A j
theorem LkF.setT {w0 : World} {d : Kd} {w : World} (h : LkF F w0 d w) (j : Nat) (t : Int) : LkF F w0 { d with A := updT d.A j t } (w.setCell ⟨d.ab, j * 3 + 2, none⟩ (.int .u8 t)) :=
  h.onA (gsetCell _ _ _ _) _ ((h.a.set (j * 3 + 2) _).congr fun i hi => by
    unfold updV acF updT
    by_cases e : i = j * 3 + 2
    · subst e
      rw [if_pos rfl, show (j * 3 + 2) % 3 = 2 by omega, show (j * 3 + 2) / 3 = j by omega]
      simp
    · rw [if_neg e]
      by_cases e2 : i / 3 = j
      · rw [if_pos e2]
        have : i % 3 = 0 ∨ i % 3 = 1 := by omega
        rcases this with h | h <;> rw [h] <;> rfl
      · rw [if_neg e2])
/-- Blocks that the look is not to touch. -/
noncomputable def frm (P : Nat → Prop) (w : World) : Nat → Option Obj := open Classical in fun c => if P c then w.heap[c]? else none
theorem LkF.frame {F : Nat → Option Obj} {w0 : World} {d : Kd} {w : World} (h : LkF F w0 d w) (P : Nat → Prop) (hP : ∀ c, P c → c ≠ d.kb ∧ c ≠ d.ab ∧ c ≠ d.pb ∧ c ≠ d.rb ∧ c ≠ d.hb ∧ some c ≠ (slV d.H).ownBlock) : LkF (frm P w) w0 d w :=
  have q : ∀ c o, frm P w c = some o → w.heap[c]? = some o ∧ c ≠ d.kb ∧ c ≠ d.ab ∧ c ≠ d.pb ∧ c ≠ d.rb ∧ c ≠ d.hb ∧ some c ≠ (slV d.H).ownBlock := fun c o e => by
    unfold frm at e
    by_cases hc : P c
    · rw [if_pos hc] at e
      exact ⟨e, hP c hc⟩
    · rw [if_neg hc] at e
      cases e
  { h with fr := q }
theorem LkF.out {P : Nat → Prop} {w1 w0 : World} {d : Kd} {w : World} (h : LkF (frm P w1) w0 d w) (c : Nat) (hc : P c) (hl : c < w1.heap.size) : w.heap[c]? = w1.heap[c]? ∧ c ≠ d.kb ∧ c ≠ d.ab ∧ c ≠ d.pb ∧ c ≠ d.rb ∧ c ≠ d.hb ∧ some c ≠ (slV d.H).ownBlock := by
  have e : frm P w1 c = some w1.heap[c] := by
    unfold frm
    rw [if_pos hc]
    exact Array.getElem?_eq_getElem hl
  obtain ⟨f1, f2⟩ := h.fr c _ e
  exact ⟨f1.trans (Array.getElem?_eq_getElem hl).symm, f2⟩
end Go.Proofs.YtibohlbkkaghkaaDoor
