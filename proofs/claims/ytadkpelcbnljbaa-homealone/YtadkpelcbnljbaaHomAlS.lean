/- HomeAlone: the memory of a round. -/
import Derived.Test.YtadkpelcbnljbaaHomS
import Derived.Test.YtadkpelcbnljbaaHomAlL
import Derived.Test.YtadkpelcbnljbaaHomO1
namespace Go.Proofs.Ytadkpelcbnljbaa
open Go.ChangeShapes Go.WideShapes Go.ChangeAt Go.RowKit
set_option linter.unusedVariables false
set_option linter.unusedSimpArgs false
variable {n0 hb : Nat} {s s' : W.Hm} {sv av sv' av' sv'' av'' : Value} {w w' w'' : World}

def SgAt (sb : Nat) (g : List Int) (w : World) : Prop := w.heap[sb]? = some (.cells #[.int .i64 (W.gAt g 0), .int .i64 (W.gAt g 1), .int .i64 (W.gAt g 2), .int .i64 (W.gAt g 3)] 3)
theorem SgAt.lt {sb : Nat} {g : List Int} (h : SgAt sb g w) : sb < w.heap.size := (Array.getElem?_eq_some_iff.1 h).1
theorem SgAt.blk {sb : Nat} {g : List Int} (h : SgAt sb g w) (e : w'.heap[sb]? = w.heap[sb]?) : SgAt sb g w' := e.trans h
theorem SgAt.c {sb : Nat} {g : List Int} (h : SgAt sb g w) (k : Nat) (hk : k < 4) : w.cell? ⟨sb, k, none⟩ = some (.int .i64 (W.gAt g k)) := by
  have : k = 0 ∨ k = 1 ∨ k = 2 ∨ k = 3 := by omega
  rcases this with rfl | rfl | rfl | rfl <;> (rw [cell_of_row _ _ _ _ _ (0, 0) h]; rfl)
theorem SgAt.fz {sb : Nat} {g : List Int} (h : SgAt sb g w) (k : Nat) : w.frozen? ⟨sb, k, none⟩ = false := by
  have h' : w.heap[sb]? = some _ := h
  simp [World.frozen?, h']
theorem SgAt.set {sb : Nat} {g : List Int} (h : SgAt sb g w) (hl : g.length = 4) (k : Nat) (hk : k < 4) (v : Int) : SgAt sb (W.gSet g k v) (w.setCell ⟨sb, k, none⟩ (.int .i64 v)) := by
  have h' : w.heap[sb]? = some _ := h
  match g, hl with
  | [a, b, c, d], _ =>
    have : k = 0 ∨ k = 1 ∨ k = 2 ∨ k = 3 := by omega
    unfold SgAt World.setCell
    rcases this with rfl | rfl | rfl | rfl <;> simp [Array.getElem?_modify, h', W.gAt, W.gSet]
theorem gSet_len (g : List Int) (k v : Int) : (W.gSet g k v).length = g.length := by simp [W.gSet]
theorem gset1 (w : World) (b j : Nat) (v : Value) : w.grownBy (w.setCell ⟨b, j, none⟩ v) (some b) := gsetCells b [v] j w

theorem Hq.oth {P : Nat → Prop} {w0 : World} (h : Hq n0 hb s P w0 w) {b : Nat} (hg : w.grownBy w' (some b)) (hp : P b) (hn : n0 ≤ b) : Hq n0 hb s P w0 w' := by
  obtain ⟨sv, av, h1, h2⟩ := h.c
  have hn0 : n0 ≤ w.heap.size := Nat.le_trans h1.n0 (Nat.le_of_lt h1.b.lt)
  exact ⟨⟨sv, av, h1.oth hg (h2 b hp).2, fun c hc => ⟨Nat.lt_of_lt_of_le (h2 c hc).1 hg.size, (h2 c hc).2⟩⟩, h.b.grown hg hn0 (fun c e => by cases e; exact hn), h.k⟩
theorem Hq.lt {P : Nat → Prop} {w0 : World} (h : Hq n0 hb s P w0 w) {b : Nat} (hp : P b) : b < w.heap.size := by
  obtain ⟨sv, av, h1, h2⟩ := h.c
  exact (h2 b hp).1
theorem Hq.addB {P : Nat → Prop} {w0 : World} (h : Hq n0 hb s P w0 w) (hb2 : Below w.heap.size w w') {b : Nat} (hl : w.heap.size ≤ b) (hl2 : b < w'.heap.size) : Hq n0 hb s (fun c => P c ∨ c = b) w0 w' := by
  obtain ⟨sv, av, h1, h2⟩ := h.c
  have hn : n0 ≤ w.heap.size := Nat.le_trans h1.n0 (Nat.le_of_lt h1.b.lt)
  refine ⟨⟨sv, av, h1.below hb2, fun c hp => ?_⟩, h.b.trans (hb2.mono hn), h.k⟩
  rcases hp with hp | rfl
  · exact ⟨Nat.lt_of_lt_of_le (h2 c hp).1 hb2.size, (h2 c hp).2⟩
  · exact ⟨hl2, h1.pt_new hl⟩
theorem Hq.lo {P : Nat → Prop} {w0 : World} (h : Hq n0 hb s P w0 w) : n0 ≤ w.heap.size := by
  obtain ⟨sv, av, h1, h2⟩ := h.c
  exact Nat.le_trans h1.n0 (Nat.le_of_lt h1.b.lt)

/-- A slice's block. -/
def SB (sl : W.Sl) (b : Nat) : Prop := 0 < sl.c ∧ ∃ o, sl.a = some ⟨b, o, none⟩
def Spr (sl : W.Sl) (w : World) : Prop := ∀ b o, sl.a = some ⟨b, o, none⟩ → w.there b (o + sl.n * 11) ((sl.c - sl.n) * 11)
/-- The memory of a round: the home's, what each hart has (sb), what was written last (nb), what is still to be told (sl); X: blocks that are none of these. -/
structure Ai (n0 hb sb nb : Nat) (X : Nat → Prop) (Z : Prop) (s : W.Hm) (g : List Int) (y : W.D4) (sl : W.Sl) (l : List W.Mg) (w0 w : World) : Prop where
  q : Hq n0 hb s (fun b => b = sb ∨ b = nb ∨ X b ∨ SB sl b) w0 w
  ms : Ms sl l w
  sp : Z ∨ Spr sl w
  cg : SgAt sb g w
  gl : g.length = 4
  y : LnAt nb y.1 y.2.1 y.2.2.1 y.2.2.2 w
  ne : sb ≠ nb
  dz : ∀ b, SB sl b → b ≠ sb ∧ b ≠ nb ∧ ¬ X b
  xz : ∀ b, X b → b ≠ sb ∧ b ≠ nb ∧ n0 ≤ b
  nz : n0 ≤ sb ∧ n0 ≤ nb ∧ ∀ b, SB sl b → n0 ≤ b
variable {sb nb : Nat} {X : Nat → Prop} {Z : Prop} {g : List Int} {y : W.D4} {sl : W.Sl} {l : List W.Mg} {w0 : World}
theorem there_blk {b o n : Nat} (h : w.there b o n) (e : w'.heap[b]? = w.heap[b]?) : w'.there b o n := fun j hj => by
  have := h j hj
  exact ⟨by rw [World.cell?_of_block (a := ⟨b, o + j, none⟩) e]; exact this.1, by rw [World.frozen?_of_block (a := ⟨b, o + j, none⟩) e]; exact this.2⟩
theorem spr_blk (h : Spr sl w) (hn : sl.n ≤ sl.c) (e : ∀ b, SB sl b → w'.heap[b]? = w.heap[b]?) : Spr sl w' := fun b o ea => by
  by_cases hc : 0 < sl.c
  · exact there_blk (h b o ea) (e b ⟨hc, o, ea⟩)
  · intro j hj
    exact absurd hj (by omega)
theorem ms_blk (h : Ms sl l w) (hz : w.heap.size ≤ w'.heap.size) (e : ∀ b, SB sl b → w'.heap[b]? = w.heap[b]?) : Ms sl l w' :=
  ⟨h.n, h.m, h.nc, fun h0 => by
    obtain ⟨b, o, ea, hl, hc⟩ := h.at_ h0
    have hsb : SB sl b := ⟨Nat.lt_of_lt_of_le h0 h.nc, o, ea⟩
    exact ⟨b, o, ea, Nat.lt_of_lt_of_le hl hz, fun j x hx => range_block (hc j x hx) (e b hsb)⟩⟩
/-- Other blocks have turned. -/
theorem Ai.on {X' : Nat → Prop} (h : Ai n0 hb sb nb X Z s g y sl l w0 w) (hq : Hq n0 hb s' (fun b => b = sb ∨ b = nb ∨ X' b ∨ SB sl b) w0 w') (hz : w.heap.size ≤ w'.heap.size)
    (e : ∀ b, b = sb ∨ b = nb ∨ SB sl b → w'.heap[b]? = w.heap[b]?) (hx : ∀ b, X' b → X b ∨ w.heap.size ≤ b) : Ai n0 hb sb nb X' Z s' g y sl l w0 w' := by
  have hs : sb < w.heap.size := h.cg.lt
  have hy : nb < w.heap.size := h.y.lt
  have hsl : ∀ b, SB sl b → b < w.heap.size := fun b hb => h.q.lt (Or.inr (Or.inr (Or.inr hb)))
  refine ⟨hq, ms_blk h.ms hz (fun b hb => e b (Or.inr (Or.inr hb))), ?_, h.cg.blk (e sb (Or.inl rfl)), h.gl, (e nb (Or.inr (Or.inl rfl))).trans h.y, h.ne, fun b hb => ⟨(h.dz b hb).1, (h.dz b hb).2.1, fun q => ?_⟩, fun b hb => ?_, h.nz⟩
  · rcases h.sp with z | z
    · exact Or.inl z
    · exact Or.inr (spr_blk z h.ms.nc (fun b hb => e b (Or.inr (Or.inr hb))))
  · rcases hx b q with q | q
    · exact (h.dz b hb).2.2 q
    · have := hsl b hb
      omega
  · rcases hx b hb with q | q
    · exact h.xz b q
    · refine ⟨by omega, by omega, ?_⟩
      have := h.q.lo
      omega
theorem Ai.below (h : Ai n0 hb sb nb X Z s g y sl l w0 w) (hb2 : Below w.heap.size w w') : Ai n0 hb sb nb X Z s g y sl l w0 w' :=
  h.on (h.q.below hb2) hb2.size (fun b hb => hb2.block b (h.q.lt (hb.elim Or.inl (fun q => Or.inr (q.elim Or.inl (fun r => Or.inr (Or.inr r))))))) (fun b hb => Or.inl hb)
theorem Ai.sub {X' : Nat → Prop} (h : Ai n0 hb sb nb X Z s g y sl l w0 w) (hx : ∀ b, X' b → X b) : Ai n0 hb sb nb X' Z s g y sl l w0 w :=
  h.on (h.q.sub (fun b hb => hb.elim Or.inl (fun q => Or.inr (q.elim Or.inl (fun r => Or.inr (r.elim (fun t => Or.inl (hx b t)) Or.inr)))))) (Nat.le_refl _) (fun _ _ => rfl) (fun b hb => Or.inl (hx b hb))
/-- A block is made. -/
theorem Ai.add (h : Ai n0 hb sb nb X Z s g y sl l w0 w) (hb2 : Below w.heap.size w w') (b1 : Nat) (hl : w.heap.size ≤ b1) (hl2 : b1 < w'.heap.size) : Ai n0 hb sb nb (fun b => X b ∨ b = b1) Z s g y sl l w0 w' := by
  refine h.on ((h.q.addB hb2 hl hl2).sub (fun b hb => ?_)) hb2.size (fun b hb => hb2.block b (h.q.lt (hb.elim Or.inl (fun q => Or.inr (q.elim Or.inl (fun r => Or.inr (Or.inr r))))))) (fun b hb => hb.elim Or.inl (fun e => Or.inr (by omega)))
  rcases hb with q | q | (q | q) | q
  · exact Or.inl (Or.inl q)
  · exact Or.inl (Or.inr (Or.inl q))
  · exact Or.inl (Or.inr (Or.inr (Or.inl q)))
  · exact Or.inr q
  · exact Or.inl (Or.inr (Or.inr (Or.inr q)))
/-- A block of X is written. -/
theorem Ai.setX (h : Ai n0 hb sb nb X Z s g y sl l w0 w) {b1 : Nat} (hx : X b1) (hg : w.grownBy w' (some b1)) : Ai n0 hb sb nb X Z s g y sl l w0 w' := by
  have hz := h.xz b1 hx
  refine h.on (h.q.oth hg (Or.inr (Or.inr (Or.inl hx))) hz.2.2) hg.size (fun b hb => hg.block b (h.q.lt (hb.elim Or.inl (fun q => Or.inr (q.elim Or.inl (fun r => Or.inr (Or.inr r)))))) (fun e => ?_)) (fun b hb => Or.inl hb)
  obtain rfl : b = b1 := by cases e; rfl
  rcases hb with q | q | q
  · exact hz.1 q
  · exact hz.2.1 q
  · exact (h.dz _ q).2.2 hx
/-- What a hart has is set. -/
theorem Ai.setG (h : Ai n0 hb sb nb X Z s g y sl l w0 w) (k : Nat) (hk : k < 4) (v : Int) : Ai n0 hb sb nb X Z s (W.gSet g k v) y sl l w0 (w.setCell ⟨sb, k, none⟩ (.int .i64 v)) := by
  have hg := gset1 w sb k (.int .i64 v)
  have oth : ∀ b, b = nb ∨ SB sl b → (w.setCell ⟨sb, k, none⟩ (.int .i64 v)).heap[b]? = w.heap[b]? := fun b hb => hg.block b (h.q.lt (Or.inr (hb.elim Or.inl (fun r => Or.inr (Or.inr r))))) (fun e => by
    obtain rfl : b = sb := by cases e; rfl
    rcases hb with q | q
    · exact h.ne q
    · exact (h.dz _ q).1 rfl)
  refine ⟨h.q.oth hg (Or.inl rfl) h.nz.1, ms_blk h.ms hg.size (fun b hb => oth b (Or.inr hb)), ?_, h.cg.set h.gl k hk v, by rw [gSet_len]; exact h.gl, (oth nb (Or.inl rfl)).trans h.y, h.ne, h.dz, h.xz, h.nz⟩
  rcases h.sp with z | z
  · exact Or.inl z
  · exact Or.inr (spr_blk z h.ms.nc (fun b hb => oth b (Or.inr hb)))
/-- The first one is taken off. -/
theorem Ai.tail {b o n c : Nat} {m : W.Mg} (h : Ai n0 hb sb nb X Z s g y ⟨some ⟨b, o, none⟩, n, c⟩ (m :: l) w0 w) (a' : Option Addr) (ha : a' = some (if c = 1 then ⟨b, o, none⟩ else ⟨b, o + 11, none⟩)) : Ai n0 hb sb nb X Z s g y ⟨a', n - 1, c - 1⟩ l w0 w := by
  subst ha
  have hn : n = l.length + 1 := h.ms.n
  have hnc : n ≤ c := h.ms.nc
  have hm : n ≤ 4096 := h.ms.m
  have hsub : ∀ b', SB ⟨some (if c = 1 then ⟨b, o, none⟩ else ⟨b, o + 11, none⟩), n - 1, c - 1⟩ b' → SB ⟨some ⟨b, o, none⟩, n, c⟩ b' := fun b' hb' => by
    obtain ⟨h1, o', e⟩ := hb'
    dsimp only at h1 e
    rw [if_neg (by omega)] at e
    cases e
    exact ⟨by show 0 < c; omega, o, rfl⟩
  refine ⟨h.q.sub (fun b' hb' => hb'.elim Or.inl (fun q => Or.inr (q.elim Or.inl (fun r => Or.inr (r.elim Or.inl (fun t => Or.inr (hsub b' t))))))), ⟨by show n - 1 = l.length; omega, by show n - 1 ≤ 4096; omega, by show n - 1 ≤ c - 1; omega, fun h0 => ?_⟩, ?_, h.cg, h.gl, h.y, h.ne, fun b' hb' => h.dz b' (hsub b' hb'), h.xz, h.nz.1, h.nz.2.1, fun b' hb' => h.nz.2.2 b' (hsub b' hb')⟩
  · dsimp only at h0
    obtain ⟨b', o', e, hl, hc⟩ := h.ms.at_ (by show 0 < n; omega)
    cases e
    refine ⟨b, o + 11, by dsimp only; rw [if_neg (by omega)], hl, fun j x hx => ?_⟩
    have := hc (j + 1) x hx
    rw [show o + (j + 1) * 11 = o + 11 + j * 11 by omega] at this
    exact this
  · rcases h.sp with z | z
    · exact Or.inl z
    · refine Or.inr (fun b' o' e => ?_)
      dsimp only at e ⊢
      by_cases hc1 : c = 1
      · intro j hj
        exact absurd hj (by omega)
      · rw [if_neg hc1] at e
        cases e
        have := z b o rfl
        dsimp only at this
        rw [show o + 11 + (n - 1) * 11 = o + n * 11 by omega, show c - 1 - (n - 1) = c - n by omega]
        exact this
/-- Another list is to be told: in a new block. -/
theorem Ai.fresh {Z' : Prop} {sl' : W.Sl} {l' : List W.Mg} (h : Ai n0 hb sb nb X Z s g y sl l w0 w) (hz : w.heap.size ≤ w'.heap.size) (hq : Hq n0 hb s' (fun b => b = sb ∨ b = nb ∨ SB sl' b) w0 w') (hms : Ms sl' l' w')
    (e1 : w'.heap[sb]? = w.heap[sb]?) (e2 : w'.heap[nb]? = w.heap[nb]?) (hn : ∀ b, SB sl' b → w.heap.size ≤ b) (hs : Z' ∨ Spr sl' w') : Ai n0 hb sb nb (fun _ => False) Z' s' g y sl' l' w0 w' := by
  have l1 : sb < w.heap.size := h.cg.lt
  have l2 : nb < w.heap.size := h.y.lt
  have l0 := h.q.lo
  refine ⟨hq.sub (fun b hb => hb.elim Or.inl (fun q => Or.inr (q.elim Or.inl (fun r => r.elim (fun f => f.elim) Or.inr)))), hms, hs, h.cg.blk e1, h.gl, e2.trans h.y, h.ne, fun b hb => ⟨?_, ?_, fun f => f⟩, fun b hb => hb.elim, h.nz.1, h.nz.2.1, fun b hb => Nat.le_trans l0 (hn b hb)⟩
  · have := hn b hb; omega
  · have := hn b hb; omega
/-- What Take answers is to be told. -/
theorem Ai.took {Z' : Prop} {sl' : W.Sl} {l' : List W.Mg} (h : Ai n0 hb sb nb X Z s g y sl l w0 w) (hq : Hq n0 hb s' (fun b => (b = sb ∨ b = nb ∨ X b ∨ SB sl b) ∨ 0 < sl'.n ∧ ∃ o, sl'.a = some ⟨b, o, none⟩) w0 w') (hz : w.heap.size ≤ w'.heap.size) (hms : Ms sl' l' w')
    (hk : ∀ b, (b = sb ∨ b = nb ∨ X b ∨ SB sl b) → w'.heap[b]? = w.heap[b]?) (hs : ∀ b o, sl'.a = some ⟨b, o, none⟩ → w.heap.size ≤ b ∧ w'.there b (o + sl'.n * 11) ((sl'.c - sl'.n) * 11)) (hne : 0 < sl'.n) : Ai n0 hb sb nb (fun _ => False) Z' s' g y sl' l' w0 w' := by
  refine h.fresh hz (hq.sub (fun b hb => ?_)) hms (hk sb (Or.inl rfl)) (hk nb (Or.inr (Or.inl rfl))) (fun b hb => ?_) (Or.inr (fun b o e => (hs b o e).2))
  · rcases hb with q | q | q
    · exact Or.inl (Or.inl q)
    · exact Or.inl (Or.inr (Or.inl q))
    · exact Or.inr ⟨hne, q.2⟩
  · obtain ⟨_, o, e⟩ := hb
    exact (hs b o e).1
/-- Nothing is answered. -/
theorem Ai.took0 {sl' : W.Sl} (h : Ai n0 hb sb nb X Z s g y sl l w0 w) (hq : Hq n0 hb s' (fun b => (b = sb ∨ b = nb ∨ X b ∨ SB sl b) ∨ 0 < sl'.n ∧ ∃ o, sl'.a = some ⟨b, o, none⟩) w0 w') (hz : w.heap.size ≤ w'.heap.size)
    (hk : ∀ b, (b = sb ∨ b = nb ∨ X b ∨ SB sl b) → w'.heap[b]? = w.heap[b]?) : Ai n0 hb sb nb (fun _ => False) Z s' g y sl l w0 w' :=
  h.on (hq.sub (fun b hb => Or.inl (hb.elim Or.inl (fun q => Or.inr (q.elim Or.inl (fun r => r.elim (fun f => f.elim) (fun t => Or.inr (Or.inr t)))))))) hz (fun b hb => hk b (hb.elim Or.inl (fun q => Or.inr (q.elim Or.inl (fun r => Or.inr (Or.inr r)))))) (fun b hb => hb.elim)
/-- One is laid into the room behind nothing. -/
theorem Ai.room {Z' : Prop} {b o c : Nat} (h : Ai n0 hb sb nb X Z s g y ⟨some ⟨b, o, none⟩, 0, c⟩ [] w0 w) (hc : 0 < c) (M : W.Mg) (hz' : Z') (hth : w.there b o 11) : Ai n0 hb sb nb X Z' s g y ⟨some ⟨b, o, none⟩, 1, c⟩ [M] w0 (w.setCells b o (mgL M)) := by
  have hsb : SB ⟨some ⟨b, o, none⟩, 0, c⟩ b := ⟨hc, o, rfl⟩
  have hg := gsetCells b (mgL M) o w
  have hd := h.dz b hsb
  have hlt : b < w.heap.size := h.q.lt (Or.inr (Or.inr (Or.inr hsb)))
  have hiff : ∀ b', SB ⟨some ⟨b, o, none⟩, 1, c⟩ b' → SB ⟨some ⟨b, o, none⟩, 0, c⟩ b' := fun b' hb' => hb'
  refine ⟨h.q.oth hg (Or.inr (Or.inr (Or.inr hsb))) (h.nz.2.2 b hsb), ⟨rfl, by show 1 ≤ 4096; decide, hc, fun _ => ⟨b, o, rfl, Nat.lt_of_lt_of_le hlt hg.size, fun j x hx => ?_⟩⟩, Or.inl hz', h.cg.blk (hg.block sb h.cg.lt (fun e => hd.1 (by cases e; rfl))), h.gl, (hg.block nb h.y.lt (fun e => hd.2.1 (by cases e; rfl))).trans h.y, h.ne, fun b' hb' => h.dz b' (hiff b' hb'), h.xz, h.nz.1, h.nz.2.1, fun b' hb' => h.nz.2.2 b' (hiff b' hb')⟩
  cases j with
  | succ j => simp at hx
  | zero =>
    obtain rfl : M = x := by simpa using hx
    intro i v hv
    rw [Nat.zero_mul, Nat.add_zero]
    have hi := List.getElem?_eq_some_iff.1 hv
    obtain ⟨hi1, hi2⟩ := hi
    rw [World.cell?_setCells_in b (mgL M) o w (fun k hk => (hth k hk).1) i hi1, hi2]
/-- A message in a block of its own. -/
def putM (w : World) (m : W.Mg) : World := (w.alloc (.cells #[.int .i64 0, .int .i64 0, .int .i64 0, .int .i64 0, .int .u32 0, .int .u32 0, .int .u32 0, .int .u32 0, .bool false, .bool false, .bool false] 35)).setRow w.heap.size (mgL m).toArray
theorem putM_run (w : World) (m : W.Mg) : (stM ⟨w.heap.size, 0, none⟩ (mgV m)).run Try.prog (w.alloc (.cells #[.int .i64 0, .int .i64 0, .int .i64 0, .int .i64 0, .int .u32 0, .int .u32 0, .int .u32 0, .int .u32 0, .bool false, .bool false, .bool false] 35)) = .ok () (putM w m) := (msgRoom_new w _ rfl).st m
theorem putM_at (w : World) (m : W.Mg) : MsgAt w.heap.size m (putM w m) := (msgRoom_new w _ rfl).set m
theorem putM_below (w : World) (m : W.Mg) : Below w.heap.size w (putM w m) := (below_alloc w _).grown (gsetRow _ _ _) (by simp) (fun b e => by cases e; exact Nat.le_refl _)
theorem bdM_23 (f : Int) (w : World) : (bdM #[(2, .int .i64 f), (3, .int .i64 (-1))]).run Try.prog w = .ok (mgV ⟨0, 0, f, -1, 0, 0, 0, 0, false, false, false⟩) w := by kernel_rfl
theorem Ai.zmap {Z' : Prop} (h : Ai n0 hb sb nb X Z s g y sl l w0 w) (hz : Z → Z') : Ai n0 hb sb nb X Z' s g y sl l w0 w := ⟨h.q, h.ms, h.sp.imp_left hz, h.cg, h.gl, h.y, h.ne, h.dz, h.xz, h.nz⟩
/-- One is laid into a new row. -/
theorem Ai.grows {Z' : Prop} {sl' : W.Sl} {M : W.Mg} {B : Nat} (h : Ai n0 hb sb nb X Z s g y sl l w0 w) (hg : w.grownBy w' none) (hms : Ms sl' [M] w') (hB : ∀ b o, sl'.a = some ⟨b, o, none⟩ → w.heap.size ≤ b ∧ w'.there b (o + sl'.n * 11) ((sl'.c - sl'.n) * 11)) : Ai n0 hb sb nb (fun _ => False) Z' s g y sl' [M] w0 w' := by
  have hbel : Below w.heap.size w w' := below_grown hg (Nat.le_refl _) (fun b e => by cases e)
  obtain ⟨b1, o1, ea, hl, _⟩ := hms.at_ (by rw [hms.n]; simp)
  have hge := (hB b1 o1 ea).1
  have hq := h.q.addB hbel hge hl
  refine h.fresh hg.size (hq.sub (fun b hb => ?_)) hms (hg.block sb h.cg.lt (by simp)) (hg.block nb h.y.lt (by simp)) (fun b hb => ?_) (Or.inr (fun b o e => (hB b o e).2))
  · rcases hb with q | q | ⟨_, o, q⟩
    · exact Or.inl (Or.inl q)
    · exact Or.inl (Or.inr (Or.inl q))
    · rw [ea] at q
      cases q
      exact Or.inr rfl
  · obtain ⟨_, o, e⟩ := hb
    exact (hB b o e).1
end Go.Proofs.Ytadkpelcbnljbaa
