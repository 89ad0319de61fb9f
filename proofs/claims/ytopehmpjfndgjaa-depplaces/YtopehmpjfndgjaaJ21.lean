/- Texts in one: DepI, DepJ, DepKl. -/
import Derived.Deep.AppendLies
import Derived.Deep.RegionLaw
import Derived.Test.YtopehmpjfndgjaaJ20
/- What take keeps true. -/
namespace Go.Proofs.Ytopehmpjfndgjaa
open Go.ChangeShapes Go.WideShapes Go.ChangeAt Go.RowKit
set_option linter.unusedVariables false
set_option linter.unusedSimpArgs false

/-- A list that lies in memory, in none of these blocks. -/
structure Lx (F : Nat → Prop) (s : W.Sl) (l : List Int) (w : World) : Prop where
  li : Li s l w
  ap : ∀ b o, 0 < s.n → s.a = some ⟨b, o, none⟩ → ¬ F b
theorem Lx.below {F : Nat → Prop} {s : W.Sl} {l : List Int} {w w' : World} (h : Lx F s l w) (hb : Below w.heap.size w w') : Lx F s l w' := ⟨h.li.below hb, h.ap⟩
theorem Li.block {s : W.Sl} {l : List Int} {w w' : World} (h : Li s l w) (hk : ∀ b o, 0 < s.n → s.a = some ⟨b, o, none⟩ → b < w.heap.size → b < w'.heap.size ∧ ∀ j, w'.cell? ⟨b, j, none⟩ = w.cell? ⟨b, j, none⟩) : Li s l w' :=
  ⟨h.n, h.m, h.nc, fun h0 => by
    obtain ⟨b, o, e, hl, hc⟩ := h.at_ h0
    obtain ⟨k1, k2⟩ := hk b o h0 e hl
    exact ⟨b, o, e, k1, fun j x hx => (k2 _).trans (hc j x hx)⟩⟩
theorem Lx.set {F : Nat → Prop} {s : W.Sl} {l : List Int} {w : World} (h : Lx F s l w) (b k : Nat) (v : Value) (hF : F b) : Lx F s l (w.setCell ⟨b, k, none⟩ v) :=
  ⟨h.li.block fun g o h0 e hl => ⟨by simpa [World.setCell] using hl, fun j => World.cell?_setCell_other _ _ _ _ (by
    have : g ≠ b := fun e' => h.ap g o h0 e (e' ▸ hF)
    simp [this])⟩, h.ap⟩
theorem Lx.mono {F G : Nat → Prop} {s : W.Sl} {l : List Int} {w : World} (h : Lx F s l w) (hG : ∀ b, b < w.heap.size → G b → F b) : Lx G s l w :=
  ⟨h.li, fun b o h0 e hg => by
    obtain ⟨b', o', e', hl, _⟩ := h.li.at_ h0
    rw [e] at e'
    cases e'
    exact h.ap b o h0 e (hG b hl hg)⟩
theorem lx_new {F : Nat → Prop} {s : W.Sl} {l : List Int} {w : World} {n : Nat} (h : Li s l w) (hn : 0 < s.n → ∃ b, s.a = some ⟨b, 0, none⟩ ∧ n ≤ b) (hF : ∀ b, n ≤ b → ¬ F b) : Lx F s l w :=
  ⟨h, fun b o h0 e hf => by
    obtain ⟨b', e', hb⟩ := hn h0
    rw [e] at e'
    cases e'
    exact hF b hb hf⟩
theorem lx_nil (F : Nat → Prop) (w : World) : Lx F W.Sl.nil [] w := ⟨li_nil w, fun b o h0 _ => absurd h0 (by decide)⟩
/-- Behind growth of one block. -/
theorem Lx.grown {F : Nat → Prop} {s : W.Sl} {l : List Int} {w w' : World} {r : Option Nat} (h : Lx F s l w) (hg : w.grownBy w' r) (hF : ∀ b, r = some b → F b) : Lx F s l w' :=
  ⟨h.li.block fun b o h0 e hl => ⟨Nat.lt_of_lt_of_le hl hg.size, fun j => World.cell?_of_block (hg.block b hl (fun e' => h.ap b o h0 e (hF b e'.symm)))⟩, h.ap⟩

/-- An operation with what it hangs on, and where that lies. -/
structure Oq where
  o : W.Opr
  a : W.Sl
  d : W.Sl
  c : W.Sl
  la : List Int
  ld : List Int
  lc : List Int
def Oq.cells (q : Oq) : List Value := (opC q.o q.a q.d q.c).toList
def opsX (L : List Oq) : List Value := L.flatMap Oq.cells
structure OqIn (F : Nat → Prop) (q : Oq) (w : World) : Prop where
  a : Lx F q.a q.la w
  d : Lx F q.d q.ld w
  c : Lx F q.c q.lc w
/-- The flow, with its lists and operations. -/
structure Fs (n0 : Nat) (w0 : World) (fb : Nat) (G : Nat → Prop) (r : Nat → List Int) (c : List Int) (L : List Oq) (R : Nat → W.Sl) (C O : W.Sl) (w : World) : Prop where
  f : Fb fb R C O w
  b : Below n0 w0 w
  nf : n0 ≤ fb
  rl : ∀ k, k < 32 → Lx (fun b => b = fb ∨ some b = (slV O).ownBlock ∨ G b) (R k) (r k) w
  cl : Lx (fun b => b = fb ∨ some b = (slV O).ownBlock ∨ G b) C c w
  ow : w.ownsRow n0 32 13 (slV O) L.length (opsX L)
  of : some fb ≠ (slV O).ownBlock
  ll : ∀ q ∈ L, OqIn (fun b => b = fb ∨ some b = (slV O).ownBlock ∨ G b) q w
theorem Fs.below {n0 : Nat} {w0 : World} {fb : Nat} {G : Nat → Prop} {r : Nat → List Int} {c : List Int} {L : List Oq} {R : Nat → W.Sl} {C O : W.Sl} {w w' : World} (h : Fs n0 w0 fb G r c L R C O w) (hb : Below w.heap.size w w') : Fs n0 w0 fb G r c L R C O w' :=
  ⟨h.f.below hb, h.b.trans (hb.mono (Nat.le_trans h.nf (Nat.le_of_lt h.f.lt))), h.nf, fun k hk => (h.rl k hk).below hb, h.cl.below hb, own_below h.ow hb, h.of, fun q hq => ⟨(h.ll q hq).a.below hb, (h.ll q hq).d.below hb, (h.ll q hq).c.below hb⟩⟩
/-- More blocks that are not theirs: those of new memory. -/
theorem Fs.more {n0 : Nat} {w0 : World} {fb : Nat} {G H : Nat → Prop} {r : Nat → List Int} {c : List Int} {L : List Oq} {R : Nat → W.Sl} {C O : W.Sl} {w : World} (h : Fs n0 w0 fb G r c L R C O w) (hH : ∀ b, b < w.heap.size → H b → G b) : Fs n0 w0 fb H r c L R C O w :=
  have m : ∀ b, b < w.heap.size → (b = fb ∨ some b = (slV O).ownBlock ∨ H b) → (b = fb ∨ some b = (slV O).ownBlock ∨ G b) := fun b hb k => k.imp id (·.imp id (hH b hb))
  ⟨h.f, h.b, h.nf, fun k hk => (h.rl k hk).mono m, h.cl.mono m, h.ow, h.of, fun q hq => ⟨(h.ll q hq).a.mono m, (h.ll q hq).d.mono m, (h.ll q hq).c.mono m⟩⟩
theorem gsetCell (w : World) (b k : Nat) (v : Value) : w.grownBy (w.setCell ⟨b, k, none⟩ v) (some b) := by
  refine ⟨rfl, rfl, rfl, by simp [World.setCell], fun g hb hne => ?_⟩
  simp only [World.setCell, Array.getElem?_modify]
  rw [if_neg (fun e => hne (by rw [e]))]
def updL (r : Nat → List Int) (k : Nat) (l : List Int) : Nat → List Int := fun j => if j = k then l else r j
theorem Fs.setR {n0 : Nat} {w0 : World} {fb : Nat} {G : Nat → Prop} {r : Nat → List Int} {c : List Int} {L : List Oq} {R : Nat → W.Sl} {C O : W.Sl} {w : World} (h : Fs n0 w0 fb G r c L R C O w) (k : Nat) (hk : k < 32) (s : W.Sl) (l : List Int) (hs : Lx (fun b => b = fb ∨ some b = (slV O).ownBlock ∨ G b) s l w) :
    Fs n0 w0 fb G (updL r k l) c L (W.upd R k s) C O (w.setCell ⟨fb, k, none⟩ (slV s)) :=
  ⟨h.f.setR k hk s, h.b.setCell h.nf _, h.nf, fun j hj => by
    unfold updL W.upd
    by_cases e : j = k
    · rw [if_pos e, if_pos e]; exact hs.set fb k _ (Or.inl rfl)
    · rw [if_neg e, if_neg e]; exact (h.rl j hj).set fb k _ (Or.inl rfl), h.cl.set fb k _ (Or.inl rfl), h.ow.kept (gsetCell w fb k _) (Or.inr (Ne.symm h.of)), h.of, fun q hq => ⟨(h.ll q hq).a.set fb k _ (Or.inl rfl), (h.ll q hq).d.set fb k _ (Or.inl rfl), (h.ll q hq).c.set fb k _ (Or.inl rfl)⟩⟩
theorem Fs.setC {n0 : Nat} {w0 : World} {fb : Nat} {G : Nat → Prop} {r : Nat → List Int} {c : List Int} {L : List Oq} {R : Nat → W.Sl} {C O : W.Sl} {w : World} (h : Fs n0 w0 fb G r c L R C O w) (s : W.Sl) (l : List Int) (hs : Lx (fun b => b = fb ∨ some b = (slV O).ownBlock ∨ G b) s l w) :
    Fs n0 w0 fb G r l L R s O (w.setCell ⟨fb, 32, none⟩ (slV s)) :=
  ⟨h.f.setC s, h.b.setCell h.nf _, h.nf, fun j hj => (h.rl j hj).set fb 32 _ (Or.inl rfl), hs.set fb 32 _ (Or.inl rfl), h.ow.kept (gsetCell w fb 32 _) (Or.inr (Ne.symm h.of)), h.of, fun q hq => ⟨(h.ll q hq).a.set fb 32 _ (Or.inl rfl), (h.ll q hq).d.set fb 32 _ (Or.inl rfl), (h.ll q hq).c.set fb 32 _ (Or.inl rfl)⟩⟩
/-- Into a block of take's own. -/
theorem Fs.setG {n0 : Nat} {w0 : World} {fb : Nat} {G : Nat → Prop} {r : Nat → List Int} {c : List Int} {L : List Oq} {R : Nat → W.Sl} {C O : W.Sl} {w : World} (h : Fs n0 w0 fb G r c L R C O w) (b k : Nat) (v : Value) (hG : G b) (hf : fb ≠ b) (hn : n0 ≤ b) (ho : some b ≠ (slV O).ownBlock) :
    Fs n0 w0 fb G r c L R C O (w.setCell ⟨b, k, none⟩ v) :=
  ⟨h.f.other hf, h.b.setCell hn _, h.nf, fun j hj => (h.rl j hj).set b k _ (Or.inr (Or.inr hG)), h.cl.set b k _ (Or.inr (Or.inr hG)), h.ow.kept (gsetCell w b k _) (Or.inr (Ne.symm ho)), h.of, fun q hq => ⟨(h.ll q hq).a.set b k _ (Or.inr (Or.inr hG)), (h.ll q hq).d.set b k _ (Or.inr (Or.inr hG)), (h.ll q hq).c.set b k _ (Or.inr (Or.inr hG))⟩⟩
theorem Fb.grown {fb : Nat} {R : Nat → W.Sl} {C O : W.Sl} {w w' : World} {r : Option Nat} (h : Fb fb R C O w) (hg : w.grownBy w' r) (hne : some fb ≠ r) : Fb fb R C O w' := by
  have q := hg.block fb h.lt hne
  have c : ∀ j, w'.cell? ⟨fb, j, none⟩ = w.cell? ⟨fb, j, none⟩ := fun j => World.cell?_of_block q
  exact ⟨Nat.lt_of_lt_of_le h.lt hg.size, fun k hk => (c k).trans (h.rg k hk), (c 32).trans h.ct, (c 33).trans h.op, fun j => by
    have := h.fz j
    simp only [World.frozen?] at this ⊢
    rw [q]
    exact this⟩
theorem opsX_app (L : List Oq) (q : Oq) : opsX (L ++ [q]) = opsX L ++ q.cells := by simp [opsX]
/-- Behind the append, and its place written. -/
theorem Fs.app {n0 : Nat} {w0 : World} {fb : Nat} {G : Nat → Prop} {r : Nat → List Int} {c : List Int} {L : List Oq} {R : Nat → W.Sl} {C O P : W.Sl} {w w' : World} (h : Fs n0 w0 fb G r c L R C O w) (q : Oq) (hq : OqIn (fun b => b = fb ∨ some b = (slV O).ownBlock ∨ G b) q w) (hg : w.grownBy w' (slV O).ownBlock) (ho : w'.ownsRow n0 32 13 (slV P) (L.length + 1) (opsX L ++ q.cells)) (hP : ∀ b, some b = (slV P).ownBlock → some b = (slV O).ownBlock ∨ w.heap.size ≤ b) :
    Fs n0 w0 fb G r c (L ++ [q]) R C P (w'.setCell ⟨fb, 33, none⟩ (slV P)) := by
  have lx : ∀ s l, Lx (fun b => b = fb ∨ some b = (slV O).ownBlock ∨ G b) s l w → Lx (fun b => b = fb ∨ some b = (slV P).ownBlock ∨ G b) s l (w'.setCell ⟨fb, 33, none⟩ (slV P)) := fun s l k =>
    Lx.set (w := w') ⟨(k.grown hg (fun b e => Or.inr (Or.inl e.symm))).li, fun b o h0 e hf => by
      rcases hf with hf | hf | hf
      · exact k.ap b o h0 e (Or.inl hf)
      · rcases hP b hf with h1 | h1
        · exact k.ap b o h0 e (Or.inr (Or.inl h1))
        · obtain ⟨b', o', e', hl, _⟩ := k.li.at_ h0
          rw [e] at e'
          cases e'
          omega
      · exact k.ap b o h0 e (Or.inr (Or.inr hf))⟩ fb 33 _ (Or.inl rfl)
  have hfP : some fb ≠ (slV P).ownBlock := fun e => by
    rcases hP fb e with h1 | h1
    · exact h.of h1
    · have := h.f.lt; omega
  refine ⟨(h.f.grown hg h.of).setO P, ((Below.grown h.b hg (Nat.le_trans h.nf (Nat.le_of_lt h.f.lt)) (fun b e => (h.ow.lt b e).1)).setCell h.nf _), h.nf, fun k hk => lx _ _ (h.rl k hk), lx _ _ h.cl, ?_, hfP, fun z hz => ?_⟩
  · rw [List.length_append, opsX_app]
    exact ho.kept (gsetCell w' fb 33 _) (Or.inr (Ne.symm hfP))
  · rcases List.mem_append.1 hz with hz | hz
    · exact ⟨lx _ _ (h.ll z hz).a, lx _ _ (h.ll z hz).d, lx _ _ (h.ll z hz).c⟩
    · obtain rfl : z = q := by simpa using hz
      exact ⟨lx _ _ hq.a, lx _ _ hq.d, lx _ _ hq.c⟩
end Go.Proofs.Ytopehmpjfndgjaa

/- Calls of take, at what it keeps true. -/
namespace Go.Proofs.Ytopehmpjfndgjaa
open Go.ChangeShapes Go.WideShapes Go.ChangeAt Go.RowKit
set_option linter.unusedVariables false
set_option linter.unusedSimpArgs false

theorem result_x {F : Nat → Prop} (fb : Nat) (R : Nat → W.Sl) (C O : W.Sl) (op k : Int) (s t : W.Sl) (A B : List Int) (w : World) (hF : Fb fb R C O w) (hs : Lx F s A w) (ht : Lx F t B w) (hA : A.Pairwise (· < ·)) (hB : B.Pairwise (· < ·)) (hz : A.length + B.length ≤ 4096) (hn : ∀ b, w.heap.size ≤ b → ¬ F b) :
    Calls Try.prog 24 #[.pointer (some ⟨fb, 0, none⟩), .int .i64 op, .int .i64 k, slV s, slV t] w fun e w' => (∃ u, e = .returned (slV u) ∧ Lx F u (W.resL O.n op k A B) w') ∧ Below w.heap.size w w' :=
  (result_any fb R C O op k s t A B w hF hs.li ht.li hA hB hz).mono fun e w' ⟨⟨u, h1, h2, h3⟩, h4⟩ => ⟨⟨u, h1, ⟨h2, by
    rcases h3 with rfl | rfl | h3
    · exact hs.ap
    · exact ht.ap
    · exact (lx_new h2 h3 hn).ap⟩⟩, h4⟩
theorem union_x {F : Nat → Prop} (s t : W.Sl) (A B : List Int) (w : World) (hs : Lx F s A w) (ht : Lx F t B w) (hA : A.Pairwise (· < ·)) (hB : B.Pairwise (· < ·)) (hz : A.length + B.length ≤ 4096) (hn : ∀ b, w.heap.size ≤ b → ¬ F b) :
    Calls Try.prog 27 #[slV s, slV t] w fun e w' => (∃ u, e = .returned (slV u) ∧ Lx F u (W.uni A B) w') ∧ Below w.heap.size w w' :=
  (union_any s t A B w hs.li ht.li hA hB hz).mono fun e w' ⟨⟨u, h1, h2, h3⟩, h4⟩ => ⟨⟨u, h1, ⟨h2, by
    rcases h3 with rfl | rfl | h3
    · exact hs.ap
    · exact ht.ap
    · exact (lx_new h2 h3 hn).ap⟩⟩, h4⟩
theorem clone_x {F : Nat → Prop} (s : W.Sl) (l : List Int) (w : World) (hs : Lx F s l w) (hn : ∀ b, w.heap.size ≤ b → ¬ F b) : Calls Try.prog 25 #[slV s] w fun e w' => (∃ t, e = .returned (slV t) ∧ Lx F t l w') ∧ Below w.heap.size w w' :=
  (clone_any s l w hs.li).mono fun e w' ⟨⟨t, h1, h2, h3⟩, h4⟩ => ⟨⟨t, h1, lx_new h2 h3 hn⟩, h4⟩
/-- take's own two blocks. -/
abbrev Tw (n : Nat) (b : Nat) : Prop := b = n ∨ b = n + 1
/-- New blocks are none of theirs. -/
theorem Fs.none {n0 : Nat} {w0 : World} {fb n : Nat} {r : Nat → List Int} {c : List Int} {L : List Oq} {R : Nat → W.Sl} {C O : W.Sl} {w : World} (h : Fs n0 w0 fb (Tw n) r c L R C O w) (hn : n + 1 < w.heap.size) : ∀ b, w.heap.size ≤ b → ¬ (b = fb ∨ some b = (slV O).ownBlock ∨ Tw n b) := by
  intro b hb hk
  have := h.f.lt
  rcases hk with hk | hk | hk | hk
  · omega
  · have := (h.ow.lt b hk.symm).2
    omega
  · omega
  · omega
theorem step_lies {P : Program} (w : World) {ops : Array Oper} {a : Act} {K : Act → World → Prop} {Q : Exit → Act → World → Prop} {E : Prop} (d s x t : Nat) {ty : TypeId} {ps : String} {af : Array Edge}
    (base : Nat) (e : TypeId) (i : TypeInfo) (z : Value) (size bytes : Nat) (ht : P.underlying t = some (.slice e)) (hi : P.info? e = some i) (hz : i.zero = some z)
    (hsize : i.size = size) (hby : i.bytes = bytes) (hzs : z.cells.size = size) (hsz : 0 < size)
    (v : Value) (n : Nat) (xs : List Value) (hs : a.eval (.tmp s) = v) (hown : w.ownsRow base e size v n xs)
    (ad : Addr) (m c : Nat) (news : List Value) (hx : a.eval (.tmp x) = .slice (some ad) m c) (hl : news.length = m * size) (hnews : ∀ j u, news[j]? = some u → w.cell? (ad.add j) = some u) (h1 : ∀ u ∈ news, u.oneCell' = true)
    (hm : 0 < m) (h63 : n + m ≤ maxLen) (hbytes : (n + m) * bytes ≤ 140737488355328) (hbase : base ≤ w.heap.size)
    (h : ∀ g cap w', w'.ownsRow base e size (.slice (some ⟨g, 0, none⟩) (n + m) cap) (n + m) (xs ++ news) → w.grownBy w' v.ownBlock → (v.ownBlock = some g ∨ g = w.heap.size) → g < w'.heap.size → K (a.put (some d) (.slice (some ⟨g, 0, none⟩) (n + m) cap)) w') :
    if Region.wanted { dst := some d, op := .call { callee := .builtin .append, args := #[.tmp s, .tmp x], argTypes := #[t, t] }, type := ty, pos := ps, after := af, guard := none } (yielded ops a.tmps) = true then Oper.wp P { dst := some d, op := .call { callee := .builtin .append, args := #[.tmp s, .tmp x], argTypes := #[t, t] }, type := ty, pos := ps, after := af, guard := none } a w K Q else E := by
  rw [if_pos (by simp [Region.wanted])]
  exact wp_append_lies w _ _ t rfl base e i z size bytes ht hi hz hsize hby hzs hsz v n xs hs hown ad m c news hx hl hnews h1 hm h63 hbytes hbase _ rfl h
abbrev S5 (n fb : Nat) (C : W.Sl) (w' : World) : Prop := w'.cell? ⟨fb, 32, none⟩ = some (slV C) ∧ (∀ u : W.Sl, (stL ⟨n + 1, 10, none⟩ (slV u)).run Try.prog w' = .ok () (w'.setCell ⟨n + 1, 10, none⟩ (slV u))) ∧ (∀ u : W.Sl, (stL ⟨n + 1, 11, none⟩ (slV u)).run Try.prog w' = .ok () (w'.setCell ⟨n + 1, 11, none⟩ (slV u))) ∧ ∀ u : W.Sl, (stL ⟨n + 1, 12, none⟩ (slV u)).run Try.prog w' = .ok () (w'.setCell ⟨n + 1, 12, none⟩ (slV u))
theorem Tk.s5 {n fb : Nat} {i : W.I} {CS : Array Value} {R : Nat → W.Sl} {C O : W.Sl} {w : World} (h : Tk n fb i CS R C O w) (hs : CS.size = 13) : S5 n fb C w := by
  have q : ∀ j, j < 13 → ∀ u : W.Sl, (stL ⟨n + 1, j, none⟩ (slV u)).run Try.prog w = .ok () (w.setCell ⟨n + 1, j, none⟩ (slV u)) := fun j hj u => stL_at (h.o.c j (Array.getElem?_eq_getElem (by omega))) (h.o.f j) u.a u.n u.c
  exact ⟨h.f.ct, q 10 (by decide), q 11 (by decide), q 12 (by decide)⟩
abbrev S6 (n fb : Nat) (CS : Array Value) (w' : World) : Prop := (ldO ⟨n + 1, 0, none⟩).run Try.prog w' = .ok (.agg CS) w' ∧ ∀ (a : Option Addr) (m c : Nat), (stP ⟨fb, 33, none⟩ (.slice a m c)).run Try.prog w' = .ok () (w'.setCell ⟨fb, 33, none⟩ (.slice a m c))
theorem Tk.s6 {n fb : Nat} {i : W.I} {CS : Array Value} {R : Nat → W.Sl} {C O : W.Sl} {w : World} (h : Tk n fb i CS R C O w) (hs : CS.size = 13) : S6 n fb CS w :=
  ⟨ldO_at h.o.out hs, fun a m c => stP_at h.f.op (h.f.fz 33) a m c⟩
def bsO (n : Nat) (l : Array (Nat × Value)) : Sem Value := Instr.buildSlice 25 n l
theorem bsO_eq (n : Nat) (l : Array (Nat × Value)) : Instr.buildSlice 25 n l = bsO n l := rfl
theorem bsO_any (o : W.Opr) (a d c : W.Sl) (w : World) : (bsO 1 #[(0, .agg (opC o a d c))]).run Try.prog w = .ok (.slice (some ⟨w.heap.size, 0, none⟩) 1 1) (w.alloc (.cells (opC o a d c) 32)) := by kernel_rfl
theorem Tk.grown {n fb : Nat} {i : W.I} {CS : Array Value} {R : Nat → W.Sl} {C O : W.Sl} {w w' : World} {q : Option Nat} (h : Tk n fb i CS R C O w) (hg : w.grownBy w' q) (h1 : some n ≠ q) (h2 : some (n + 1) ≠ q) (h3 : some fb ≠ q) : Tk n fb i CS R C O w' :=
  ⟨(World.cell?_of_block (hg.block n h.il h1)).trans h.i0, (World.cell?_of_block (hg.block n h.il h1)).trans h.i1, (World.cell?_of_block (hg.block n h.il h1)).trans h.i2, (World.cell?_of_block (hg.block n h.il h1)).trans h.i3, Nat.lt_of_lt_of_le h.il hg.size, ⟨(hg.block (n + 1) h.o.lt h2).trans h.o.out⟩, h.f.grown hg h3, h.lt⟩
theorem infoOp : (Try.prog.info? 32).map (fun i => (i.zero, i.size, i.bytes)) = some (some (.agg zOp), 13, 120) := by kernel_rfl
theorem own_n {w : World} {base : Nat} {e : TypeId} {size n : Nat} {xs : List Value} {O : W.Sl} (h : w.ownsRow base e size (slV O) n xs) : O.n = n := by
  obtain ⟨a, m, c⟩ := O
  rcases h.2 with ⟨h1, h2⟩ | ⟨g, cap, cur, h1, _⟩
  · simp [slV] at h1
    simp only
    omega
  · simp [slV] at h1
    simp only
    omega
def Oq.pure (q : Oq) : W.Opr × List Int × List Int × List Int := (q.o, q.la, q.ld, q.lc)
end Go.Proofs.Ytopehmpjfndgjaa

/- take: l. -/
namespace Go.Proofs.Ytopehmpjfndgjaa
open Go.ChangeShapes Go.WideShapes Go.ChangeAt Go.RowKit
set_option linter.unusedVariables false
set_option linter.unusedSimpArgs false

attribute [local go_sem ↓] ldO_eq stL_eq stP_eq bsO_eq
set_option maxRecDepth 100000 in
set_option maxHeartbeats 1600000 in
theorem take_l (n0 : Nat) (w0 : World) (fb : Nat) (r : Nat → List Int) (c : List Int) (L : List Oq) (R : Nat → W.Sl) (C O : W.Sl) (op csr imm : Int) (rd r1 r2 : Nat) (aq rl : Bool) (o : W.Opr) (w : World) (hS : Fs n0 w0 fb (fun _ => False) r c L R C O w) (h1 : r1 < 32) (h2 : r2 < 32) (hd : rd < 32) (hrd : ((rd : Int) != 0) = true) (hk : (o.k != 0) = true) (hc3 : (W.kind op == 3) = false) (hc4 : (op == 4) = false)
    (p1 : (r r1).Pairwise (· < ·)) (p2 : (r r2).Pairwise (· < ·)) (p3 : c.Pairwise (· < ·)) (z1 : (r r1).length ≤ 200) (z2 : (r r2).length ≤ 200) (z3 : c.length ≤ 200) (zL : L.length ≤ 4096) :
    Calls Try.prog 17 #[.pointer (some ⟨fb, 0, none⟩), .agg #[.int .i64 op, .int .i64 (rd : Int), .int .i64 (r1 : Int), .int .i64 (r2 : Int), .int .i64 csr, .int .u32 imm, .bool aq, .bool rl], .agg (opC o W.Sl.nil W.Sl.nil W.Sl.nil)] w fun e w' => e = .returned (.tuple #[]) ∧ ∃ R' C' O' L', Fs n0 w0 fb (fun _ => False) (updL r rd (W.resL L.length op o.k (r r1) (r r2))) c L' R' C' O' w' ∧ L'.map Oq.pure = L.map Oq.pure ++ [(o, r r1, r r2, c)] := by
  have T := Tk.start w fb ⟨op, rd, r1, r2, csr, imm, aq, rl⟩ (opC o W.Sl.nil W.Sl.nil W.Sl.nil) R C O hS.f
  have hS0 := (hS.more (H := Tw w.heap.size) (fun b hb k => by rcases k with k | k <;> omega)).below (((Below.refl _ w).alloc (Nat.le_refl _) (.cells #[.int .i64 op, .int .i64 (rd : Int), .int .i64 (r1 : Int), .int .i64 (r2 : Int), .int .i64 csr, .int .u32 imm, .bool aq, .bool rl] 47)).alloc (by simp) (.cells (opC o W.Sl.nil W.Sl.nil W.Sl.nil) 32))
  have hK := fun w => kind_any op w
  have hOn := own_n hS.ow
  have hlt := hS.f.lt
  have hn0 := hS.nf
  have hob : some (w.heap.size + 1) ≠ (slV O).ownBlock := fun e => by
    have := (hS.ow.lt _ e.symm).2
    omega
  have U0 : 0 < 1 := by decide
  have hob0 : some w.heap.size ≠ (slV O).ownBlock := fun e => by
    have := (hS.ow.lt _ e.symm).2
    omega
  have hob3 := hS.of
  clear hS
  generalize W.kind op = KD at *
  unfold opC at *
  have q1 : (0 : Int) ≤ (r1 : Int) := Int.natCast_nonneg _
  have q2 : (0 : Int) ≤ (r2 : Int) := Int.natCast_nonneg _
  have q3 : (r1 : Int) < 32 := by omega
  have q4 : (r2 : Int) < 32 := by omega
  have HKd : Hid _ := hK
  clear hK
  go_enter Try.func17, Try.ntmps17
  go_wp2_with (fail)
  generalize World.alloc (World.alloc w _) _ = W0 at *
  have i0 := T.i0
  have i1 := T.i1
  have i2 := T.i2
  have i3 := T.i3
  have o0 := T.o.c 0 rfl
  have g1 := T.f.rg r1 h1
  have g2 := T.f.rg r2 h2
  have fl := T.f.lt
  go_quiet (fail)
  have T1 : Tk _ _ _ _ _ _ _ (W0.drewN nq) := T.below (below_drewN (Below.refl _ _) _)
  have S1 := hS0.below (below_drewN (Below.refl W0.heap.size W0) nq)
  clear T hS0 i0 i1 i2 i3 o0 g1 g2 fl
  generalize World.drewN W0 nq = W1 at *
  have i0 := T1.i0
  have i1 := T1.i1
  have o0 := T1.o.c 0 rfl
  have fl := T1.f.lt
  have lA := S1.rl r1 h1
  have lB := S1.rl r2 h2
  have q5 : (0 : Int) ≤ (rd : Int) := Int.natCast_nonneg _
  have q6 : (rd : Int) < 32 := by omega
  go_wp2_with (fail)
  have hsz : w.heap.size + 1 < W1.heap.size := T1.o.lt
  have hRes := result_x fb R C O op o.k (R r1) (R r2) (r r1) (r r2) W1.drew (S1.f.below (Below.refl _ _).drew) (lA.below (Below.refl _ _).drew) (lB.below (Below.refl _ _).drew) p1 p2 (by omega) ((S1.below (Below.refl _ _).drew).none hsz)
  have HR : Hid (Calls _ _ _ _ _) := hRes
  clear hRes i0 i1 o0
  have HT : Hid (_ ∧ _ ∧ _ ∧ _) := ⟨T1, S1, lA, lB⟩
  clear T1 S1 lA lB
  go_region_held3 (fun w' => w'.cell? ⟨w.heap.size, 1, none⟩ = some (.int .i64 (rd : Int)) ∧ w'.cell? ⟨w.heap.size, 0, none⟩ = some (.int .i64 op) ∧ w'.cell? ⟨w.heap.size + 1, 0, none⟩ = some (.int .i64 o.k) ∧ ∀ u : W.Sl, (stL ⟨fb, rd, none⟩ (slV u)).run Try.prog w' = .ok () (w'.setCell ⟨fb, rd, none⟩ (slV u)))
    (first
      | exact (HT.out.1.below (Below.refl _ _).drew).s3 hd rfl
      | exact ((HT.out.1.below (Below.refl _ _).drew).below b2).s3 hd rfl
      | exact (((HT.out.1.below (Below.refl _ _).drew).below b2).setR rd hd u).s3 hd rfl
      | with_reducible assumption)
    ((go_at_call 24; refine HR.out.mono ?_; rintro e w2 ⟨⟨u, rfl, hu⟩, b2⟩))
  all_goals
    have T2 := ((HT.out.1.below (Below.refl _ _).drew).below b2).setR rd hd u
    have S2 := ((HT.out.2.1.below (Below.refl _ _).drew).below b2).setR rd hd u _ hu
    have lA2 := (((HT.out.2.2.1.below (Below.refl _ _).drew).below b2).set fb rd (slV u) (Or.inl rfl))
    have lB2 := (((HT.out.2.2.2.below (Below.refl _ _).drew).below b2).set fb rd (slV u) (Or.inl rfl))
    clear HT HR b2 hu
    rw [hOn] at S2
    generalize World.setCell w2 ⟨fb, rd, none⟩ (slV u) = W3 at *
    have i0 := T2.i0
    have o0 := T2.o.c 0 rfl
    have fl := T2.f.lt
    have hsz2 : w.heap.size + 1 < W3.heap.size := T2.o.lt
    clear i0 o0
    have HT2 : Hid (_ ∧ _ ∧ _ ∧ _) := ⟨T2, S2, lA2, lB2⟩
    clear T2 S2 lA2 lB2
    go_wp2_with (fail)
    go_region_held3 (fun w' => w'.cell? ⟨fb, 32, none⟩ = some (slV C) ∧ (∀ u : W.Sl, (stL ⟨w.heap.size + 1, 10, none⟩ (slV u)).run Try.prog w' = .ok () (w'.setCell ⟨w.heap.size + 1, 10, none⟩ (slV u))) ∧ (∀ u : W.Sl, (stL ⟨w.heap.size + 1, 11, none⟩ (slV u)).run Try.prog w' = .ok () (w'.setCell ⟨w.heap.size + 1, 11, none⟩ (slV u))) ∧ ∀ u : W.Sl, (stL ⟨w.heap.size + 1, 12, none⟩ (slV u)).run Try.prog w' = .ok () (w'.setCell ⟨w.heap.size + 1, 12, none⟩ (slV u)))
      (first
        | exact (HT2.out.1.below (Below.refl _ _).drew).s5 rfl
        | exact ((HT2.out.1.below (Below.refl _ _).drew).below ba).s5 rfl
        | exact (((HT2.out.1.below (Below.refl _ _).drew).below ba).below bb).s5 rfl
        | exact ((((HT2.out.1.below (Below.refl _ _).drew).below ba).below bb).below bc).s5 rfl
        | exact (((((HT2.out.1.below (Below.refl _ _).drew).below ba).below bb).below bc).setOp 10 (slV t1)).s5 rfl
        | exact ((((((HT2.out.1.below (Below.refl _ _).drew).below ba).below bb).below bc).setOp 10 (slV t1)).setOp 11 (slV t2)).s5 rfl
        | exact (((((((HT2.out.1.below (Below.refl _ _).drew).below ba).below bb).below bc).setOp 10 (slV t1)).setOp 11 (slV t2)).setOp 12 (slV t3)).s5 rfl
        | with_reducible assumption)
      (first
        | ((go_at_call_of 25 (slV (R r1)); refine (clone_x (R r1) (r r1) _ (HT2.out.2.2.1.below (Below.refl _ _).drew) ((HT2.out.2.1.below (Below.refl _ _).drew).none (HT2.out.1.below (Below.refl _ _).drew).o.lt)).mono ?_; rintro e wa ⟨⟨t1, rfl, k1⟩, ba⟩))
        | ((go_at_call_of 25 (slV (R r2)); refine (clone_x (R r2) (r r2) _ ((HT2.out.2.2.2.below (Below.refl _ _).drew).below ba) (((HT2.out.2.1.below (Below.refl _ _).drew).below ba).none ((HT2.out.1.below (Below.refl _ _).drew).below ba).o.lt)).mono ?_; rintro e wb ⟨⟨t2, rfl, k2⟩, bb⟩))
        | ((go_at_call_of 25 (slV C); refine (clone_x C c _ (((HT2.out.2.1.below (Below.refl _ _).drew).below ba).below bb).cl ((((HT2.out.2.1.below (Below.refl _ _).drew).below ba).below bb).none (((HT2.out.1.below (Below.refl _ _).drew).below ba).below bb).o.lt)).mono ?_; rintro e wc ⟨⟨t3, rfl, k3⟩, bc⟩)))
    all_goals
      have T3 : Tk w.heap.size fb _ (opC o t1 t2 t3) _ C O _ := (((((((HT2.out.1.below (Below.refl _ _).drew).below ba).below bb).below bc).setOp 10 (slV t1)).setOp 11 (slV t2)).setOp 12 (slV t3))
      have gg : Tw w.heap.size (w.heap.size + 1) := Or.inr rfl
      have S3 := (((((((HT2.out.2.1.below (Below.refl _ _).drew).below ba).below bb).below bc).setG (w.heap.size + 1) 10 (slV t1) gg (by omega) (by omega) hob).setG (w.heap.size + 1) 11 (slV t2) gg (by omega) (by omega) hob).setG (w.heap.size + 1) 12 (slV t3) gg (by omega) (by omega) hob)
      have j1 := (((((k1.below bb).below bc).set (w.heap.size + 1) 10 (slV t1) (Or.inr (Or.inr gg))).set (w.heap.size + 1) 11 (slV t2) (Or.inr (Or.inr gg))).set (w.heap.size + 1) 12 (slV t3) (Or.inr (Or.inr gg)))
      have j2 := ((((k2.below bc).set (w.heap.size + 1) 10 (slV t1) (Or.inr (Or.inr gg))).set (w.heap.size + 1) 11 (slV t2) (Or.inr (Or.inr gg))).set (w.heap.size + 1) 12 (slV t3) (Or.inr (Or.inr gg)))
      have j3 := (((k3.set (w.heap.size + 1) 10 (slV t1) (Or.inr (Or.inr gg))).set (w.heap.size + 1) 11 (slV t2) (Or.inr (Or.inr gg))).set (w.heap.size + 1) 12 (slV t3) (Or.inr (Or.inr gg)))
      clear HT2 k1 k2 k3 ba bb bc
      generalize World.setCell (World.setCell (World.setCell wc _ _) _ _) _ _ = W4 at *
      obtain ⟨ti, hi, hzz⟩ := Option.map_eq_some_iff.1 infoOp
      simp only [Prod.mk.injEq] at hzz
      obtain ⟨hz0, hz1, hz2⟩ := hzz
      have g33 : W4.drew.cell? ⟨fb, 33, none⟩ = some (slV O) := T3.f.op
      have g34 : ∀ o : Obj, (W4.alloc o).drew.cell? ⟨fb, 33, none⟩ = some (slV O) := fun o => Lib.cell?_alloc_some (W := W4) o T3.f.op
      have g35 : W4.cell? ⟨fb, 33, none⟩ = some (slV O) := T3.f.op
      have g36 : ∀ o : Obj, (W4.alloc o).cell? ⟨fb, 33, none⟩ = some (slV O) := fun o => Lib.cell?_alloc_some (W := W4) o T3.f.op
      have hbs := bsO_any o t1 t2 t3
      have hcs : ∀ W5 : World, ∀ j u, (opC o t1 t2 t3).toList[j]? = some u → (W5.alloc (.cells (opC o t1 t2 t3) 32)).cell? ((⟨W5.heap.size, 0, none⟩ : Addr).add j) = some u := fun W5 => World.news_of_block (cs := opC o t1 t2 t3) (heap_alloc_last W5 _)
      have hone : ∀ u ∈ (opC o t1 t2 t3).toList, u.oneCell' = true := by
        intro u hu
        simp [opC] at hu
        rcases hu with h | h | h | h | h | h | h | h | h | h | h | h | h <;> rw [h] <;> rfl
      have HT3 : Hid (_ ∧ _ ∧ _ ∧ _) := ⟨T3, S3, hcs, hone⟩
      have HJ : Hid (_ ∧ _ ∧ _) := ⟨j1, j2, j3⟩
      have fl3 := T3.f.lt
      clear T3 S3 hcs hone j1 j2 j3
      have l6 := (HT3.out.1.below (Below.refl _ _).drew).s6 rfl
      have l7 := fun o => ((HT3.out.1.below ((Below.refl _ _).alloc (Nat.le_refl _) o)).below (Below.refl _ _).drew).s6 rfl
      have la0 := l6.1
      have la1 := fun o => (l7 o).1
      clear l6 l7
      go_wp2_with (fail)
      go_region_law (first
          | ((refine step_lies _ 61 58 60 _ n0 32 ti (.agg zOp) 13 120 Try.underlying25 hi hz0 hz1 hz2 rfl (by decide) (slV O) L.length (opsX L) ?a1 ?a3 ⟨W4.heap.size, 0, none⟩ 1 1 (opC o t1 t2 t3).toList ?a2 rfl ?a4 ?a5 (by decide) ?a6 ?a7 ?a8 ?_
              case a1 => rfl
              case a2 => rfl
              case a3 => exact own_below HT3.out.2.1.ow ((Below.refl _ _).drew.alloc (Nat.le_refl _) _)
              case a4 => exact HT3.out.2.2.1 W4.drew
              case a5 => exact HT3.out.2.2.2
              case a6 => unfold maxLen; omega
              case a7 => omega
              case a8 => (have := HT3.out.1.f.lt; simp; omega)
              intro g cap w6 hown6 hg6 hat6 hlt6
              have st6 := fun m c => ((((HT3.out.1.below (Below.refl _ _).drew).below ((Below.refl _ _).alloc (Nat.le_refl _) _)).grown hg6 hob0 hob hob3).s6 rfl).2 (some ⟨g, 0, none⟩) m c))
          | (fail))
      all_goals
        have T4 := (((HT3.out.1.below (Below.refl _ _).drew).below ((Below.refl _ _).alloc (Nat.le_refl _) _)).grown hg6 hob0 hob hob3).setO ⟨some ⟨g, 0, none⟩, L.length + 1, cap⟩
        have S4 := Fs.app (P := ⟨some ⟨g, 0, none⟩, L.length + 1, cap⟩) ((HT3.out.2.1.below (Below.refl _ _).drew).below ((Below.refl _ _).alloc (Nat.le_refl _) _)) ⟨o, t1, t2, t3, r r1, r r2, c⟩ ⟨(HJ.out.1.below (Below.refl _ _).drew).below ((Below.refl _ _).alloc (Nat.le_refl _) _), (HJ.out.2.1.below (Below.refl _ _).drew).below ((Below.refl _ _).alloc (Nat.le_refl _) _), (HJ.out.2.2.below (Below.refl _ _).drew).below ((Below.refl _ _).alloc (Nat.le_refl _) _)⟩ hg6 hown6 (fun b e => by
          have e' : b = g := by simpa [slV, Value.ownBlock] using e
          subst e'
          rcases hat6 with h | h
          · exact Or.inl h.symm
          · exact Or.inr (Nat.le_of_eq h.symm))
        have i0 := T4.i0
        have HS4 : Hid (Fs _ _ _ _ _ _ _ _ _ _ _) := S4
        clear T4 S4 HT3 HJ hown6 hg6 hat6 st6 g33 g34 g35 g36 hbs la0 la1
        unfold slV at i0
        dsimp only at i0
        go_wp2_with (fail)
        refine (HKd.out _).mono ?_
        rintro e w9 ⟨rfl, rfl⟩
        go_wp2
        go_end0
        exact ⟨rfl, _, _, _, _, HS4.out.more (fun b _ h => absurd h id), by simp [Oq.pure]⟩
end Go.Proofs.Ytopehmpjfndgjaa
