/- Texts in one: DepE, DepF, DepG, DepI, DepJ. -/
import Derived.Deep.AppendLies
import Derived.Deep.RegionLaw
import Derived.Test.YtpapiimiblefaaaJ09
import Derived.Test.YtpapiimiblefaaaJ10
import Derived.Test.YtpapiimiblefaaaJ11
import Derived.Test.YtpapiimiblefaaaJ12
/- operation, whole; the flow in memory; result. -/
namespace Go.Proofs.Ytpapiimiblefaaa
open Go.ChangeShapes Go.WideShapes Go.ChangeAt Go.RowKit
set_option linter.unusedVariables false
set_option linter.unusedSimpArgs false

theorem oper_any (i : W.I) (x : W.It) (w : World) : Calls Try.prog 18 #[inV i, .agg (itC x)] w fun e w' => e = .returned (.agg (opC (W.oper i x) W.Sl.nil W.Sl.nil W.Sl.nil)) ∧ Below w.heap.size w w' := by
  unfold W.oper
  rcases okind_cases i.op x.dn with h | h | h | h | h
  · have := oper_0 i x w h
    rw [h]
    exact this
  · have := oper_4 i x w h
    rw [h]
    exact this
  · have := oper_1 i x w h
    rw [h]
    exact this
  · have := oper_2 i x w h
    rw [h]
    exact this
  · have := oper_3 i x w h
    rw [h]
    exact this
theorem oper_k (i : W.I) (x : W.It) : (W.oper i x).k = W.okind i.op x.dn := by
  unfold W.oper
  rcases okind_cases i.op x.dn with h | h | h | h | h <;> rw [h] <;> rfl

/-- union of any two rising lists: one of the two, or new memory. -/
theorem union_any (s t : W.Sl) (A B : List Int) (w : World) (hs : Li s A w) (ht : Li t B w) (hA : A.Pairwise (· < ·)) (hB : B.Pairwise (· < ·)) (hz : A.length + B.length ≤ 4096) : Calls Try.prog 27 #[slV s, slV t] w fun e w' => (∃ u, e = .returned (slV u) ∧ Li u (W.uni A B) w' ∧ (u = s ∨ u = t ∨ (0 < u.n → ∃ b, u.a = some ⟨b, 0, none⟩ ∧ w.heap.size ≤ b))) ∧ Below w.heap.size w w' := by
  cases A with
  | nil => exact (union_l s t w hs).mono fun e w' ⟨h1, h2⟩ => ⟨⟨t, h1, ht.below h2, Or.inr (Or.inl rfl)⟩, h2⟩
  | cons x A =>
    cases B with
    | nil =>
      refine (union_r s t x A w hs ht).mono fun e w' ⟨h1, h2⟩ => ⟨⟨s, h1, ?_, Or.inl rfl⟩, h2⟩
      rw [W.uni_nil_r hA]
      exact hs.below h2
    | cons y B => exact (union_m s t (x :: A) (y :: B) w hs ht hA hB (by simp) (by simp) hz).mono fun e w' ⟨⟨u, h1, h2, h3⟩, h4⟩ => ⟨⟨u, h1, h2, Or.inr (Or.inr h3)⟩, h4⟩
end Go.Proofs.Ytpapiimiblefaaa

/- The flow in memory; result. -/
namespace Go.Proofs.Ytpapiimiblefaaa
open Go.ChangeShapes Go.WideShapes Go.ChangeAt Go.RowKit
set_option linter.unusedVariables false
set_option linter.unusedSimpArgs false

/-- The flow's block: what each register, and control, hang on; the operations. -/
structure Fb (fb : Nat) (R : Nat → W.Sl) (C O : W.Sl) (w : World) : Prop where
  lt : fb < w.heap.size
  rg : ∀ k, k < 32 → w.cell? ⟨fb, k, none⟩ = some (slV (R k))
  ct : w.cell? ⟨fb, 32, none⟩ = some (slV C)
  op : w.cell? ⟨fb, 33, none⟩ = some (slV O)
  fz : ∀ j, w.frozen? ⟨fb, j, none⟩ = false
theorem Fb.below {fb : Nat} {R : Nat → W.Sl} {C O : W.Sl} {w w' : World} (h : Fb fb R C O w) (hb : Below w.heap.size w w') : Fb fb R C O w' :=
  ⟨Nat.lt_of_lt_of_le h.lt hb.size, fun k hk => (hb.cell (p := ⟨fb, k, none⟩) h.lt).trans (h.rg k hk), (hb.cell (p := ⟨fb, 32, none⟩) h.lt).trans h.ct, (hb.cell (p := ⟨fb, 33, none⟩) h.lt).trans h.op, fun j => (hb.frozen (p := ⟨fb, j, none⟩) h.lt).trans (h.fz j)⟩
def W.upd (R : Nat → W.Sl) (k : Nat) (s : W.Sl) : Nat → W.Sl := fun j => if j = k then s else R j
theorem Fb.setR {fb : Nat} {R : Nat → W.Sl} {C O : W.Sl} {w : World} (h : Fb fb R C O w) (k : Nat) (hk : k < 32) (s : W.Sl) : Fb fb (W.upd R k s) C O (w.setCell ⟨fb, k, none⟩ (slV s)) :=
  ⟨by simpa [World.setCell] using h.lt, fun j hj => by
    unfold W.upd
    by_cases e : j = k
    · subst e
      rw [if_pos rfl]
      exact World.cell?_setCell_same _ _ _ (h.rg j hj)
    · rw [if_neg e]
      exact (World.cell?_setCell_other _ _ _ _ (by simp [e])).trans (h.rg j hj), (World.cell?_setCell_other _ _ _ _ (by first | (simp; done) | (simp; omega))).trans h.ct, (World.cell?_setCell_other _ _ _ _ (by first | (simp; done) | (simp; omega))).trans h.op, fun j => (World.frozen?_setCell _ _ _ _).trans (h.fz j)⟩
theorem Fb.setC {fb : Nat} {R : Nat → W.Sl} {C O : W.Sl} {w : World} (h : Fb fb R C O w) (s : W.Sl) : Fb fb R s O (w.setCell ⟨fb, 32, none⟩ (slV s)) :=
  ⟨by simpa [World.setCell] using h.lt, fun j hj => (World.cell?_setCell_other _ _ _ _ (by first | (simp; done) | (simp; omega))).trans (h.rg j hj), World.cell?_setCell_same _ _ _ h.ct, (World.cell?_setCell_other _ _ _ _ (by simp)).trans h.op, fun j => (World.frozen?_setCell _ _ _ _).trans (h.fz j)⟩
theorem Fb.setO {fb : Nat} {R : Nat → W.Sl} {C O : W.Sl} {w : World} (h : Fb fb R C O w) (s : W.Sl) : Fb fb R C s (w.setCell ⟨fb, 33, none⟩ (slV s)) :=
  ⟨by simpa [World.setCell] using h.lt, fun j hj => (World.cell?_setCell_other _ _ _ _ (by first | (simp; done) | (simp; omega))).trans (h.rg j hj), (World.cell?_setCell_other _ _ _ _ (by simp)).trans h.ct, World.cell?_setCell_same _ _ _ h.op, fun j => (World.frozen?_setCell _ _ _ _).trans (h.fz j)⟩

/-- What a register hangs on behind an instruction. -/
def W.resL (n : Nat) (op k : Int) (A B : List Int) : List Int := bif k != 0 then [(n : Int)] else bif W.kind op == 1 then W.uni A B else []
set_option maxHeartbeats 800000 in
theorem result_any (fb : Nat) (R : Nat → W.Sl) (C O : W.Sl) (op k : Int) (s t : W.Sl) (A B : List Int) (w : World) (hF : Fb fb R C O w) (hs : Li s A w) (ht : Li t B w) (hA : A.Pairwise (· < ·)) (hB : B.Pairwise (· < ·)) (hz : A.length + B.length ≤ 4096) :
    Calls Try.prog 24 #[.pointer (some ⟨fb, 0, none⟩), .int .i64 op, .int .i64 k, slV s, slV t] w fun e w' => (∃ u, e = .returned (slV u) ∧ Li u (W.resL O.n op k A B) w' ∧ (u = s ∨ u = t ∨ (0 < u.n → ∃ b, u.a = some ⟨b, 0, none⟩ ∧ w.heap.size ≤ b))) ∧ Below w.heap.size w w' := by
  have hU := union_any s t A B w hs ht hA hB hz
  have hK := fun w => kind_any op w
  have hop := hF.op
  have hlt := hF.lt
  clear hF hs ht
  obtain ⟨oa, on, oc⟩ := O
  unfold W.resL
  dsimp only
  generalize W.kind op = K at *
  have HH : Hid (_ ∧ _) := ⟨hU, hK⟩
  clear hU hK
  unfold slV at *
  cases h0 : (k != 0)
  · cases h1 : (K == 1)
    · go_enter Try.func24, Try.ntmps24
      go_wp2_with (fail)
      refine (HH.out.2 _).mono ?_
      rintro e w' ⟨rfl, rfl⟩
      go_wp2
      go_ret
      exact ⟨⟨W.Sl.nil, rfl, li_nil _, Or.inr (Or.inr (fun h => absurd h (by decide)))⟩, Below.refl _ _⟩
    · go_enter Try.func24, Try.ntmps24
      go_wp2_with (fail)
      refine (HH.out.2 _).mono ?_
      rintro e w' ⟨rfl, rfl⟩
      go_wp2_with (fail)
      refine HH.out.1.mono ?_
      rintro e w2 ⟨⟨u, rfl, hu⟩, b2⟩
      go_wp2
      go_ret
      exact ⟨⟨u, rfl, hu⟩, b2⟩
  · go_enter Try.func24, Try.ntmps24
    go_wp2
    go_ret
    refine ⟨⟨⟨some ⟨w.heap.size, 0, none⟩, 1, 1⟩, rfl, li_some rfl (by decide) (Nat.le_refl _) (by simp) (fun j x hx => ?_), Or.inr (Or.inr (fun _ => ⟨_, rfl, Nat.le_refl _⟩))⟩, (Below.refl _ _).alloc (Nat.le_refl _) _⟩
    match j, hx with
    | 0, hx => simp at hx; subst hx; simp [go_sem]
end Go.Proofs.Ytpapiimiblefaaa

/- What take has in memory. -/
namespace Go.Proofs.Ytpapiimiblefaaa
open Go.ChangeShapes Go.WideShapes Go.ChangeAt Go.RowKit
set_option linter.unusedVariables false
set_option linter.unusedSimpArgs false

def stL (a : Addr) (v : Value) : Sem Unit := storeVar 30 a v
theorem stL_eq (a : Addr) (v : Value) : storeVar 30 a v = stL a v := rfl
def stP (a : Addr) (v : Value) : Sem Unit := storeVar 25 a v
theorem stP_eq (a : Addr) (v : Value) : storeVar 25 a v = stP a v := rfl
theorem stL_at {g j : Nat} {w : World} {v : Value} (h : w.cell? ⟨g, j, none⟩ = some v) (hf : w.frozen? ⟨g, j, none⟩ = false) (a : Option Addr) (n c : Nat) : (stL ⟨g, j, none⟩ (.slice a n c)).run Try.prog w = .ok () (w.setCell ⟨g, j, none⟩ (.slice a n c)) := by
  unfold stL
  simp [go_sem, h, hf]
theorem stP_at {g j : Nat} {w : World} {v : Value} (h : w.cell? ⟨g, j, none⟩ = some v) (hf : w.frozen? ⟨g, j, none⟩ = false) (a : Option Addr) (n c : Nat) : (stP ⟨g, j, none⟩ (.slice a n c)).run Try.prog w = .ok () (w.setCell ⟨g, j, none⟩ (.slice a n c)) := by
  unfold stP
  simp [go_sem, h, hf]
/-- The instruction, the operation, the flow. -/
structure Tk (n fb : Nat) (i : W.I) (CS : Array Value) (R : Nat → W.Sl) (C O : W.Sl) (w : World) : Prop where
  i0 : w.cell? ⟨n, 0, none⟩ = some (.int .i64 i.op)
  i1 : w.cell? ⟨n, 1, none⟩ = some (.int .i64 i.rd)
  i2 : w.cell? ⟨n, 2, none⟩ = some (.int .i64 i.rs1)
  i3 : w.cell? ⟨n, 3, none⟩ = some (.int .i64 i.rs2)
  il : n < w.heap.size
  o : Ob (n + 1) CS w
  f : Fb fb R C O w
  lt : fb < n
theorem Tk.below {n fb : Nat} {i : W.I} {CS : Array Value} {R : Nat → W.Sl} {C O : W.Sl} {w w' : World} (h : Tk n fb i CS R C O w) (hb : Below w.heap.size w w') : Tk n fb i CS R C O w' :=
  ⟨(hb.cell (p := ⟨n, 0, none⟩) h.il).trans h.i0, (hb.cell (p := ⟨n, 1, none⟩) h.il).trans h.i1, (hb.cell (p := ⟨n, 2, none⟩) h.il).trans h.i2, (hb.cell (p := ⟨n, 3, none⟩) h.il).trans h.i3, Nat.lt_of_lt_of_le h.il hb.size, h.o.below hb, h.f.below hb, h.lt⟩
theorem other {w : World} {g b : Nat} {j k : Nat} {v x : Value} (h : w.cell? ⟨g, j, none⟩ = some x) (hne : g ≠ b) : (w.setCell ⟨b, k, none⟩ v).cell? ⟨g, j, none⟩ = some x := (World.cell?_setCell_other _ _ _ _ (by simp [hne])).trans h
theorem Tk.setR {n fb : Nat} {i : W.I} {CS : Array Value} {R : Nat → W.Sl} {C O : W.Sl} {w : World} (h : Tk n fb i CS R C O w) (k : Nat) (hk : k < 32) (s : W.Sl) : Tk n fb i CS (W.upd R k s) C O (w.setCell ⟨fb, k, none⟩ (slV s)) :=
  have hl := h.lt
  ⟨other h.i0 (by omega), other h.i1 (by omega), other h.i2 (by omega), other h.i3 (by omega), by simpa [World.setCell] using h.il, ⟨setCell_block h.o.out _ (by show n + 1 ≠ fb; omega)⟩, h.f.setR k hk s, h.lt⟩
theorem Tk.setC {n fb : Nat} {i : W.I} {CS : Array Value} {R : Nat → W.Sl} {C O : W.Sl} {w : World} (h : Tk n fb i CS R C O w) (s : W.Sl) : Tk n fb i CS R s O (w.setCell ⟨fb, 32, none⟩ (slV s)) :=
  have hl := h.lt
  ⟨other h.i0 (by omega), other h.i1 (by omega), other h.i2 (by omega), other h.i3 (by omega), by simpa [World.setCell] using h.il, ⟨setCell_block h.o.out _ (by show n + 1 ≠ fb; omega)⟩, h.f.setC s, h.lt⟩
theorem Tk.setO {n fb : Nat} {i : W.I} {CS : Array Value} {R : Nat → W.Sl} {C O : W.Sl} {w : World} (h : Tk n fb i CS R C O w) (s : W.Sl) : Tk n fb i CS R C s (w.setCell ⟨fb, 33, none⟩ (slV s)) :=
  have hl := h.lt
  ⟨other h.i0 (by omega), other h.i1 (by omega), other h.i2 (by omega), other h.i3 (by omega), by simpa [World.setCell] using h.il, ⟨setCell_block h.o.out _ (by show n + 1 ≠ fb; omega)⟩, h.f.setO s, h.lt⟩
theorem Fb.other {fb b k : Nat} {R : Nat → W.Sl} {C O : W.Sl} {w : World} {v : Value} (h : Fb fb R C O w) (hne : fb ≠ b) : Fb fb R C O (w.setCell ⟨b, k, none⟩ v) :=
  ⟨by simpa [World.setCell] using h.lt, fun j hj => Go.Proofs.Ytpapiimiblefaaa.other (h.rg j hj) hne, Go.Proofs.Ytpapiimiblefaaa.other h.ct hne, Go.Proofs.Ytpapiimiblefaaa.other h.op hne, fun j => (World.frozen?_setCell _ _ _ _).trans (h.fz j)⟩
theorem Tk.setOp {n fb : Nat} {i : W.I} {CS : Array Value} {R : Nat → W.Sl} {C O : W.Sl} {w : World} (h : Tk n fb i CS R C O w) (j : Nat) (v : Value) : Tk n fb i (CS.setIfInBounds j v) R C O (w.setCell ⟨n + 1, j, none⟩ v) :=
  have hl := h.lt
  ⟨other h.i0 (by omega), other h.i1 (by omega), other h.i2 (by omega), other h.i3 (by omega), by simpa [World.setCell] using h.il, h.o.set j v, h.f.other (by omega), h.lt⟩
theorem Tk.start (w : World) (fb : Nat) (i : W.I) (CS : Array Value) (R : Nat → W.Sl) (C O : W.Sl) (h : Fb fb R C O w) : Tk w.heap.size fb i CS R C O ((w.alloc (.cells #[.int .i64 i.op, .int .i64 i.rd, .int .i64 i.rs1, .int .i64 i.rs2, .int .i64 i.csr, .int .u32 i.imm, .bool i.aq, .bool i.rl] 47)).alloc (.cells CS 32)) := by
  have d0 := two_first w (.cells #[.int .i64 i.op, .int .i64 i.rd, .int .i64 i.rs1, .int .i64 i.rs2, .int .i64 i.csr, .int .u32 i.imm, .bool i.aq, .bool i.rl] 47) (.cells CS 32)
  refine ⟨by simp [World.cell?, d0], by simp [World.cell?, d0], by simp [World.cell?, d0], by simp [World.cell?, d0], by simp; omega, ⟨two_last w _ _⟩, h.below (((Below.refl _ _).alloc (Nat.le_refl _) _).alloc (by simp) _), h.lt⟩
abbrev S3 (n fb rd : Nat) (op k : Int) (w' : World) : Prop := w'.cell? ⟨n, 1, none⟩ = some (.int .i64 (rd : Int)) ∧ w'.cell? ⟨n, 0, none⟩ = some (.int .i64 op) ∧ w'.cell? ⟨n + 1, 0, none⟩ = some (.int .i64 k) ∧ ∀ u : W.Sl, (stL ⟨fb, rd, none⟩ (slV u)).run Try.prog w' = .ok () (w'.setCell ⟨fb, rd, none⟩ (slV u))
theorem Tk.s3 {n fb rd : Nat} {op r1 r2 csr imm k : Int} {aq rl : Bool} {CS : Array Value} {R : Nat → W.Sl} {C O : W.Sl} {w : World} (h : Tk n fb ⟨op, (rd : Int), r1, r2, csr, imm, aq, rl⟩ CS R C O w) (hd : rd < 32) (hk : CS[0]? = some (.int .i64 k)) : S3 n fb rd op k w :=
  ⟨h.i1, h.i0, h.o.c 0 hk, fun u => stL_at (h.f.rg rd hd) (h.f.fz rd) u.a u.n u.c⟩
end Go.Proofs.Ytpapiimiblefaaa

/- What take keeps true. -/
namespace Go.Proofs.Ytpapiimiblefaaa
open Go.ChangeShapes Go.WideShapes Go.ChangeAt Go.RowKit
set_option linter.unusedVariables false
set_option linter.unusedSimpArgs false

/-- A list that lies in memory, in none of these blocks. -/
structure Lx (F : Nat → Prop) (s : W.Sl) (l : List Int) (w : World) : Prop where
  li : Li s l w
  ap : ∀ b o, 0 < s.n → s.a = some ⟨b, o, none⟩ → ¬ F b
theorem Lx.below {F : Nat → Prop} {s : W.Sl} {l : List Int} {w w' : World} (h : Lx F s l w) (hb : Below w.heap.size w w') : Lx F s l w' := ⟨h.li.below hb, h.ap⟩
theorem Li.block {s : W.Sl} {l : List Int} {w w' : World} (h : Li s l w) (hk : ∀ b o, 0 < s.n → s.a = some ⟨b, o, none⟩ → b < w.heap.size → b < w'.heap.size ∧ ∀ j, w'.cell? ⟨b, j, none⟩ = w.cell? ⟨b, j, none⟩) : Li s l w' :=
  ⟨h.n, h.m, h.nc, fun h0 => by
    obtain ⟨b, o, e, hl, hc⟩ := h.at_ h0
    obtain ⟨k1, k2⟩ := hk b o h0 e hl
    exact ⟨b, o, e, k1, fun j x hx => (k2 _).trans (hc j x hx)⟩⟩
theorem Lx.set {F : Nat → Prop} {s : W.Sl} {l : List Int} {w : World} (h : Lx F s l w) (b k : Nat) (v : Value) (hF : F b) : Lx F s l (w.setCell ⟨b, k, none⟩ v) :=
  ⟨h.li.block fun g o h0 e hl => ⟨by simpa [World.setCell] using hl, fun j => World.cell?_setCell_other _ _ _ _ (by
    have : g ≠ b := fun e' => h.ap g o h0 e (e' ▸ hF)
    simp [this])⟩, h.ap⟩
theorem Lx.mono {F G : Nat → Prop} {s : W.Sl} {l : List Int} {w : World} (h : Lx F s l w) (hG : ∀ b, b < w.heap.size → G b → F b) : Lx G s l w :=
  ⟨h.li, fun b o h0 e hg => by
    obtain ⟨b', o', e', hl, _⟩ := h.li.at_ h0
    rw [e] at e'
    cases e'
    exact h.ap b o h0 e (hG b hl hg)⟩
theorem lx_new {F : Nat → Prop} {s : W.Sl} {l : List Int} {w : World} {n : Nat} (h : Li s l w) (hn : 0 < s.n → ∃ b, s.a = some ⟨b, 0, none⟩ ∧ n ≤ b) (hF : ∀ b, n ≤ b → ¬ F b) : Lx F s l w :=
  ⟨h, fun b o h0 e hf => by
    obtain ⟨b', e', hb⟩ := hn h0
    rw [e] at e'
    cases e'
    exact hF b hb hf⟩
theorem lx_nil (F : Nat → Prop) (w : World) : Lx F W.Sl.nil [] w := ⟨li_nil w, fun b o h0 _ => absurd h0 (by decide)⟩
/-- Behind growth of one block. -/
theorem Lx.grown {F : Nat → Prop} {s : W.Sl} {l : List Int} {w w' : World} {r : Option Nat} (h : Lx F s l w) (hg : w.grownBy w' r) (hF : ∀ b, r = some b → F b) : Lx F s l w' :=
  ⟨h.li.block fun b o h0 e hl => ⟨Nat.lt_of_lt_of_le hl hg.size, fun j => World.cell?_of_block (hg.block b hl (fun e' => h.ap b o h0 e (hF b e'.symm)))⟩, h.ap⟩

/-- An operation with what it hangs on, and where that lies. -/
structure Oq where
  o : W.Opr
  a : W.Sl
  d : W.Sl
  c : W.Sl
  la : List Int
  ld : List Int
  lc : List Int
def Oq.cells (q : Oq) : List Value := (opC q.o q.a q.d q.c).toList
def opsX (L : List Oq) : List Value := L.flatMap Oq.cells
structure OqIn (F : Nat → Prop) (q : Oq) (w : World) : Prop where
  a : Lx F q.a q.la w
  d : Lx F q.d q.ld w
  c : Lx F q.c q.lc w
/-- The flow, with its lists and operations. -/
structure Fs (n0 : Nat) (w0 : World) (fb : Nat) (G : Nat → Prop) (r : Nat → List Int) (c : List Int) (L : List Oq) (R : Nat → W.Sl) (C O : W.Sl) (w : World) : Prop where
  f : Fb fb R C O w
  b : Below n0 w0 w
  nf : n0 ≤ fb
  rl : ∀ k, k < 32 → Lx (fun b => b = fb ∨ some b = (slV O).ownBlock ∨ G b) (R k) (r k) w
  cl : Lx (fun b => b = fb ∨ some b = (slV O).ownBlock ∨ G b) C c w
  ow : w.ownsRow n0 32 13 (slV O) L.length (opsX L)
  of : some fb ≠ (slV O).ownBlock
  ll : ∀ q ∈ L, OqIn (fun b => b = fb ∨ some b = (slV O).ownBlock ∨ G b) q w
theorem Fs.below {n0 : Nat} {w0 : World} {fb : Nat} {G : Nat → Prop} {r : Nat → List Int} {c : List Int} {L : List Oq} {R : Nat → W.Sl} {C O : W.Sl} {w w' : World} (h : Fs n0 w0 fb G r c L R C O w) (hb : Below w.heap.size w w') : Fs n0 w0 fb G r c L R C O w' :=
  ⟨h.f.below hb, h.b.trans (hb.mono (Nat.le_trans h.nf (Nat.le_of_lt h.f.lt))), h.nf, fun k hk => (h.rl k hk).below hb, h.cl.below hb, own_below h.ow hb, h.of, fun q hq => ⟨(h.ll q hq).a.below hb, (h.ll q hq).d.below hb, (h.ll q hq).c.below hb⟩⟩
/-- More blocks that are not theirs: those of new memory. -/
theorem Fs.more {n0 : Nat} {w0 : World} {fb : Nat} {G H : Nat → Prop} {r : Nat → List Int} {c : List Int} {L : List Oq} {R : Nat → W.Sl} {C O : W.Sl} {w : World} (h : Fs n0 w0 fb G r c L R C O w) (hH : ∀ b, b < w.heap.size → H b → G b) : Fs n0 w0 fb H r c L R C O w :=
  have m : ∀ b, b < w.heap.size → (b = fb ∨ some b = (slV O).ownBlock ∨ H b) → (b = fb ∨ some b = (slV O).ownBlock ∨ G b) := fun b hb k => k.imp id (·.imp id (hH b hb))
  ⟨h.f, h.b, h.nf, fun k hk => (h.rl k hk).mono m, h.cl.mono m, h.ow, h.of, fun q hq => ⟨(h.ll q hq).a.mono m, (h.ll q hq).d.mono m, (h.ll q hq).c.mono m⟩⟩
theorem gsetCell (w : World) (b k : Nat) (v : Value) : w.grownBy (w.setCell ⟨b, k, none⟩ v) (some b) := by
  refine ⟨rfl, rfl, rfl, by simp [World.setCell], fun g hb hne => ?_⟩
  simp only [World.setCell, Array.getElem?_modify]
  rw [if_neg (fun e => hne (by rw [e]))]
def updL (r : Nat → List Int) (k : Nat) (l : List Int) : Nat → List Int := fun j => if j = k then l else r j
theorem Fs.setR {n0 : Nat} {w0 : World} {fb : Nat} {G : Nat → Prop} {r : Nat → List Int} {c : List Int} {L : List Oq} {R : Nat → W.Sl} {C O : W.Sl} {w : World} (h : Fs n0 w0 fb G r c L R C O w) (k : Nat) (hk : k < 32) (s : W.Sl) (l : List Int) (hs : Lx (fun b => b = fb ∨ some b = (slV O).ownBlock ∨ G b) s l w) :
    Fs n0 w0 fb G (updL r k l) c L (W.upd R k s) C O (w.setCell ⟨fb, k, none⟩ (slV s)) :=
  ⟨h.f.setR k hk s, h.b.setCell h.nf _, h.nf, fun j hj => by
    unfold updL W.upd
    by_cases e : j = k
    · rw [if_pos e, if_pos e]; exact hs.set fb k _ (Or.inl rfl)
    · rw [if_neg e, if_neg e]; exact (h.rl j hj).set fb k _ (Or.inl rfl), h.cl.set fb k _ (Or.inl rfl), h.ow.kept (gsetCell w fb k _) (Or.inr (Ne.symm h.of)), h.of, fun q hq => ⟨(h.ll q hq).a.set fb k _ (Or.inl rfl), (h.ll q hq).d.set fb k _ (Or.inl rfl), (h.ll q hq).c.set fb k _ (Or.inl rfl)⟩⟩
theorem Fs.setC {n0 : Nat} {w0 : World} {fb : Nat} {G : Nat → Prop} {r : Nat → List Int} {c : List Int} {L : List Oq} {R : Nat → W.Sl} {C O : W.Sl} {w : World} (h : Fs n0 w0 fb G r c L R C O w) (s : W.Sl) (l : List Int) (hs : Lx (fun b => b = fb ∨ some b = (slV O).ownBlock ∨ G b) s l w) :
    Fs n0 w0 fb G r l L R s O (w.setCell ⟨fb, 32, none⟩ (slV s)) :=
  ⟨h.f.setC s, h.b.setCell h.nf _, h.nf, fun j hj => (h.rl j hj).set fb 32 _ (Or.inl rfl), hs.set fb 32 _ (Or.inl rfl), h.ow.kept (gsetCell w fb 32 _) (Or.inr (Ne.symm h.of)), h.of, fun q hq => ⟨(h.ll q hq).a.set fb 32 _ (Or.inl rfl), (h.ll q hq).d.set fb 32 _ (Or.inl rfl), (h.ll q hq).c.set fb 32 _ (Or.inl rfl)⟩⟩
/-- Into a block of take's own. -/
theorem Fs.setG {n0 : Nat} {w0 : World} {fb : Nat} {G : Nat → Prop} {r : Nat → List Int} {c : List Int} {L : List Oq} {R : Nat → W.Sl} {C O : W.Sl} {w : World} (h : Fs n0 w0 fb G r c L R C O w) (b k : Nat) (v : Value) (hG : G b) (hf : fb ≠ b) (hn : n0 ≤ b) (ho : some b ≠ (slV O).ownBlock) :
    Fs n0 w0 fb G r c L R C O (w.setCell ⟨b, k, none⟩ v) :=
  ⟨h.f.other hf, h.b.setCell hn _, h.nf, fun j hj => (h.rl j hj).set b k _ (Or.inr (Or.inr hG)), h.cl.set b k _ (Or.inr (Or.inr hG)), h.ow.kept (gsetCell w b k _) (Or.inr (Ne.symm ho)), h.of, fun q hq => ⟨(h.ll q hq).a.set b k _ (Or.inr (Or.inr hG)), (h.ll q hq).d.set b k _ (Or.inr (Or.inr hG)), (h.ll q hq).c.set b k _ (Or.inr (Or.inr hG))⟩⟩
theorem Fb.grown {fb : Nat} {R : Nat → W.Sl} {C O : W.Sl} {w w' : World} {r : Option Nat} (h : Fb fb R C O w) (hg : w.grownBy w' r) (hne : some fb ≠ r) : Fb fb R C O w' := by
  have q := hg.block fb h.lt hne
  have c : ∀ j, w'.cell? ⟨fb, j, none⟩ = w.cell? ⟨fb, j, none⟩ := fun j => World.cell?_of_block q
  exact ⟨Nat.lt_of_lt_of_le h.lt hg.size, fun k hk => (c k).trans (h.rg k hk), (c 32).trans h.ct, (c 33).trans h.op, fun j => by
    have := h.fz j
    simp only [World.frozen?] at this ⊢
    rw [q]
    exact this⟩
theorem opsX_app (L : List Oq) (q : Oq) : opsX (L ++ [q]) = opsX L ++ q.cells := by simp [opsX]
/-- Behind the append, and its place written. -/
theorem Fs.app {n0 : Nat} {w0 : World} {fb : Nat} {G : Nat → Prop} {r : Nat → List Int} {c : List Int} {L : List Oq} {R : Nat → W.Sl} {C O P : W.Sl} {w w' : World} (h : Fs n0 w0 fb G r c L R C O w) (q : Oq) (hq : OqIn (fun b => b = fb ∨ some b = (slV O).ownBlock ∨ G b) q w) (hg : w.grownBy w' (slV O).ownBlock) (ho : w'.ownsRow n0 32 13 (slV P) (L.length + 1) (opsX L ++ q.cells)) (hP : ∀ b, some b = (slV P).ownBlock → some b = (slV O).ownBlock ∨ w.heap.size ≤ b) :
    Fs n0 w0 fb G r c (L ++ [q]) R C P (w'.setCell ⟨fb, 33, none⟩ (slV P)) := by
  have lx : ∀ s l, Lx (fun b => b = fb ∨ some b = (slV O).ownBlock ∨ G b) s l w → Lx (fun b => b = fb ∨ some b = (slV P).ownBlock ∨ G b) s l (w'.setCell ⟨fb, 33, none⟩ (slV P)) := fun s l k =>
    Lx.set (w := w') ⟨(k.grown hg (fun b e => Or.inr (Or.inl e.symm))).li, fun b o h0 e hf => by
      rcases hf with hf | hf | hf
      · exact k.ap b o h0 e (Or.inl hf)
      · rcases hP b hf with h1 | h1
        · exact k.ap b o h0 e (Or.inr (Or.inl h1))
        · obtain ⟨b', o', e', hl, _⟩ := k.li.at_ h0
          rw [e] at e'
          cases e'
          omega
      · exact k.ap b o h0 e (Or.inr (Or.inr hf))⟩ fb 33 _ (Or.inl rfl)
  have hfP : some fb ≠ (slV P).ownBlock := fun e => by
    rcases hP fb e with h1 | h1
    · exact h.of h1
    · have := h.f.lt; omega
  refine ⟨(h.f.grown hg h.of).setO P, ((Below.grown h.b hg (Nat.le_trans h.nf (Nat.le_of_lt h.f.lt)) (fun b e => (h.ow.lt b e).1)).setCell h.nf _), h.nf, fun k hk => lx _ _ (h.rl k hk), lx _ _ h.cl, ?_, hfP, fun z hz => ?_⟩
  · rw [List.length_append, opsX_app]
    exact ho.kept (gsetCell w' fb 33 _) (Or.inr (Ne.symm hfP))
  · rcases List.mem_append.1 hz with hz | hz
    · exact ⟨lx _ _ (h.ll z hz).a, lx _ _ (h.ll z hz).d, lx _ _ (h.ll z hz).c⟩
    · obtain rfl : z = q := by simpa using hz
      exact ⟨lx _ _ hq.a, lx _ _ hq.d, lx _ _ hq.c⟩
end Go.Proofs.Ytpapiimiblefaaa

/- Calls of take, at what it keeps true. -/
namespace Go.Proofs.Ytpapiimiblefaaa
open Go.ChangeShapes Go.WideShapes Go.ChangeAt Go.RowKit
set_option linter.unusedVariables false
set_option linter.unusedSimpArgs false

theorem result_x {F : Nat → Prop} (fb : Nat) (R : Nat → W.Sl) (C O : W.Sl) (op k : Int) (s t : W.Sl) (A B : List Int) (w : World) (hF : Fb fb R C O w) (hs : Lx F s A w) (ht : Lx F t B w) (hA : A.Pairwise (· < ·)) (hB : B.Pairwise (· < ·)) (hz : A.length + B.length ≤ 4096) (hn : ∀ b, w.heap.size ≤ b → ¬ F b) :
    Calls Try.prog 24 #[.pointer (some ⟨fb, 0, none⟩), .int .i64 op, .int .i64 k, slV s, slV t] w fun e w' => (∃ u, e = .returned (slV u) ∧ Lx F u (W.resL O.n op k A B) w') ∧ Below w.heap.size w w' :=
  (result_any fb R C O op k s t A B w hF hs.li ht.li hA hB hz).mono fun e w' ⟨⟨u, h1, h2, h3⟩, h4⟩ => ⟨⟨u, h1, ⟨h2, by
    rcases h3 with rfl | rfl | h3
    · exact hs.ap
    · exact ht.ap
    · exact (lx_new h2 h3 hn).ap⟩⟩, h4⟩
theorem union_x {F : Nat → Prop} (s t : W.Sl) (A B : List Int) (w : World) (hs : Lx F s A w) (ht : Lx F t B w) (hA : A.Pairwise (· < ·)) (hB : B.Pairwise (· < ·)) (hz : A.length + B.length ≤ 4096) (hn : ∀ b, w.heap.size ≤ b → ¬ F b) :
    Calls Try.prog 27 #[slV s, slV t] w fun e w' => (∃ u, e = .returned (slV u) ∧ Lx F u (W.uni A B) w') ∧ Below w.heap.size w w' :=
  (union_any s t A B w hs.li ht.li hA hB hz).mono fun e w' ⟨⟨u, h1, h2, h3⟩, h4⟩ => ⟨⟨u, h1, ⟨h2, by
    rcases h3 with rfl | rfl | h3
    · exact hs.ap
    · exact ht.ap
    · exact (lx_new h2 h3 hn).ap⟩⟩, h4⟩
theorem clone_x {F : Nat → Prop} (s : W.Sl) (l : List Int) (w : World) (hs : Lx F s l w) (hn : ∀ b, w.heap.size ≤ b → ¬ F b) : Calls Try.prog 25 #[slV s] w fun e w' => (∃ t, e = .returned (slV t) ∧ Lx F t l w') ∧ Below w.heap.size w w' :=
  (clone_any s l w hs.li).mono fun e w' ⟨⟨t, h1, h2, h3⟩, h4⟩ => ⟨⟨t, h1, lx_new h2 h3 hn⟩, h4⟩
/-- take's own two blocks. -/
abbrev Tw (n : Nat) (b : Nat) : Prop := b = n ∨ b = n + 1
/-- New blocks are none of theirs. -/
theorem Fs.none {n0 : Nat} {w0 : World} {fb n : Nat} {r : Nat → List Int} {c : List Int} {L : List Oq} {R : Nat → W.Sl} {C O : W.Sl} {w : World} (h : Fs n0 w0 fb (Tw n) r c L R C O w) (hn : n + 1 < w.heap.size) : ∀ b, w.heap.size ≤ b → ¬ (b = fb ∨ some b = (slV O).ownBlock ∨ Tw n b) := by
  intro b hb hk
  have := h.f.lt
  rcases hk with hk | hk | hk | hk
  · omega
  · have := (h.ow.lt b hk.symm).2
    omega
  · omega
  · omega
theorem step_lies {P : Program} (w : World) {ops : Array Oper} {a : Act} {K : Act → World → Prop} {Q : Exit → Act → World → Prop} {E : Prop} (d s x t : Nat) {ty : TypeId} {ps : String} {af : Array Edge}
    (base : Nat) (e : TypeId) (i : TypeInfo) (z : Value) (size bytes : Nat) (ht : P.underlying t = some (.slice e)) (hi : P.info? e = some i) (hz : i.zero = some z)
    (hsize : i.size = size) (hby : i.bytes = bytes) (hzs : z.cells.size = size) (hsz : 0 < size)
    (v : Value) (n : Nat) (xs : List Value) (hs : a.eval (.tmp s) = v) (hown : w.ownsRow base e size v n xs)
    (ad : Addr) (m c : Nat) (news : List Value) (hx : a.eval (.tmp x) = .slice (some ad) m c) (hl : news.length = m * size) (hnews : ∀ j u, news[j]? = some u → w.cell? (ad.add j) = some u) (h1 : ∀ u ∈ news, u.oneCell' = true)
    (hm : 0 < m) (h63 : n + m ≤ maxLen) (hbytes : (n + m) * bytes ≤ 140737488355328) (hbase : base ≤ w.heap.size)
    (h : ∀ g cap w', w'.ownsRow base e size (.slice (some ⟨g, 0, none⟩) (n + m) cap) (n + m) (xs ++ news) → w.grownBy w' v.ownBlock → (v.ownBlock = some g ∨ g = w.heap.size) → g < w'.heap.size → K (a.put (some d) (.slice (some ⟨g, 0, none⟩) (n + m) cap)) w') :
    if Region.wanted { dst := some d, op := .call { callee := .builtin .append, args := #[.tmp s, .tmp x], argTypes := #[t, t] }, type := ty, pos := ps, after := af, guard := none } (yielded ops a.tmps) = true then Oper.wp P { dst := some d, op := .call { callee := .builtin .append, args := #[.tmp s, .tmp x], argTypes := #[t, t] }, type := ty, pos := ps, after := af, guard := none } a w K Q else E := by
  rw [if_pos (by simp [Region.wanted])]
  exact wp_append_lies w _ _ t rfl base e i z size bytes ht hi hz hsize hby hzs hsz v n xs hs hown ad m c news hx hl hnews h1 hm h63 hbytes hbase _ rfl h
abbrev S5 (n fb : Nat) (C : W.Sl) (w' : World) : Prop := w'.cell? ⟨fb, 32, none⟩ = some (slV C) ∧ (∀ u : W.Sl, (stL ⟨n + 1, 10, none⟩ (slV u)).run Try.prog w' = .ok () (w'.setCell ⟨n + 1, 10, none⟩ (slV u))) ∧ (∀ u : W.Sl, (stL ⟨n + 1, 11, none⟩ (slV u)).run Try.prog w' = .ok () (w'.setCell ⟨n + 1, 11, none⟩ (slV u))) ∧ ∀ u : W.Sl, (stL ⟨n + 1, 12, none⟩ (slV u)).run Try.prog w' = .ok () (w'.setCell ⟨n + 1, 12, none⟩ (slV u))
theorem Tk.s5 {n fb : Nat} {i : W.I} {CS : Array Value} {R : Nat → W.Sl} {C O : W.Sl} {w : World} (h : Tk n fb i CS R C O w) (hs : CS.size = 13) : S5 n fb C w := by
  have q : ∀ j, j < 13 → ∀ u : W.Sl, (stL ⟨n + 1, j, none⟩ (slV u)).run Try.prog w = .ok () (w.setCell ⟨n + 1, j, none⟩ (slV u)) := fun j hj u => stL_at (h.o.c j (Array.getElem?_eq_getElem (by omega))) (h.o.f j) u.a u.n u.c
  exact ⟨h.f.ct, q 10 (by decide), q 11 (by decide), q 12 (by decide)⟩
abbrev S6 (n fb : Nat) (CS : Array Value) (w' : World) : Prop := (ldO ⟨n + 1, 0, none⟩).run Try.prog w' = .ok (.agg CS) w' ∧ ∀ (a : Option Addr) (m c : Nat), (stP ⟨fb, 33, none⟩ (.slice a m c)).run Try.prog w' = .ok () (w'.setCell ⟨fb, 33, none⟩ (.slice a m c))
theorem Tk.s6 {n fb : Nat} {i : W.I} {CS : Array Value} {R : Nat → W.Sl} {C O : W.Sl} {w : World} (h : Tk n fb i CS R C O w) (hs : CS.size = 13) : S6 n fb CS w :=
  ⟨ldO_at h.o.out hs, fun a m c => stP_at h.f.op (h.f.fz 33) a m c⟩
def bsO (n : Nat) (l : Array (Nat × Value)) : Sem Value := Instr.buildSlice 25 n l
theorem bsO_eq (n : Nat) (l : Array (Nat × Value)) : Instr.buildSlice 25 n l = bsO n l := rfl
theorem bsO_any (o : W.Opr) (a d c : W.Sl) (w : World) : (bsO 1 #[(0, .agg (opC o a d c))]).run Try.prog w = .ok (.slice (some ⟨w.heap.size, 0, none⟩) 1 1) (w.alloc (.cells (opC o a d c) 32)) := by kernel_rfl
theorem Tk.grown {n fb : Nat} {i : W.I} {CS : Array Value} {R : Nat → W.Sl} {C O : W.Sl} {w w' : World} {q : Option Nat} (h : Tk n fb i CS R C O w) (hg : w.grownBy w' q) (h1 : some n ≠ q) (h2 : some (n + 1) ≠ q) (h3 : some fb ≠ q) : Tk n fb i CS R C O w' :=
  ⟨(World.cell?_of_block (hg.block n h.il h1)).trans h.i0, (World.cell?_of_block (hg.block n h.il h1)).trans h.i1, (World.cell?_of_block (hg.block n h.il h1)).trans h.i2, (World.cell?_of_block (hg.block n h.il h1)).trans h.i3, Nat.lt_of_lt_of_le h.il hg.size, ⟨(hg.block (n + 1) h.o.lt h2).trans h.o.out⟩, h.f.grown hg h3, h.lt⟩
theorem infoOp : (Try.prog.info? 32).map (fun i => (i.zero, i.size, i.bytes)) = some (some (.agg zOp), 13, 120) := by kernel_rfl
theorem own_n {w : World} {base : Nat} {e : TypeId} {size n : Nat} {xs : List Value} {O : W.Sl} (h : w.ownsRow base e size (slV O) n xs) : O.n = n := by
  obtain ⟨a, m, c⟩ := O
  rcases h.2 with ⟨h1, h2⟩ | ⟨g, cap, cur, h1, _⟩
  · simp [slV] at h1
    simp only
    omega
  · simp [slV] at h1
    simp only
    omega
def Oq.pure (q : Oq) : W.Opr × List Int × List Int × List Int := (q.o, q.la, q.ld, q.lc)
end Go.Proofs.Ytpapiimiblefaaa
