/- Texts in one: WmoHandsA, WmoHandsWalk. -/
import Derived.Deep.AppendLies
import Derived.Test.YtibohlbkkaghkaaDoorJ14
import Derived.Test.YtibohlbkkaghkaaDoorJ15
/- WmoHands: two lists of operations that grow, and what Check reads of them. -/
namespace Go.Proofs.YtibohlbkkaghkaaDoor
open Go.ChangeShapes Go.WideShapes Go.ChangeAt Go.RowKit Go.Maps
set_option linter.unusedVariables false
set_option linter.unusedSimpArgs false

def opsL (l : List W.Opr) : List Value := l.flatMap fun o => (opN o).toList
theorem opsL_app (l : List W.Opr) (o : W.Opr) : opsL (l ++ [o]) = opsL l ++ (opN o).toList := by simp [opsL]
theorem opsL_len : ∀ l : List W.Opr, (opsL l).length = l.length * 13
  | [] => rfl
  | o :: r => by
    have := opsL_len r
    unfold opsL at *
    rw [List.flatMap_cons, List.length_append, this, List.length_cons]
    show 13 + _ = _
    omega
theorem opsL_get : ∀ (l : List W.Opr) (j k : Nat) (o : W.Opr), l[j]? = some o → k < 13 → (opsL l)[j * 13 + k]? = (opN o)[k]?
  | [], j, k, o, h, _ => by cases h
  | p :: r, 0, k, o, h, hk => by
    cases h
    unfold opsL
    rw [List.flatMap_cons, List.getElem?_append_left (by show 0 * 13 + k < 13; omega), Nat.zero_mul, Nat.zero_add]
    simp
  | p :: r, j + 1, k, o, h, hk => by
    have ih := opsL_get r j k o (by simpa using h) hk
    unfold opsL at *
    rw [List.flatMap_cons, List.getElem?_append_right (by show 13 ≤ (j + 1) * 13 + k; omega)]
    have : (j + 1) * 13 + k - (opN p).toList.length = j * 13 + k := by show (j + 1) * 13 + k - 13 = _; omega
    rw [this]
    exact ih
theorem own_owL {w : World} {base : Nat} {v : Value} {l : List W.Opr} {n : Nat} (hn : n = l.length) (h : w.ownsRow base 38 13 v n (opsL l)) (h0 : 0 < n) : ∃ g cap, v = .slice (some ⟨g, 0, none⟩) n cap ∧ base ≤ g ∧ Ow g n (W.ozM l) (fun _ => S3.nil) w := by
  have h' := h
  rcases h.2 with ⟨_, h1⟩ | ⟨g, cap, cur, rfl, hg, hh, hcap, hmax, hcur, htake⟩
  · omega
  · refine ⟨g, cap, rfl, hg, ⟨⟨(Array.getElem?_eq_some_iff.1 hh).1, fun i hi => ?_, fun j => by unfold World.frozen?; rw [hh]; simp⟩, fun j hj => ?_, fun j hj => ?_, fun j hj => ?_⟩⟩
    · have hl : i / 13 < l.length := by omega
      have eo : l[i / 13]? = some l[i / 13] := List.getElem?_eq_getElem hl
      have ez : W.ozM l (i / 13) = W.oz0 l[i / 13] := by unfold W.ozM; rw [List.getD_eq_getElem?_getD, eo]; rfl
      have e := opN_get l[i / 13] (i % 13) (by omega) (W.ozM l) (fun _ => S3.nil) (i / 13) ez rfl
      rw [show i / 13 * 13 + i % 13 = i by omega] at e
      have hc := h'.cells (g := g) rfl i (opF (W.ozM l) (fun _ => S3.nil) i) (by
        have q := opsL_get l (i / 13) (i % 13) _ eo (by omega)
        rw [show i / 13 * 13 + i % 13 = i by omega] at q
        rw [q, e])
      rw [Addr.add_lit] at hc
      simpa using hc
    · exact lg_nil _ _
    · exact lg_nil _ _
    · exact lg_nil _ _
theorem infoOp : (Tryd.prog.info? 38).map (fun i => (i.zero, i.size, i.bytes)) = some (some (.agg (opN (W.op3 0 0 0))), 13, 120) := by kernel_rfl
theorem opN_one (o : W.Opr) : ∀ u ∈ (opN o).toList, u.oneCell' = true := by
  intro u hu
  simp [opN, opC] at hu
  rcases hu with h | h | h | h | h | h | h | h | h | h | h <;> rw [h] <;> rfl
theorem opsR_one (o : W.Opr) : opsR [o] = opN o := by simp [opsR]
theorem news_op (o : W.Opr) (w : World) : ∀ j u, (opN o).toList[j]? = some u → (w.alloc (.cells (opsR [o]) 38)).cell? ((⟨w.heap.size, 0, none⟩ : Addr).add j) = some u := by
  rw [opsR_one]
  exact World.news_of_block (cs := opN o) (heap_alloc_last w _)
/-- Two lists of operations, each in memory of its own. -/
structure Tw2 (w0 : World) (u v : Value) (l k : List W.Opr) (w : World) : Prop where
  a : w.ownsRow w0.heap.size 38 13 u l.length (opsL l)
  b : w.ownsRow w0.heap.size 38 13 v k.length (opsL k)
  ub : ∀ c, u.ownBlock = some c → v.ownBlock ≠ some c
  bl : Below w0.heap.size w0 w
theorem Tw2.swap {w0 : World} {u v : Value} {l k : List W.Opr} {w : World} (h : Tw2 w0 u v l k w) : Tw2 w0 v u k l w := ⟨h.b, h.a, fun c e e2 => h.ub c e2 e, h.bl⟩
theorem Tw2.below {w0 : World} {u v : Value} {l k : List W.Opr} {w w' : World} (h : Tw2 w0 u v l k w) (hb : Below w.heap.size w w') : Tw2 w0 u v l k w' :=
  ⟨own_below h.a hb, own_below h.b hb, h.ub, h.bl.trans (hb.mono h.bl.size)⟩
theorem tw2_new (w0 w : World) (hb : Below w0.heap.size w0 w) (o p : W.Opr) : Tw2 w0 (.slice (some ⟨w.heap.size, 0, none⟩) 1 1) (.slice (some ⟨w.heap.size + 1, 0, none⟩) 1 1) [o] [p] ((w.alloc (.cells (opsR [o]) 38)).alloc (.cells (opsR [p]) 38)) := by
  have e1 : ((w.alloc (.cells (opsR [o]) 38)).alloc (.cells (opsR [p]) 38)).heap[w.heap.size]? = some (.cells (opsR [o]) 38) := by
    show ((w.heap.push _).push _)[w.heap.size]? = _
    rw [Array.getElem?_push, Array.getElem?_push]
    simp
  have e2 : ((w.alloc (.cells (opsR [o]) 38)).alloc (.cells (opsR [p]) 38)).heap[w.heap.size + 1]? = some (.cells (opsR [p]) 38) := by
    show ((w.heap.push _).push _)[w.heap.size + 1]? = _
    rw [Array.getElem?_push]
    simp
  have hz := hb.size
  refine ⟨⟨rfl, Or.inr ⟨w.heap.size, 1, opsR [o], rfl, hz, e1, Nat.le_refl _, by unfold maxLen; omega, by rw [opsR_one]; rfl, ?_⟩⟩, ⟨rfl, Or.inr ⟨w.heap.size + 1, 1, opsR [p], rfl, by omega, e2, Nat.le_refl _, by unfold maxLen; omega, by rw [opsR_one]; rfl, ?_⟩⟩, fun c e e' => ?_, (hb.alloc hz _).alloc (by simp; omega) _⟩
  · rw [opsR_one]; rfl
  · rw [opsR_one]; rfl
  · have h1 : w.heap.size = c := Option.some.inj e
    have h2 : w.heap.size + 1 = c := Option.some.inj e'
    omega
/-- The first one grows. -/
theorem app_one {ops : Array Oper} {rest : List Oper} {o : Oper} {a : Act} {Q : Exit → Act → World → Prop} (hgd : o.guard = none) (s x : Operand) (ho : o.op = .call { callee := .builtin .append, args := #[s, x], argTypes := #[34, 34] }) (w0 X : World) (u v : Value) (l k : List W.Opr) (p : W.Opr) (m : Nat) (hm : m = l.length + 1) (hT : Tw2 w0 u v l k X) (hs : a.eval s = u) (H : Nat) (hH : X.heap.size = H) (hx : a.eval x = .slice (some ⟨H, 0, none⟩) 1 1) (hl : l.length ≤ 100)
    (h : ∀ g cap w', Tw2 w0 (.slice (some ⟨g, 0, none⟩) m cap) v (l ++ [p]) k w' → wpList Tryd.prog ops Q rest (a.put o.dst (.slice (some ⟨g, 0, none⟩) m cap)) w') :
    wpList Tryd.prog ops Q (o :: rest) a (X.alloc (.cells (opsR [p]) 38)) := by
  subst hm hH
  obtain ⟨ii, hi, hzz⟩ := Option.map_eq_some_iff.1 infoOp
  simp only [Prod.mk.injEq] at hzz
  obtain ⟨hz0, hz1, hz2⟩ := hzz
  have hal := (Below.refl X.heap.size X).alloc (Nat.le_refl _) (.cells (opsR [p]) 38)
  have T1 := hT.below hal
  have z := hT.bl.size
  refine wpList_append_lies _ hgd s x 34 ho w0.heap.size 38 ii (.agg (opN (W.op3 0 0 0))) 13 120 Tryd.underlying34 hi hz0 hz1 hz2 rfl (by decide) u l.length (opsL l) hs T1.a ⟨X.heap.size, 0, none⟩ 1 1 (opN p).toList hx rfl (news_op p X) (opN_one p) (by decide) (by unfold maxLen; omega) (by omega) (by simp; omega) (X.heap.size + 1) (by simp) ?_
  intro g cap w' own hg hat hlt
  refine h g cap w' ⟨by rw [List.length_append, opsL_app]; exact own, T1.b.kept hg ?_, fun c e e' => ?_, Below.grown T1.bl hg T1.bl.size (fun b hb => (T1.a.lt b hb).1)⟩
  · cases hv : v.ownBlock with
    | none => exact Or.inl rfl
    | some c => exact Or.inr fun e => hT.ub c e.symm hv
  · have h1 : g = c := Option.some.inj e
    subst h1
    rcases hat with h2 | h2
    · exact hT.ub g h2 e'
    · have := (hT.b.lt g e').2
      omega
/-- The second one grows. -/
theorem app_two {ops : Array Oper} {rest : List Oper} {o : Oper} {a : Act} {Q : Exit → Act → World → Prop} (hgd : o.guard = none) (s x : Operand) (ho : o.op = .call { callee := .builtin .append, args := #[s, x], argTypes := #[34, 34] }) (w0 X : World) (u v : Value) (l k : List W.Opr) (p : W.Opr) (m : Nat) (hm : m = k.length + 1) (hT : Tw2 w0 u v l k X) (hs : a.eval s = v) (H : Nat) (hH : X.heap.size = H) (hx : a.eval x = .slice (some ⟨H, 0, none⟩) 1 1) (hl : k.length ≤ 100)
    (h : ∀ g cap w', Tw2 w0 u (.slice (some ⟨g, 0, none⟩) m cap) l (k ++ [p]) w' → wpList Tryd.prog ops Q rest (a.put o.dst (.slice (some ⟨g, 0, none⟩) m cap)) w') :
    wpList Tryd.prog ops Q (o :: rest) a (X.alloc (.cells (opsR [p]) 38)) :=
  app_one hgd s x ho w0 X v u k l p m hm hT.swap hs H hH hx hl fun g cap w' h' => h g cap w' h'.swap
/-- Harts in memory, whatever room they have. -/
structure Mg (b : Nat) (l k : List W.Opr) (g1 g2 c1 c2 : Nat) (w : World) : Prop where
  bl : b < w.heap.size
  o1 : w.cell? ⟨b, 0, none⟩ = some (.slice (some ⟨g1, 0, none⟩) l.length c1)
  o2 : w.cell? ⟨b, 1, none⟩ = some (.slice (some ⟨g2, 0, none⟩) k.length c2)
  w1 : Ow g1 l.length (W.ozM l) (fun _ => S3.nil) w
  w2 : Ow g2 k.length (W.ozM k) (fun _ => S3.nil) w
theorem Mg.below {b : Nat} {l k : List W.Opr} {g1 g2 c1 c2 : Nat} {w w' : World} (h : Mg b l k g1 g2 c1 c2 w) (hb : Below w.heap.size w w') : Mg b l k g1 g2 c1 c2 w' :=
  ⟨Nat.lt_of_lt_of_le h.bl hb.size, (hb.cell (p := ⟨b, 0, none⟩) h.bl).trans h.o1, (hb.cell (p := ⟨b, 1, none⟩) h.bl).trans h.o2, h.w1.below hb, h.w2.below hb⟩
def p2 {α : Type} (x y : α) (h : Nat) : α := match h with | 0 => x | _ => y
theorem Mg.hf {b : Nat} {l k : List W.Opr} {g1 g2 c1 c2 : Nat} {w : World} (M : Mg b l k g1 g2 c1 c2 w) : Hf b 2 (fun h => some ⟨p2 g1 g2 h, 0, none⟩) (W.nM [l, k]) (p2 c1 c2) (W.xM [l, k]) W.sM w := by
  have key : ∀ g (l : List W.Opr), Ow g l.length (W.ozM l) (fun _ => S3.nil) w → ∀ j, j < l.length → ∀ i, i < 13 → w.cell? ⟨g, 0 + j * 13 + i, none⟩ = some (opF (fun _ => W.oz0 (W.ozM l j).o) (fun _ => S3.nil) i) := fun g l how j hj i hi => by
    have e := how.b.c (j * 13 + i) (by omega)
    rw [Nat.zero_add, e]
    have m : (j * 13 + i) % 13 = i := by omega
    have d : (j * 13 + i) / 13 = j := by omega
    have k3 : i % 13 = i := by omega
    unfold opF W.oz0
    rw [m, d, k3]
  refine ⟨⟨M.bl, fun h hh => ?_, fun h hh => ?_⟩, fun h hh h0 => ?_⟩
  · match h, hh with
    | 0, _ => exact M.o1
    | 1, _ => exact M.o2
  · match h, hh with
    | 0, _ => exact M.w1.ol
    | 1, _ => exact M.w2.ol
  · match h, hh with
    | 0, _ => exact ⟨g1, 0, rfl, M.w1.b.lt, key g1 l M.w1⟩
    | 1, _ => exact ⟨g2, 0, rfl, M.w2.b.lt, key g2 k M.w2⟩
theorem Mg.ck {b ob cb : Nat} {l k : List W.Opr} {rs : List (Nat × Nat)} {g1 g2 c1 c2 : Nat} {A : Nat → Addr} {w : World} (KC : Nat) (M : Mg b l k g1 g2 c1 c2 w) (ol : ob < w.heap.size) (hr : ∀ j, j < rs.length → w.cell? ⟨ob, j * 2, none⟩ = some (.int .i64 ((W.rM rs j).1 : Int)) ∧ w.cell? ⟨ob, j * 2 + 1, none⟩ = some (.int .i64 ((W.rM rs j).2 : Int))) (hf : Fz cb w) (hs : Sent A w) (hc : W.ckE [l, k] rs = true) (hv : ∀ h i, 0 ≤ (W.xM [l, k] h i).o.vl ∧ (W.xM [l, k] h i).o.vl < 4294967296) :
    Ck2 b 2 KC (fun h => some ⟨p2 g1 g2 h, 0, none⟩) (W.nM [l, k]) (p2 c1 c2) (W.xM [l, k]) W.sM (some ⟨ob, 0, none⟩) rs.length (W.rM rs) cb A w := by
  unfold W.ckE at hc
  simp only [Bool.and_eq_true, decide_eq_true_eq] at hc
  obtain ⟨⟨⟨⟨⟨h1, h2⟩, h3⟩, h4⟩, h5⟩, h6⟩ := hc
  have hl := fun p hp => W.all_ok h6 p hp
  simp only [Bool.and_eq_true, decide_eq_true_eq] at hl
  have hvl : ∀ p, 0 ≤ (W.stM [l, k] rs p).o.vl ∧ (W.stM [l, k] rs p).o.vl < 4294967296 := W.stp_P (fun o => 0 ≤ o.vl ∧ o.vl < 4294967296) _ _ _ _ _ _ ⟨Int.le_refl _, (by decide : (0 : Int) < 4294967296)⟩ hv
  refine ⟨M.hf, W.vdB_ok [l, k] h1, os_rows ob rs ol hr, W.orB_ok [l, k] rs h2, fun i hi => of_decide_eq_true (W.all_ok h3 i hi), hf, hs, h4, fun p hp hr k hk => W.frB_ok _ _ h5 hvl p hp hr k hk, fun p hp => (hl p hp).1, fun p hp h0 => ?_⟩
  have := (hl p hp).2
  rw [Bool.or_eq_true] at this
  rcases this with this | this
  · rw [Bool.not_eq_true', decide_eq_false_iff_not] at this
    exact absurd h0 this
  · exact of_decide_eq_true this
theorem Tw2.mg {w0 : World} {g1 g2 n1 n2 c1 c2 : Nat} {l k : List W.Opr} {w : World} (h : Tw2 w0 (.slice (some ⟨g1, 0, none⟩) n1 c1) (.slice (some ⟨g2, 0, none⟩) n2 c2) l k w) (h1 : n1 = l.length) (h2 : n2 = k.length) (p1 : 0 < n1) (p2 : 0 < n2) (T : TypeId) : Mg w.heap.size l k g1 g2 c1 c2 (w.alloc (.cells #[.slice (some ⟨g1, 0, none⟩) n1 c1, .slice (some ⟨g2, 0, none⟩) n2 c2] T)) := by
  subst h1 h2
  obtain ⟨g, cap, e, _, o1⟩ := own_owL rfl h.a p1
  cases e
  obtain ⟨g', cap', e', _, o2⟩ := own_owL rfl h.b p2
  cases e'
  have al := (Below.refl w.heap.size w).alloc (Nat.le_refl _) (.cells #[.slice (some ⟨g1, 0, none⟩) l.length c1, .slice (some ⟨g2, 0, none⟩) k.length c2] T)
  have hl := heap_alloc_last w (.cells #[.slice (some ⟨g1, 0, none⟩) l.length c1, .slice (some ⟨g2, 0, none⟩) k.length c2] T)
  exact ⟨by simp, cell_of_row _ _ 0 _ _ (0, 0) hl, cell_of_row _ _ 1 _ _ (0, 0) hl, o1.below al, o2.below al⟩
theorem or_4 (w : World) (a b c d e f g h : Nat) (T : TypeId) : ∀ j, j < [(a, b), (c, d), (e, f), (g, h)].length → (w.alloc (.cells #[.int .i64 (a : Int), .int .i64 (b : Int), .int .i64 (c : Int), .int .i64 (d : Int), .int .i64 (e : Int), .int .i64 (f : Int), .int .i64 (g : Int), .int .i64 (h : Int)] T)).cell? ⟨w.heap.size, j * 2, none⟩ = some (.int .i64 ((W.rM [(a, b), (c, d), (e, f), (g, h)] j).1 : Int)) ∧ (w.alloc (.cells #[.int .i64 (a : Int), .int .i64 (b : Int), .int .i64 (c : Int), .int .i64 (d : Int), .int .i64 (e : Int), .int .i64 (f : Int), .int .i64 (g : Int), .int .i64 (h : Int)] T)).cell? ⟨w.heap.size, j * 2 + 1, none⟩ = some (.int .i64 ((W.rM [(a, b), (c, d), (e, f), (g, h)] j).2 : Int)) := by
  have hl := heap_alloc_last w (.cells #[.int .i64 (a : Int), .int .i64 (b : Int), .int .i64 (c : Int), .int .i64 (d : Int), .int .i64 (e : Int), .int .i64 (f : Int), .int .i64 (g : Int), .int .i64 (h : Int)] T)
  intro j hj
  match j, hj with
  | 0, _ => exact ⟨cell_of_row _ _ 0 _ _ (0, 0) hl, cell_of_row _ _ 1 _ _ (0, 0) hl⟩
  | 1, _ => exact ⟨cell_of_row _ _ 2 _ _ (0, 0) hl, cell_of_row _ _ 3 _ _ (0, 0) hl⟩
  | 2, _ => exact ⟨cell_of_row _ _ 4 _ _ (0, 0) hl, cell_of_row _ _ 5 _ _ (0, 0) hl⟩
  | 3, _ => exact ⟨cell_of_row _ _ 6 _ _ (0, 0) hl, cell_of_row _ _ 7 _ _ (0, 0) hl⟩
namespace W
def hO (a : Bool) (v : Int) : List Opr := bif a then [oW 4 0 v, opB 2 2, oW 4 4 1] else [oW 4 0 v, oW 4 4 1]
def hT (b : Bool) : List Opr := bif b then [oR 4 4 1, opB 1 1, oR 4 0 0] else [oR 4 4 1, oR 4 0 0]
def hm (a : Bool) : Nat := bif a then 2 else 1
def rE (a b : Bool) : List (Nat × Nat) := [(0, hm a), (1, 0), (1, hm b), (0, 0)]
def rF (a b : Bool) : List (Nat × Nat) := [(1, hm b), (0, 0), (0, hm a), (1, 0)]
theorem ckhE (a b : Bool) (v : Int) : ckE [hO a v, hT b] (rE a b) = true := by cases a <;> cases b <;> kernel_rfl
theorem ckhF (a b : Bool) (v : Int) : ckE [hO a v, hT b] (rF a b) = true := by cases a <;> cases b <;> kernel_rfl
theorem tuhE (a b : Bool) (v : Int) : tuM [hO a v, hT b] (rE a b) = bif a then 4 else 0 := by cases a <;> cases b <;> kernel_rfl
theorem tuhF (a b : Bool) (v : Int) : tuM [hO a v, hT b] (rF a b) = bif b then 4 else 0 := by cases a <;> cases b <;> kernel_rfl
theorem uphE (b : Bool) (v : Int) : (upB (okRb (stM [hO false v, hT b] (rE false b))) 5 5 && upB (okPb (stM [hO false v, hT b] (rE false b))) 5 5) = true := by cases b <;> kernel_rfl
theorem uphF (a : Bool) (v : Int) : (upB (okRb (stM [hO a v, hT false] (rF a false))) 5 5 && upB (okPb (stM [hO a v, hT false] (rF a false))) 5 5) = true := by cases a <;> kernel_rfl
theorem vlh (a b : Bool) (v : Int) (v0 : 0 ≤ v) (v1 : v < 4294967296) (h i : Nat) : 0 ≤ (xM [hO a v, hT b] h i).o.vl ∧ (xM [hO a v, hT b] h i).o.vl < 4294967296 := by
  have key : ∀ l : List Opr, (∀ o ∈ l, 0 ≤ o.vl ∧ o.vl < 4294967296) → 0 ≤ (ozM l i).o.vl ∧ (ozM l i).o.vl < 4294967296 := fun l hl => by
    unfold ozM oz0
    rw [List.getD_eq_getElem?_getD]
    cases e : l[i]? with
    | none => exact ⟨Int.le_refl _, (by decide : (0 : Int) < 4294967296)⟩
    | some o => exact hl o (List.mem_of_getElem? e)
  match h with
  | 0 =>
    refine key (hO a v) fun o ho => ?_
    cases a
    · simp only [hO, cond_false, List.mem_cons, List.mem_nil_iff, or_false] at ho
      rcases ho with rfl | rfl
      · exact ⟨v0, v1⟩
      · decide
    · simp only [hO, cond_true, List.mem_cons, List.mem_nil_iff, or_false] at ho
      rcases ho with rfl | rfl | rfl
      · exact ⟨v0, v1⟩
      · decide
      · decide
  | 1 =>
    refine key (hT b) ?_
    cases b <;> decide
  | h + 2 => exact key [] (fun o ho => absurd ho (by simp))
end W
end Go.Proofs.YtibohlbkkaghkaaDoor

/- WmoHands. -/
namespace Go.Proofs.YtibohlbkkaghkaaDoor
open Go.ChangeShapes Go.WideShapes Go.ChangeAt Go.RowKit Go.Maps
set_option linter.unusedVariables false
set_option linter.unusedSimpArgs false

theorem bdO_wv (v : Int) (w : World) : (bdO #[(0, .int .i64 2), (1, .int .i64 4), (3, .int .u32 v)]).run Tryd.prog w = .ok (.agg (opN (W.oW 4 0 v))) w := by kernel_rfl
theorem bdO_wa (w : World) : (bdO #[(0, .int .i64 2), (1, .int .i64 4), (2, .int .u32 4), (3, .int .u32 1)]).run Tryd.prog w = .ok (.agg (opN (W.oW 4 4 1))) w := by kernel_rfl
theorem bdO_ra (w : World) : (bdO #[(0, .int .i64 1), (1, .int .i64 4), (2, .int .u32 4), (4, .int .u32 1)]).run Tryd.prog w = .ok (.agg (opN (W.oR 4 4 1))) w := by kernel_rfl
theorem bdO_r0 (w : World) : (bdO #[(0, .int .i64 1), (1, .int .i64 4)]).run Tryd.prog w = .ok (.agg (opN (W.oR 4 0 0))) w := by kernel_rfl
theorem or32_bd (x y : Int) : 0 ≤ bits .or .u32 x y ∧ bits .or .u32 x y < 4294967296 := by
  unfold bits
  rw [IntKind.wrap_u32']
  omega
attribute [local go_sem ↓] bdO_eq bsO_eq ldO_eq
set_option maxRecDepth 10000 in
set_option maxHeartbeats 1600000 in
theorem hands_00 (A : Nat → Addr) (v : Int) (v0 : 0 ≤ v) (v1 : v < 4294967296) (w : World) (hS : Sent A w) :
    Calls Tryd.prog 5 #[.bool false, .bool false, .int .u32 v] w fun e w' => e = .returned (.bool true) ∧ Below w.heap.size w w' := by
  have q1 := bdO_wv
  have q2 := bdO_wa
  have q3 := bdO_ra
  have q4 := bdO_r0
  have q5 := bdO_b
  have q6 := bsO_1
  have bd := or32_bd v 1
  obtain ⟨VO, eVO⟩ : ∃ VO, bits .or .u32 v 1 = VO := ⟨_, rfl⟩
  rw [eVO] at bd
  have HH : Hid (Calls _ _ _ _ _ ∧ _ ∧ _) := ⟨first14_any A w hS, hS, bd⟩
  clear hS bd
  go_enter Tryd.func5, Tryd.ntmps5
  go_wp2_with (fail)
  refine HH.out.1.mono ?_
  rintro e w1 ⟨rfl, bw1⟩
  have HT : Hid _ := tw2_new w w1 bw1 (W.oW 4 0 VO) (W.oR 4 4 1)
  have HZ : Hid (((w1.alloc (.cells (opsR [W.oW 4 0 VO]) 38)).alloc (.cells (opsR [W.oR 4 4 1]) 38)).heap.size = w1.heap.size + 1 + 1) := by
    show _ = _
    simp
  clear bw1
  go_wp2_with (at_builtin; refine app_one rfl _ _ rfl w _ _ _ _ _ (W.oW 4 4 1) 2 rfl HT.out rfl (w1.heap.size + 1 + 1) HZ.out rfl (by simp) ?_)
  intro g2 c2 w2 T2
  have HT2 : Hid _ := T2
  clear T2
  clear HT HZ
  go_wp2_with (at_builtin; refine app_two rfl _ _ rfl w _ _ _ _ _ (W.oR 4 0 0) 2 rfl HT2.out rfl w2.heap.size rfl rfl (by simp) ?_)
  intro g3 c3 w3 T3
  have HT3 : Hid _ := T3
  clear T3
  clear HT2
  have M0 : Mg w3.heap.size (W.hO false VO) (W.hT false) g2 g3 c2 c3 _ := HT3.out.mg rfl rfl (by decide) (by decide) 34
  have BM := HT3.out.bl.alloc HT3.out.bl.size (.cells #[.slice (some ⟨g2, 0, none⟩) 2 c2, .slice (some ⟨g3, 0, none⟩) 2 c3] 34)
  have HM : Hid (_ ∧ _ ∧ _ ∧ _) := ⟨M0, BM, HH.out.2.1.below BM, HH.out.2.2⟩
  clear M0 BM HT3 HH
  go_wp2_with (fail)
  generalize World.alloc _ _ = W1 at *
  generalize w3.heap.size = hbk at *
  refine (bytesOf_nil W1).mono ?_
  rintro e x2 ⟨⟨cb, rfl, hcb, hF⟩, bb⟩
  have B2 := HM.out.2.1.trans (bb.mono HM.out.2.1.size)
  have M2 := HM.out.1.below bb
  have S2 := HM.out.2.2.1.below bb
  have vl := W.vlh false false VO HM.out.2.2.2.1 HM.out.2.2.2.2
  have mem : ∀ w3, Below x2.heap.size x2 w3 → ∀ r : List (Nat × Nat), ∀ x0 x1 x2 x3 x4 x5 x6 x7 : Nat, r = [(x0, x1), (x2, x3), (x4, x5), (x6, x7)] → W.ckE [W.hO false VO, W.hT false] r = true → Ck2 hbk 2 2 (fun h => some ⟨p2 g2 g3 h, 0, none⟩) (W.nM [W.hO false VO, W.hT false]) (p2 c2 c3) (W.xM [W.hO false VO, W.hT false]) W.sM (some ⟨w3.heap.size, 0, none⟩) r.length (W.rM r) cb A (w3.alloc (.cells #[.int .i64 (x0 : Int), .int .i64 (x1 : Int), .int .i64 (x2 : Int), .int .i64 (x3 : Int), .int .i64 (x4 : Int), .int .i64 (x5 : Int), .int .i64 (x6 : Int), .int .i64 (x7 : Int)] 41)) := fun w3 h3 r x0 x1 x2 x3 x4 x5 x6 x7 e hc => by
    have al3 := h3.alloc h3.size (.cells #[.int .i64 (x0 : Int), .int .i64 (x1 : Int), .int .i64 (x2 : Int), .int .i64 (x3 : Int), .int .i64 (x4 : Int), .int .i64 (x5 : Int), .int .i64 (x6 : Int), .int .i64 (x7 : Int)] 41)
    subst e
    exact (M2.below al3).ck 2 (by simp) (or_4 w3 x0 x1 x2 x3 x4 x5 x6 x7 41) (hF.below al3) (S2.below al3) hc vl
  have uE := W.uphE false VO
  rw [Bool.and_eq_true] at uE
  have okE := fun w3 h3 => check2_ok hbk 2 2 _ _ _ _ _ _ _ 4 _ cb A _ (mem w3 h3 (W.rE false false) 0 1 1 0 1 1 0 0 rfl (W.ckhE false false VO)) (W.tuhE false false VO) 5 rfl 5 rfl (fun p hp => (W.okRb_iff _ _).1 (W.upB_1 uE.1 p hp)) (fun h => absurd h (by decide)) (fun p hp => (W.okPb_iff _ _).1 (W.upB_1 uE.2 p hp)) (fun h => absurd h (by decide))
  have uF := W.uphF false VO
  rw [Bool.and_eq_true] at uF
  have okF := fun w3 h3 => check2_ok hbk 2 2 _ _ _ _ _ _ _ 4 _ cb A _ (mem w3 h3 (W.rF false false) 1 1 0 0 0 1 1 0 rfl (W.ckhF false false VO)) (W.tuhF false false VO) 5 rfl 5 rfl (fun p hp => (W.okRb_iff _ _).1 (W.upB_1 uF.1 p hp)) (fun h => absurd h (by decide)) (fun p hp => (W.okPb_iff _ _).1 (W.upB_1 uF.2 p hp)) (fun h => absurd h (by decide))
  have H2 : Hid (_ ∧ _ ∧ _ ∧ _) := ⟨okE, okF, B2, S2⟩
  clear okE okF B2 S2 M2 hF bb hcb HM mem vl uE uF
  generalize fvZ cb = FV at *
  go_wp2_with (fail)
  refine (H2.out.1 _ (Below.refl _ _)).mono ?_
  rintro e x3 ⟨rfl, b3⟩
  have b4 := ((Below.refl x2.heap.size x2).alloc (Nat.le_refl _) _).trans (b3.mono (by simp))
  clear b3
  go_wp2_with (fail)
  refine (H2.out.2.1 _ b4).mono ?_
  rintro e x5 ⟨rfl, b5⟩
  have b5' := ((Below.refl x3.heap.size x3).alloc (Nat.le_refl _) _).trans (b5.mono (by simp))
  have b6 := b4.trans (b5'.mono b4.size)
  have B6 := H2.out.2.2.1.trans (b6.mono H2.out.2.2.1.size)
  have S6 := H2.out.2.2.2.below b6
  have HQ : Hid (_ ∧ _) := ⟨B6, S6⟩
  clear B6 S6 b4 b5 b5' b6 H2
  have BZ := HQ.out.1
  clear HQ
  go_wp2
  go_ret
  exact ⟨rfl, BZ⟩
set_option maxRecDepth 10000 in
set_option maxHeartbeats 1600000 in
theorem hands_01 (A : Nat → Addr) (v : Int) (v0 : 0 ≤ v) (v1 : v < 4294967296) (w : World) (hS : Sent A w) :
    Calls Tryd.prog 5 #[.bool false, .bool true, .int .u32 v] w fun e w' => e = .returned (.bool true) ∧ Below w.heap.size w w' := by
  have q1 := bdO_wv
  have q2 := bdO_wa
  have q3 := bdO_ra
  have q4 := bdO_r0
  have q5 := bdO_b
  have q6 := bsO_1
  have bd := or32_bd v 1
  obtain ⟨VO, eVO⟩ : ∃ VO, bits .or .u32 v 1 = VO := ⟨_, rfl⟩
  rw [eVO] at bd
  have HH : Hid (Calls _ _ _ _ _ ∧ _ ∧ _) := ⟨first14_any A w hS, hS, bd⟩
  clear hS bd
  go_enter Tryd.func5, Tryd.ntmps5
  go_wp2_with (fail)
  refine HH.out.1.mono ?_
  rintro e w1 ⟨rfl, bw1⟩
  have HT : Hid _ := tw2_new w w1 bw1 (W.oW 4 0 VO) (W.oR 4 4 1)
  have HZ : Hid (((w1.alloc (.cells (opsR [W.oW 4 0 VO]) 38)).alloc (.cells (opsR [W.oR 4 4 1]) 38)).heap.size = w1.heap.size + 1 + 1) := by
    show _ = _
    simp
  clear bw1
  go_wp2_with (at_builtin; refine app_two rfl _ _ rfl w _ _ _ _ _ (W.opB 1 1) 2 rfl HT.out rfl (w1.heap.size + 1 + 1) HZ.out rfl (by simp) ?_)
  intro g2 c2 w2 T2
  have HT2 : Hid _ := T2
  clear T2
  clear HT HZ
  go_wp2_with (at_builtin; refine app_one rfl _ _ rfl w _ _ _ _ _ (W.oW 4 4 1) 2 rfl HT2.out rfl w2.heap.size rfl rfl (by simp) ?_)
  intro g3 c3 w3 T3
  have HT3 : Hid _ := T3
  clear T3
  clear HT2
  go_wp2_with (at_builtin; refine app_two rfl _ _ rfl w _ _ _ _ _ (W.oR 4 0 0) 3 rfl HT3.out rfl w3.heap.size rfl rfl (by simp) ?_)
  intro g4 c4 w4 T4
  have HT4 : Hid _ := T4
  clear T4
  clear HT3
  have M0 : Mg w4.heap.size (W.hO false VO) (W.hT true) g3 g4 c3 c4 _ := HT4.out.mg rfl rfl (by decide) (by decide) 34
  have BM := HT4.out.bl.alloc HT4.out.bl.size (.cells #[.slice (some ⟨g3, 0, none⟩) 2 c3, .slice (some ⟨g4, 0, none⟩) 3 c4] 34)
  have HM : Hid (_ ∧ _ ∧ _ ∧ _) := ⟨M0, BM, HH.out.2.1.below BM, HH.out.2.2⟩
  clear M0 BM HT4 HH
  go_wp2_with (fail)
  generalize World.alloc _ _ = W1 at *
  generalize w4.heap.size = hbk at *
  refine (bytesOf_nil W1).mono ?_
  rintro e x2 ⟨⟨cb, rfl, hcb, hF⟩, bb⟩
  have B2 := HM.out.2.1.trans (bb.mono HM.out.2.1.size)
  have M2 := HM.out.1.below bb
  have S2 := HM.out.2.2.1.below bb
  have vl := W.vlh false true VO HM.out.2.2.2.1 HM.out.2.2.2.2
  have mem : ∀ w3, Below x2.heap.size x2 w3 → ∀ r : List (Nat × Nat), ∀ x0 x1 x2 x3 x4 x5 x6 x7 : Nat, r = [(x0, x1), (x2, x3), (x4, x5), (x6, x7)] → W.ckE [W.hO false VO, W.hT true] r = true → Ck2 hbk 2 2 (fun h => some ⟨p2 g3 g4 h, 0, none⟩) (W.nM [W.hO false VO, W.hT true]) (p2 c3 c4) (W.xM [W.hO false VO, W.hT true]) W.sM (some ⟨w3.heap.size, 0, none⟩) r.length (W.rM r) cb A (w3.alloc (.cells #[.int .i64 (x0 : Int), .int .i64 (x1 : Int), .int .i64 (x2 : Int), .int .i64 (x3 : Int), .int .i64 (x4 : Int), .int .i64 (x5 : Int), .int .i64 (x6 : Int), .int .i64 (x7 : Int)] 41)) := fun w3 h3 r x0 x1 x2 x3 x4 x5 x6 x7 e hc => by
    have al3 := h3.alloc h3.size (.cells #[.int .i64 (x0 : Int), .int .i64 (x1 : Int), .int .i64 (x2 : Int), .int .i64 (x3 : Int), .int .i64 (x4 : Int), .int .i64 (x5 : Int), .int .i64 (x6 : Int), .int .i64 (x7 : Int)] 41)
    subst e
    exact (M2.below al3).ck 2 (by simp) (or_4 w3 x0 x1 x2 x3 x4 x5 x6 x7 41) (hF.below al3) (S2.below al3) hc vl
  have uE := W.uphE true VO
  rw [Bool.and_eq_true] at uE
  have okE := fun w3 h3 => check2_ok hbk 2 2 _ _ _ _ _ _ _ 4 _ cb A _ (mem w3 h3 (W.rE false true) 0 1 1 0 1 2 0 0 rfl (W.ckhE false true VO)) (W.tuhE false true VO) 5 rfl 5 rfl (fun p hp => (W.okRb_iff _ _).1 (W.upB_1 uE.1 p hp)) (fun h => absurd h (by decide)) (fun p hp => (W.okPb_iff _ _).1 (W.upB_1 uE.2 p hp)) (fun h => absurd h (by decide))
  have okF := fun w3 h3 => check2_tur hbk 2 2 _ _ _ _ _ _ _ 4 _ cb A _ (mem w3 h3 (W.rF false true) 1 2 0 0 0 1 1 0 rfl (W.ckhF false true VO)) 4 (by decide) (by decide) (W.tuhF false true VO)
  have H2 : Hid (_ ∧ _ ∧ _ ∧ _) := ⟨okE, okF, B2, S2⟩
  clear okE okF B2 S2 M2 hF bb hcb HM mem vl uE
  generalize fvZ cb = FV at *
  go_wp2_with (fail)
  refine (H2.out.1 _ (Below.refl _ _)).mono ?_
  rintro e x3 ⟨rfl, b3⟩
  have b4 := ((Below.refl x2.heap.size x2).alloc (Nat.le_refl _) _).trans (b3.mono (by simp))
  clear b3
  go_wp2_with (fail)
  refine (H2.out.2.1 _ b4).mono ?_
  rintro e x5 ⟨⟨qf, rfl, hqf⟩, b5⟩
  have b5' := ((Below.refl x3.heap.size x3).alloc (Nat.le_refl _) _).trans (b5.mono (by simp))
  have b6 := b4.trans (b5'.mono b4.size)
  have B6 := H2.out.2.2.1.trans (b6.mono H2.out.2.2.1.size)
  have S6 := H2.out.2.2.2.below b6
  have HQ : Hid (_ ∧ _ ∧ _) := ⟨B6, S6, hqf⟩
  clear B6 S6 b4 b5 b5' b6 H2 hqf
  have pl : ∀ w, Calls Tryd.prog 16 #[.int .i64 110, .int .i64 3] w _ := fun w => placed_any 9 3 w
  have HP : Hid _ := pl
  clear pl
  go_wp2_with (fail)
  refine (HP.out _).mono ?_
  rintro e y0a ⟨rfl, b7, hc7, hl7⟩
  have t7 := b7
  have hq7 := (t7.block qf (Array.getElem?_eq_some_iff.1 HQ.out.2.2).1).trans HQ.out.2.2
  have sm := same_at A 9 (by decide) qf (x5.heap.size + 1) 3 y0a (HQ.out.2.1.below t7) hq7 hc7
  have HS0 : Hid (Calls _ _ _ _ _ ∧ _) := ⟨sm, t7⟩
  clear sm hq7 hc7 hl7 b7 t7
  go_wp2_with (fail)
  refine HS0.out.1.mono ?_
  rintro e y0b ⟨rfl, b8⟩
  have A0 : Hid _ := HS0.out.2.trans (b8.mono HS0.out.2.size)
  clear b8 HS0
  have BZ := HQ.out.1.trans (A0.out.mono HQ.out.1.size)
  clear HQ HP A0
  go_wp2
  go_ret
  exact ⟨rfl, BZ⟩
set_option maxRecDepth 10000 in
set_option maxHeartbeats 1600000 in
theorem hands_10 (A : Nat → Addr) (v : Int) (v0 : 0 ≤ v) (v1 : v < 4294967296) (w : World) (hS : Sent A w) :
    Calls Tryd.prog 5 #[.bool true, .bool false, .int .u32 v] w fun e w' => e = .returned (.bool true) ∧ Below w.heap.size w w' := by
  have q1 := bdO_wv
  have q2 := bdO_wa
  have q3 := bdO_ra
  have q4 := bdO_r0
  have q5 := bdO_b
  have q6 := bsO_1
  have bd := or32_bd v 1
  obtain ⟨VO, eVO⟩ : ∃ VO, bits .or .u32 v 1 = VO := ⟨_, rfl⟩
  rw [eVO] at bd
  have HH : Hid (Calls _ _ _ _ _ ∧ _ ∧ _) := ⟨first14_any A w hS, hS, bd⟩
  clear hS bd
  go_enter Tryd.func5, Tryd.ntmps5
  go_wp2_with (fail)
  refine HH.out.1.mono ?_
  rintro e w1 ⟨rfl, bw1⟩
  have HT : Hid _ := tw2_new w w1 bw1 (W.oW 4 0 VO) (W.oR 4 4 1)
  have HZ : Hid (((w1.alloc (.cells (opsR [W.oW 4 0 VO]) 38)).alloc (.cells (opsR [W.oR 4 4 1]) 38)).heap.size = w1.heap.size + 1 + 1) := by
    show _ = _
    simp
  clear bw1
  go_wp2_with (at_builtin; refine app_one rfl _ _ rfl w _ _ _ _ _ (W.opB 2 2) 2 rfl HT.out rfl (w1.heap.size + 1 + 1) HZ.out rfl (by simp) ?_)
  intro g2 c2 w2 T2
  have HT2 : Hid _ := T2
  clear T2
  clear HT HZ
  go_wp2_with (at_builtin; refine app_one rfl _ _ rfl w _ _ _ _ _ (W.oW 4 4 1) 3 rfl HT2.out rfl w2.heap.size rfl rfl (by simp) ?_)
  intro g3 c3 w3 T3
  have HT3 : Hid _ := T3
  clear T3
  clear HT2
  go_wp2_with (at_builtin; refine app_two rfl _ _ rfl w _ _ _ _ _ (W.oR 4 0 0) 2 rfl HT3.out rfl w3.heap.size rfl rfl (by simp) ?_)
  intro g4 c4 w4 T4
  have HT4 : Hid _ := T4
  clear T4
  clear HT3
  have M0 : Mg w4.heap.size (W.hO true VO) (W.hT false) g3 g4 c3 c4 _ := HT4.out.mg rfl rfl (by decide) (by decide) 34
  have BM := HT4.out.bl.alloc HT4.out.bl.size (.cells #[.slice (some ⟨g3, 0, none⟩) 3 c3, .slice (some ⟨g4, 0, none⟩) 2 c4] 34)
  have HM : Hid (_ ∧ _ ∧ _ ∧ _) := ⟨M0, BM, HH.out.2.1.below BM, HH.out.2.2⟩
  clear M0 BM HT4 HH
  go_wp2_with (fail)
  generalize World.alloc _ _ = W1 at *
  generalize w4.heap.size = hbk at *
  refine (bytesOf_nil W1).mono ?_
  rintro e x2 ⟨⟨cb, rfl, hcb, hF⟩, bb⟩
  have B2 := HM.out.2.1.trans (bb.mono HM.out.2.1.size)
  have M2 := HM.out.1.below bb
  have S2 := HM.out.2.2.1.below bb
  have vl := W.vlh true false VO HM.out.2.2.2.1 HM.out.2.2.2.2
  have mem : ∀ w3, Below x2.heap.size x2 w3 → ∀ r : List (Nat × Nat), ∀ x0 x1 x2 x3 x4 x5 x6 x7 : Nat, r = [(x0, x1), (x2, x3), (x4, x5), (x6, x7)] → W.ckE [W.hO true VO, W.hT false] r = true → Ck2 hbk 2 2 (fun h => some ⟨p2 g3 g4 h, 0, none⟩) (W.nM [W.hO true VO, W.hT false]) (p2 c3 c4) (W.xM [W.hO true VO, W.hT false]) W.sM (some ⟨w3.heap.size, 0, none⟩) r.length (W.rM r) cb A (w3.alloc (.cells #[.int .i64 (x0 : Int), .int .i64 (x1 : Int), .int .i64 (x2 : Int), .int .i64 (x3 : Int), .int .i64 (x4 : Int), .int .i64 (x5 : Int), .int .i64 (x6 : Int), .int .i64 (x7 : Int)] 41)) := fun w3 h3 r x0 x1 x2 x3 x4 x5 x6 x7 e hc => by
    have al3 := h3.alloc h3.size (.cells #[.int .i64 (x0 : Int), .int .i64 (x1 : Int), .int .i64 (x2 : Int), .int .i64 (x3 : Int), .int .i64 (x4 : Int), .int .i64 (x5 : Int), .int .i64 (x6 : Int), .int .i64 (x7 : Int)] 41)
    subst e
    exact (M2.below al3).ck 2 (by simp) (or_4 w3 x0 x1 x2 x3 x4 x5 x6 x7 41) (hF.below al3) (S2.below al3) hc vl
  have okE := fun w3 h3 => check2_tur hbk 2 2 _ _ _ _ _ _ _ 4 _ cb A _ (mem w3 h3 (W.rE true false) 0 2 1 0 1 1 0 0 rfl (W.ckhE true false VO)) 4 (by decide) (by decide) (W.tuhE true false VO)
  have uF := W.uphF true VO
  rw [Bool.and_eq_true] at uF
  have okF := fun w3 h3 => check2_ok hbk 2 2 _ _ _ _ _ _ _ 4 _ cb A _ (mem w3 h3 (W.rF true false) 1 1 0 0 0 2 1 0 rfl (W.ckhF true false VO)) (W.tuhF true false VO) 5 rfl 5 rfl (fun p hp => (W.okRb_iff _ _).1 (W.upB_1 uF.1 p hp)) (fun h => absurd h (by decide)) (fun p hp => (W.okPb_iff _ _).1 (W.upB_1 uF.2 p hp)) (fun h => absurd h (by decide))
  have H2 : Hid (_ ∧ _ ∧ _ ∧ _) := ⟨okE, okF, B2, S2⟩
  clear okE okF B2 S2 M2 hF bb hcb HM mem vl uF
  generalize fvZ cb = FV at *
  go_wp2_with (fail)
  refine (H2.out.1 _ (Below.refl _ _)).mono ?_
  rintro e x3 ⟨⟨qe, rfl, hqe⟩, b3⟩
  have b4 := ((Below.refl x2.heap.size x2).alloc (Nat.le_refl _) _).trans (b3.mono (by simp))
  clear b3
  go_wp2_with (fail)
  refine (H2.out.2.1 _ b4).mono ?_
  rintro e x5 ⟨rfl, b5⟩
  have b5' := ((Below.refl x3.heap.size x3).alloc (Nat.le_refl _) _).trans (b5.mono (by simp))
  have b6 := b4.trans (b5'.mono b4.size)
  have B6 := H2.out.2.2.1.trans (b6.mono H2.out.2.2.1.size)
  have S6 := H2.out.2.2.2.below b6
  have hqe6 := (b5'.block qe (Array.getElem?_eq_some_iff.1 hqe).1).trans hqe
  have HQ : Hid (_ ∧ _ ∧ _) := ⟨B6, S6, hqe6⟩
  clear B6 S6 b4 b5 b5' b6 H2 hqe hqe6
  have pl : ∀ w, Calls Tryd.prog 16 #[.int .i64 110, .int .i64 3] w _ := fun w => placed_any 9 3 w
  have HP : Hid _ := pl
  clear pl
  go_wp2_with (fail)
  refine (HP.out _).mono ?_
  rintro e y0a ⟨rfl, b7, hc7, hl7⟩
  have t7 := b7
  have hq7 := (t7.block qe (Array.getElem?_eq_some_iff.1 HQ.out.2.2).1).trans HQ.out.2.2
  have sm := same_at A 9 (by decide) qe (x5.heap.size + 1) 3 y0a (HQ.out.2.1.below t7) hq7 hc7
  have HS0 : Hid (Calls _ _ _ _ _ ∧ _) := ⟨sm, t7⟩
  clear sm hq7 hc7 hl7 b7 t7
  go_wp2_with (fail)
  refine HS0.out.1.mono ?_
  rintro e y0b ⟨rfl, b8⟩
  have A0 : Hid _ := HS0.out.2.trans (b8.mono HS0.out.2.size)
  clear b8 HS0
  have BZ := HQ.out.1.trans (A0.out.mono HQ.out.1.size)
  clear HQ HP A0
  go_wp2
  go_ret
  exact ⟨rfl, BZ⟩
set_option maxRecDepth 10000 in
set_option maxHeartbeats 1600000 in
theorem hands_11 (A : Nat → Addr) (v : Int) (v0 : 0 ≤ v) (v1 : v < 4294967296) (w : World) (hS : Sent A w) :
    Calls Tryd.prog 5 #[.bool true, .bool true, .int .u32 v] w fun e w' => e = .returned (.bool true) ∧ Below w.heap.size w w' := by
  have q1 := bdO_wv
  have q2 := bdO_wa
  have q3 := bdO_ra
  have q4 := bdO_r0
  have q5 := bdO_b
  have q6 := bsO_1
  have bd := or32_bd v 1
  obtain ⟨VO, eVO⟩ : ∃ VO, bits .or .u32 v 1 = VO := ⟨_, rfl⟩
  rw [eVO] at bd
  have HH : Hid (Calls _ _ _ _ _ ∧ _ ∧ _) := ⟨first14_any A w hS, hS, bd⟩
  clear hS bd
  go_enter Tryd.func5, Tryd.ntmps5
  go_wp2_with (fail)
  refine HH.out.1.mono ?_
  rintro e w1 ⟨rfl, bw1⟩
  have HT : Hid _ := tw2_new w w1 bw1 (W.oW 4 0 VO) (W.oR 4 4 1)
  have HZ : Hid (((w1.alloc (.cells (opsR [W.oW 4 0 VO]) 38)).alloc (.cells (opsR [W.oR 4 4 1]) 38)).heap.size = w1.heap.size + 1 + 1) := by
    show _ = _
    simp
  clear bw1
  go_wp2_with (at_builtin; refine app_one rfl _ _ rfl w _ _ _ _ _ (W.opB 2 2) 2 rfl HT.out rfl (w1.heap.size + 1 + 1) HZ.out rfl (by simp) ?_)
  intro g2 c2 w2 T2
  have HT2 : Hid _ := T2
  clear T2
  clear HT HZ
  go_wp2_with (at_builtin; refine app_two rfl _ _ rfl w _ _ _ _ _ (W.opB 1 1) 2 rfl HT2.out rfl w2.heap.size rfl rfl (by simp) ?_)
  intro g3 c3 w3 T3
  have HT3 : Hid _ := T3
  clear T3
  clear HT2
  go_wp2_with (at_builtin; refine app_one rfl _ _ rfl w _ _ _ _ _ (W.oW 4 4 1) 3 rfl HT3.out rfl w3.heap.size rfl rfl (by simp) ?_)
  intro g4 c4 w4 T4
  have HT4 : Hid _ := T4
  clear T4
  clear HT3
  go_wp2_with (at_builtin; refine app_two rfl _ _ rfl w _ _ _ _ _ (W.oR 4 0 0) 3 rfl HT4.out rfl w4.heap.size rfl rfl (by simp) ?_)
  intro g5 c5 w5 T5
  have HT5 : Hid _ := T5
  clear T5
  clear HT4
  have M0 : Mg w5.heap.size (W.hO true VO) (W.hT true) g4 g5 c4 c5 _ := HT5.out.mg rfl rfl (by decide) (by decide) 34
  have BM := HT5.out.bl.alloc HT5.out.bl.size (.cells #[.slice (some ⟨g4, 0, none⟩) 3 c4, .slice (some ⟨g5, 0, none⟩) 3 c5] 34)
  have HM : Hid (_ ∧ _ ∧ _ ∧ _) := ⟨M0, BM, HH.out.2.1.below BM, HH.out.2.2⟩
  clear M0 BM HT5 HH
  go_wp2_with (fail)
  generalize World.alloc _ _ = W1 at *
  generalize w5.heap.size = hbk at *
  refine (bytesOf_nil W1).mono ?_
  rintro e x2 ⟨⟨cb, rfl, hcb, hF⟩, bb⟩
  have B2 := HM.out.2.1.trans (bb.mono HM.out.2.1.size)
  have M2 := HM.out.1.below bb
  have S2 := HM.out.2.2.1.below bb
  have vl := W.vlh true true VO HM.out.2.2.2.1 HM.out.2.2.2.2
  have mem : ∀ w3, Below x2.heap.size x2 w3 → ∀ r : List (Nat × Nat), ∀ x0 x1 x2 x3 x4 x5 x6 x7 : Nat, r = [(x0, x1), (x2, x3), (x4, x5), (x6, x7)] → W.ckE [W.hO true VO, W.hT true] r = true → Ck2 hbk 2 2 (fun h => some ⟨p2 g4 g5 h, 0, none⟩) (W.nM [W.hO true VO, W.hT true]) (p2 c4 c5) (W.xM [W.hO true VO, W.hT true]) W.sM (some ⟨w3.heap.size, 0, none⟩) r.length (W.rM r) cb A (w3.alloc (.cells #[.int .i64 (x0 : Int), .int .i64 (x1 : Int), .int .i64 (x2 : Int), .int .i64 (x3 : Int), .int .i64 (x4 : Int), .int .i64 (x5 : Int), .int .i64 (x6 : Int), .int .i64 (x7 : Int)] 41)) := fun w3 h3 r x0 x1 x2 x3 x4 x5 x6 x7 e hc => by
    have al3 := h3.alloc h3.size (.cells #[.int .i64 (x0 : Int), .int .i64 (x1 : Int), .int .i64 (x2 : Int), .int .i64 (x3 : Int), .int .i64 (x4 : Int), .int .i64 (x5 : Int), .int .i64 (x6 : Int), .int .i64 (x7 : Int)] 41)
    subst e
    exact (M2.below al3).ck 2 (by simp) (or_4 w3 x0 x1 x2 x3 x4 x5 x6 x7 41) (hF.below al3) (S2.below al3) hc vl
  have okE := fun w3 h3 => check2_tur hbk 2 2 _ _ _ _ _ _ _ 4 _ cb A _ (mem w3 h3 (W.rE true true) 0 2 1 0 1 2 0 0 rfl (W.ckhE true true VO)) 4 (by decide) (by decide) (W.tuhE true true VO)
  have okF := fun w3 h3 => check2_tur hbk 2 2 _ _ _ _ _ _ _ 4 _ cb A _ (mem w3 h3 (W.rF true true) 1 2 0 0 0 2 1 0 rfl (W.ckhF true true VO)) 4 (by decide) (by decide) (W.tuhF true true VO)
  have H2 : Hid (_ ∧ _ ∧ _ ∧ _) := ⟨okE, okF, B2, S2⟩
  clear okE okF B2 S2 M2 hF bb hcb HM mem vl
  generalize fvZ cb = FV at *
  go_wp2_with (fail)
  refine (H2.out.1 _ (Below.refl _ _)).mono ?_
  rintro e x3 ⟨⟨qe, rfl, hqe⟩, b3⟩
  have b4 := ((Below.refl x2.heap.size x2).alloc (Nat.le_refl _) _).trans (b3.mono (by simp))
  clear b3
  go_wp2_with (fail)
  refine (H2.out.2.1 _ b4).mono ?_
  rintro e x5 ⟨⟨qf, rfl, hqf⟩, b5⟩
  have b5' := ((Below.refl x3.heap.size x3).alloc (Nat.le_refl _) _).trans (b5.mono (by simp))
  have b6 := b4.trans (b5'.mono b4.size)
  have B6 := H2.out.2.2.1.trans (b6.mono H2.out.2.2.1.size)
  have S6 := H2.out.2.2.2.below b6
  have hqe6 := (b5'.block qe (Array.getElem?_eq_some_iff.1 hqe).1).trans hqe
  have HQ : Hid (_ ∧ _ ∧ _ ∧ _) := ⟨B6, S6, hqe6, hqf⟩
  clear B6 S6 b4 b5 b5' b6 H2 hqe hqe6 hqf
  have pl : ∀ w, Calls Tryd.prog 16 #[.int .i64 110, .int .i64 3] w _ := fun w => placed_any 9 3 w
  have HP : Hid _ := pl
  clear pl
  go_wp2_with (fail)
  refine (HP.out _).mono ?_
  rintro e y0a ⟨rfl, b7, hc7, hl7⟩
  have t7 := b7
  have hq7 := (t7.block qe (Array.getElem?_eq_some_iff.1 HQ.out.2.2.1).1).trans HQ.out.2.2.1
  have sm := same_at A 9 (by decide) qe (x5.heap.size + 1) 3 y0a (HQ.out.2.1.below t7) hq7 hc7
  have HS0 : Hid (Calls _ _ _ _ _ ∧ _) := ⟨sm, t7⟩
  clear sm hq7 hc7 hl7 b7 t7
  go_wp2_with (fail)
  refine HS0.out.1.mono ?_
  rintro e y0b ⟨rfl, b8⟩
  have A0 : Hid _ := HS0.out.2.trans (b8.mono HS0.out.2.size)
  clear b8 HS0
  go_wp2_with (fail)
  refine (HP.out _).mono ?_
  rintro e y1a ⟨rfl, b7, hc7, hl7⟩
  have t7 := A0.out.trans (b7.mono A0.out.size)
  have hq7 := (t7.block qf (Array.getElem?_eq_some_iff.1 HQ.out.2.2.2).1).trans HQ.out.2.2.2
  have sm := same_at A 9 (by decide) qf (y0b.heap.size + 1) 3 y1a (HQ.out.2.1.below t7) hq7 hc7
  have HS1 : Hid (Calls _ _ _ _ _ ∧ _) := ⟨sm, t7⟩
  clear sm hq7 hc7 hl7 b7 t7
  go_wp2_with (fail)
  refine HS1.out.1.mono ?_
  rintro e y1b ⟨rfl, b8⟩
  have A1 : Hid _ := HS1.out.2.trans (b8.mono HS1.out.2.size)
  clear b8 HS1
  have BZ := HQ.out.1.trans (A1.out.mono HQ.out.1.size)
  clear HQ HP A0 A1
  go_wp2
  go_ret
  exact ⟨rfl, BZ⟩
theorem hands_any (A : Nat → Addr) (a b : Bool) (v : Int) (v0 : 0 ≤ v) (v1 : v < 4294967296) (w : World) (hS : Sent A w) :
    Calls Tryd.prog 5 #[.bool a, .bool b, .int .u32 v] w fun e w' => e = .returned (.bool true) ∧ Below w.heap.size w w' := by
  cases a <;> cases b
  · exact hands_00 A v v0 v1 w hS
  · exact hands_01 A v v0 v1 w hS
  · exact hands_10 A v v0 v1 w hS
  · exact hands_11 A v v0 v1 w hS
end Go.Proofs.YtibohlbkkaghkaaDoor
