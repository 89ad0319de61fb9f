/- Operations of a law's own. -/
import Derived.Test.YtibohlbkkaghkaaDoorPpoR
import Derived.Deep.WholeRow
namespace Go.Proofs.YtibohlbkkaghkaaDoor
open Go.ChangeShapes Go.WideShapes Go.ChangeAt Go.RowKit
set_option linter.unusedVariables false
set_option linter.unusedSimpArgs false

structure S3 where
  a : W.Sl
  d : W.Sl
  c : W.Sl
def S3.nil : S3 := ⟨W.Sl.nil, W.Sl.nil, W.Sl.nil⟩
def opF (x : Nat → W.Oz) (S : Nat → S3) (i : Nat) : Value := match i % 13 with
  | 0 => .int .i64 (x (i / 13)).o.k
  | 1 => .int .i64 (x (i / 13)).o.sz
  | 2 => .int .u32 (x (i / 13)).o.ad
  | 3 => .int .u32 (x (i / 13)).o.vl
  | 4 => .int .u32 (x (i / 13)).o.gt
  | 5 => .bool (x (i / 13)).o.pr
  | 6 => .bool (x (i / 13)).o.aq
  | 7 => .bool (x (i / 13)).o.rl
  | 8 => .int .i64 (x (i / 13)).o.pd
  | 9 => .int .i64 (x (i / 13)).o.sc
  | 10 => slV (S (i / 13)).a
  | 11 => slV (S (i / 13)).d
  | _ => slV (S (i / 13)).c
/-- A list that lies in memory, not in block g. -/
structure Lg (g : Nat) (s : W.Sl) (l : List Int) (w : World) : Prop where
  li : Li s l w
  ap : ∀ b o, 0 < s.n → s.a = some ⟨b, o, none⟩ → b ≠ g
theorem Lg.below {g : Nat} {s : W.Sl} {l : List Int} {w w' : World} (h : Lg g s l w) (hb : Below w.heap.size w w') : Lg g s l w' := ⟨h.li.below hb, h.ap⟩
theorem Lg.set {g : Nat} {s : W.Sl} {l : List Int} {w : World} (h : Lg g s l w) (k : Nat) (v : Value) : Lg g s l (w.setCell ⟨g, k, none⟩ v) := ⟨h.li.set g k v h.ap, h.ap⟩
theorem lg_nil (g : Nat) (w : World) : Lg g W.Sl.nil [] w := ⟨li_nil w, fun b o h => absurd h (by decide)⟩
/-- Operations in a block of one's own. -/
structure Ow (g n : Nat) (x : Nat → W.Oz) (S : Nat → S3) (w : World) : Prop where
  b : Bc g (n * 13) (opF x S) w
  a : ∀ j, j < n → Lg g (S j).a (x j).a w
  d : ∀ j, j < n → Lg g (S j).d (x j).d w
  c : ∀ j, j < n → Lg g (S j).c (x j).c w
theorem Ow.below {g n : Nat} {x : Nat → W.Oz} {S : Nat → S3} {w w' : World} (h : Ow g n x S w) (hb : Below w.heap.size w w') : Ow g n x S w' :=
  ⟨h.b.below hb, fun j hj => (h.a j hj).below hb, fun j hj => (h.d j hj).below hb, fun j hj => (h.c j hj).below hb⟩
theorem Ow.cell {g n : Nat} {x : Nat → W.Oz} {S : Nat → S3} {w : World} (h : Ow g n x S w) (j k : Nat) (hj : j < n) (hk : k < 13) : w.cell? ⟨g, j * 13 + k, none⟩ = some (opF x S (j * 13 + k)) := h.b.c _ (by omega)
theorem Ow.oz {g n : Nat} {x : Nat → W.Oz} {S : Nat → S3} {w : World} (h : Ow g n x S w) (j : Nat) (hj : j < n) : OzAt g (0 + j * 13) (x j) w := by
  have q := fun k hk => h.cell j k hj hk
  have m : ∀ k, k < 13 → (j * 13 + k) % 13 = k := fun k hk => by omega
  have d : ∀ k, k < 13 → (j * 13 + k) / 13 = j := fun k hk => by omega
  have q0 := q 0 (by decide)
  have q1 := q 1 (by decide)
  have q2 := q 2 (by decide)
  have q5 := q 5 (by decide)
  have q6 := q 6 (by decide)
  have q7 := q 7 (by decide)
  have q8 := q 8 (by decide)
  have q9 := q 9 (by decide)
  have q10 := q 10 (by decide)
  have q11 := q 11 (by decide)
  have q12 := q 12 (by decide)
  unfold opF at q0 q1 q2 q5 q6 q7 q8 q9 q10 q11 q12
  rw [m _ (by decide), d _ (by decide)] at q0 q1 q2 q5 q6 q7 q8 q9 q10 q11 q12
  rw [Nat.zero_add]
  exact ⟨⟨h.b.lt, q0, q1, q2, q5, q6, q7⟩, q8, q9, ⟨_, q10, (h.a j hj).li⟩, ⟨_, q11, (h.d j hj).li⟩, ⟨_, q12, (h.c j hj).li⟩⟩
theorem Ow.ol {g n : Nat} {x : Nat → W.Oz} {S : Nat → S3} {w : World} (h : Ow g n x S w) : Ol (some ⟨g, 0, none⟩) n x w := ⟨fun _ => ⟨g, 0, rfl, fun j hj => h.oz j hj⟩⟩
/-- One of them written over. -/
def updX (x : Nat → W.Oz) (j : Nat) (z : W.Oz) : Nat → W.Oz := fun i => if i = j then z else x i
def updS (S : Nat → S3) (j : Nat) (s : S3) : Nat → S3 := fun i => if i = j then s else S i
theorem opF_upd (x : Nat → W.Oz) (S : Nat → S3) (j k : Nat) (hk : k < 13) (z : W.Oz) (s : S3) (v : Value) (hv : opF (fun _ => z) (fun _ => s) k = v) (he : ∀ i, i < 13 → i ≠ k → opF (fun _ => z) (fun _ => s) i = opF (fun _ => x j) (fun _ => S j) i) (i : Nat) : updV (opF x S) (j * 13 + k) v i = opF (updX x j z) (updS S j s) i := by
  have hc : ∀ (y : Nat → W.Oz) (U : Nat → S3) i, opF y U i = opF (fun _ => y (i / 13)) (fun _ => U (i / 13)) (i % 13) := fun y U i => by
    unfold opF
    rw [Nat.mod_mod]
  have h1 : ∀ (y : W.Oz) (u : S3) i, opF (fun _ => y) (fun _ => u) (i % 13) = opF (fun _ => y) (fun _ => u) (i % 13) := fun _ _ _ => rfl
  unfold updV
  rw [hc (updX x j z) (updS S j s) i]
  unfold updX updS
  by_cases e : i / 13 = j
  · rw [if_pos e, if_pos e]
    by_cases e2 : i % 13 = k
    · rw [if_pos (by omega), e2, hv]
    · rw [if_neg (by omega), hc x S i, e, he (i % 13) (by omega) e2]
  · rw [if_neg e, if_neg e, if_neg (by omega), hc x S i]
theorem Ow.upd {g n : Nat} {x : Nat → W.Oz} {S : Nat → S3} {w : World} (h : Ow g n x S w) (j k : Nat) (hk : k < 13) (z : W.Oz) (s : S3) (v : Value) (hv : opF (fun _ => z) (fun _ => s) k = v) (he : ∀ i, i < 13 → i ≠ k → opF (fun _ => z) (fun _ => s) i = opF (fun _ => x j) (fun _ => S j) i) (la : Lg g s.a z.a w) (ld : Lg g s.d z.d w) (lc : Lg g s.c z.c w) : Ow g n (updX x j z) (updS S j s) (w.setCell ⟨g, j * 13 + k, none⟩ v) := by
  refine ⟨(h.b.set _ v).congr fun i _ => opF_upd x S j k hk z s v hv he i, fun i hi => ?_, fun i hi => ?_, fun i hi => ?_⟩
  · unfold updX updS
    by_cases e : i = j
    · rw [if_pos e, if_pos e]; exact la.set _ _
    · rw [if_neg e, if_neg e]; exact (h.a i hi).set _ _
  · unfold updX updS
    by_cases e : i = j
    · rw [if_pos e, if_pos e]; exact ld.set _ _
    · rw [if_neg e, if_neg e]; exact (h.d i hi).set _ _
  · unfold updX updS
    by_cases e : i = j
    · rw [if_pos e, if_pos e]; exact lc.set _ _
    · rw [if_neg e, if_neg e]; exact (h.c i hi).set _ _
/-- A plain operation. -/
def W.op3 (k sz ad : Int) : W.Opr := ⟨k, sz, ad, 0, 0, false, false, false, 0, 0⟩
def W.oz0 (o : W.Opr) : W.Oz := ⟨o, [], [], []⟩
def opN (o : W.Opr) : Array Value := opC o W.Sl.nil W.Sl.nil W.Sl.nil
theorem opN_get (o : W.Opr) (k : Nat) (hk : k < 13) (x : Nat → W.Oz) (S : Nat → S3) (j : Nat) (hx : x j = W.oz0 o) (hS : S j = S3.nil) : (opN o)[k]? = some (opF x S (j * 13 + k)) := by
  have m : (j * 13 + k) % 13 = k := by omega
  have d : (j * 13 + k) / 13 = j := by omega
  unfold opF
  rw [m, d, hx, hS]
  match k, hk with
  | 0, _ => rfl
  | 1, _ => rfl
  | 2, _ => rfl
  | 3, _ => rfl
  | 4, _ => rfl
  | 5, _ => rfl
  | 6, _ => rfl
  | 7, _ => rfl
  | 8, _ => rfl
  | 9, _ => rfl
  | 10, _ => rfl
  | 11, _ => rfl
  | 12, _ => rfl
/-- Rows of plain operations. -/
def opsR : List W.Opr → Array Value
  | [] => #[]
  | o :: l => opN o ++ opsR l
theorem opsR_get : ∀ (l : List W.Opr) (j k : Nat) (o : W.Opr), l[j]? = some o → k < 13 → (opsR l)[j * 13 + k]? = (opN o)[k]?
  | [], j, k, o, h, _ => by simp at h
  | z :: l, 0, k, o, h, hk => by
    have e : z = o := by simpa using h
    subst e
    show (opN z ++ opsR l)[0 * 13 + k]? = _
    rw [Nat.zero_mul, Nat.zero_add, Array.getElem?_append_left (by show k < 13; exact hk)]
  | z :: l, j + 1, k, o, h, hk => by
    show (opN z ++ opsR l)[(j + 1) * 13 + k]? = _
    have hs : (opN z).size = 13 := rfl
    rw [Array.getElem?_append_right (by omega), hs, show (j + 1) * 13 + k - 13 = j * 13 + k by omega]
    exact opsR_get l j k o (by simpa using h) hk
theorem ow_row {w : World} {g : Nat} (l : List W.Opr) (T : TypeId) (hh : w.heap[g]? = some (.cells (opsR l) T)) (x : Nat → W.Oz) (hx : ∀ j o, l[j]? = some o → x j = W.oz0 o) : Ow g l.length x (fun _ => S3.nil) w := by
  have hl : ∀ j (hj : j < l.length), x j = W.oz0 l[j] := fun j hj => hx j _ (List.getElem?_eq_getElem hj)
  refine ⟨⟨(Array.getElem?_eq_some_iff.1 hh).1, fun i hi => (cell_of_row _ _ i _ T (0, 0) hh).trans ?_, fun j => by unfold World.frozen?; rw [hh]; simp⟩, fun j hj => ?_, fun j hj => ?_, fun j hj => ?_⟩
  · have hj : i / 13 < l.length := by omega
    have e : l[i / 13]? = some l[i / 13] := List.getElem?_eq_getElem hj
    have q := opsR_get l (i / 13) (i % 13) _ e (by omega)
    rw [show i / 13 * 13 + i % 13 = i by omega] at q
    rw [q, opN_get _ (i % 13) (by omega) x (fun _ => S3.nil) (i / 13) (hx _ _ e) rfl, show i / 13 * 13 + i % 13 = i by omega]
  · rw [hl j hj]; exact lg_nil _ _
  · rw [hl j hj]; exact lg_nil _ _
  · rw [hl j hj]; exact lg_nil _ _
/-- The laws' words for whole operations. -/
def bdO (l : Array (Nat × Value)) : Sem Value := Instr.build 38 l
theorem bdO_eq (l : Array (Nat × Value)) : Instr.build 38 l = bdO l := rfl
def bsO (n : Nat) (l : Array (Nat × Value)) : Sem Value := Instr.buildSlice 34 n l
theorem bsO_eq (n : Nat) (l : Array (Nat × Value)) : Instr.buildSlice 34 n l = bsO n l := rfl
def ldO (a : Addr) : Sem Value := loadVar 38 a
theorem ldO_eq (a : Addr) : loadVar 38 a = ldO a := rfl
theorem bdO_2 (k sz : Int) (w : World) : (bdO #[(0, .int .i64 k), (1, .int .i64 sz)]).run Tryd.prog w = .ok (.agg (opN (W.op3 k sz 0))) w := by kernel_rfl
theorem bdO_3 (k sz ad : Int) (w : World) : (bdO #[(0, .int .i64 k), (1, .int .i64 sz), (2, .int .u32 ad)]).run Tryd.prog w = .ok (.agg (opN (W.op3 k sz ad))) w := by kernel_rfl
def W.opB (p s : Int) : W.Opr := ⟨4, 0, 0, 0, 0, false, false, false, p, s⟩
theorem bdO_b (p s : Int) (w : World) : (bdO #[(0, .int .i64 4), (8, .int .i64 p), (9, .int .i64 s)]).run Tryd.prog w = .ok (.agg (opN (W.opB p s))) w := by kernel_rfl
theorem bsO_1 (a : W.Opr) (w : World) : (bsO 1 #[(0, .agg (opN a))]).run Tryd.prog w = .ok (.slice (some ⟨w.heap.size, 0, none⟩) 1 1) (w.alloc (.cells (opsR [a]) 38)) := by kernel_rfl
theorem bsO_2 (a b : W.Opr) (w : World) : (bsO 2 #[(0, .agg (opN a)), (1, .agg (opN b))]).run Tryd.prog w = .ok (.slice (some ⟨w.heap.size, 0, none⟩) 2 2) (w.alloc (.cells (opsR [a, b]) 38)) := by kernel_rfl
theorem bsO_3 (a b c : W.Opr) (w : World) : (bsO 3 #[(0, .agg (opN a)), (1, .agg (opN b)), (2, .agg (opN c))]).run Tryd.prog w = .ok (.slice (some ⟨w.heap.size, 0, none⟩) 3 3) (w.alloc (.cells (opsR [a, b, c]) 38)) := by kernel_rfl
theorem ldO_row {w : World} {g : Nat} (l : List W.Opr) (T : TypeId) (hh : w.heap[g]? = some (.cells (opsR l) T)) (j : Nat) (o : W.Opr) (ho : l[j]? = some o) : (ldO ⟨g, j * 13, none⟩).run Tryd.prog w = .ok (.agg (opN o)) w := by
  have hl := run_loadCells_list (P := Tryd.prog) w ⟨g, j * 13, none⟩ (opN o).toList (fun k v hv => by
    have hadd : (⟨g, j * 13, none⟩ : Addr).add k = ⟨g, j * 13 + k, none⟩ := by unfold Addr.add; split <;> simp_all
    have hk : k < 13 := by
      have := (List.getElem?_eq_some_iff.1 hv).1
      exact this
    rw [hadd, cell_of_row _ _ (j * 13 + k) _ T (0, 0) hh, opsR_get l j k o ho hk]
    simpa using hv)
  simp only [Array.length_toList, Array.toArray_toList] at hl
  have ha : (isAgg 38).run Tryd.prog w = .ok true w := by simp [go_sem]
  have hz : (sizeOf 38).run Tryd.prog w = .ok (opN o).size w := by simp [go_sem, opN, opC]
  unfold ldO
  have hs : (opN o).size = 13 := rfl
  rw [hs] at hl hz
  simp [loadVar, Sem.run_bind, ha, hz, hl]
end Go.Proofs.YtibohlbkkaghkaaDoor
