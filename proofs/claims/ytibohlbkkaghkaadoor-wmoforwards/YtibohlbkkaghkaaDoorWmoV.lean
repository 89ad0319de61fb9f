/- wmo: the laws' first. -/
import Derived.Test.YtibohlbkkaghkaaDoorWmoU
namespace Go.Proofs.YtibohlbkkaghkaaDoor
open Go.ChangeShapes Go.WideShapes Go.ChangeAt Go.RowKit Go.Maps
set_option linter.unusedVariables false
set_option linter.unusedSimpArgs false

namespace W
def oW (sz ad vl : Int) : Opr := ⟨2, sz, ad, vl, 0, false, false, false, 0, 0⟩
def oR (sz ad gt : Int) : Opr := ⟨1, sz, ad, 0, gt, false, false, false, 0, 0⟩
def LLf : List (List Opr) := [[oW 4 0 1], [oR 4 0 1]]
theorem ck_f1 : ckB LLf [(0, 0), (1, 0)] 3 3 = true := by decide +kernel
theorem ck_f2 : ckB LLf [(1, 0), (0, 0)] 1 3 = true := by decide +kernel
theorem vl_f : ∀ h i, 0 ≤ (xM LLf h i).o.vl ∧ (xM LLf h i).o.vl < 4294967296 := by
  intro h i
  match h with
  | 0 => match i with
    | 0 => decide
    | i + 1 => simp [xM, ozM, LLf, oz0, op3]
  | 1 => match i with
    | 0 => decide
    | i + 1 => simp [xM, ozM, LLf, oz0, op3]
  | h + 2 => simp [xM, ozM, LLf, oz0, op3]
end W
/-- Harts in memory, written out. -/
structure Mh (b : Nat) (LL : List (List W.Opr)) (gs : Nat → Nat) (w : World) : Prop where
  bl : b < w.heap.size
  o : ∀ h, h < LL.length → w.cell? ⟨b, h, none⟩ = some (.slice (some ⟨gs h, 0, none⟩) (W.nM LL h) (W.nM LL h))
  i : ∀ h, h < LL.length → w.heap[gs h]? = some (.cells (opsR (LL.getD h [])) 38)
theorem Mh.below {b : Nat} {LL : List (List W.Opr)} {gs : Nat → Nat} {w w' : World} (h : Mh b LL gs w) (hb : Below w.heap.size w w') : Mh b LL gs w' :=
  ⟨Nat.lt_of_lt_of_le h.bl hb.size, fun j hj => (hb.cell (p := ⟨b, j, none⟩) h.bl).trans (h.o j hj), fun j hj => (hb.block _ (Array.getElem?_eq_some_iff.1 (h.i j hj)).1).trans (h.i j hj)⟩
theorem three (w : World) (X Y Z : Obj) : (((w.alloc X).alloc Y).alloc Z).heap[w.heap.size]? = some X ∧ (((w.alloc X).alloc Y).alloc Z).heap[w.heap.size + 1]? = some Y ∧ (((w.alloc X).alloc Y).alloc Z).heap[w.heap.size + 1 + 1]? = some Z := by
  refine ⟨?_, ?_, ?_⟩
  · show (((w.heap.push X).push Y).push Z)[w.heap.size]? = _; rw [Array.getElem?_push, Array.getElem?_push, Array.getElem?_push]; simp; omega
  · show (((w.heap.push X).push Y).push Z)[w.heap.size + 1]? = _; rw [Array.getElem?_push, Array.getElem?_push]; simp
  · show (((w.heap.push X).push Y).push Z)[w.heap.size + 1 + 1]? = _; rw [Array.getElem?_push]; simp
theorem mh_2 (w : World) (l0 l1 : List W.Opr) (n0 n1 : Nat) (h0 : n0 = l0.length) (h1 : n1 = l1.length) (T : TypeId) : Mh (w.heap.size + 1 + 1) [l0, l1] (fun h => w.heap.size + h) (((w.alloc (.cells (opsR l0) 38)).alloc (.cells (opsR l1) 38)).alloc (.cells #[.slice (some ⟨w.heap.size, 0, none⟩) n0 n0, .slice (some ⟨w.heap.size + 1, 0, none⟩) n1 n1] T)) := by
  subst h0 h1
  obtain ⟨e0, e1, e2⟩ := three w (.cells (opsR l0) 38) (.cells (opsR l1) 38) (.cells #[.slice (some ⟨w.heap.size, 0, none⟩) l0.length l0.length, .slice (some ⟨w.heap.size + 1, 0, none⟩) l1.length l1.length] T)
  refine ⟨(Array.getElem?_eq_some_iff.1 e2).1, fun h hh => ?_, fun h hh => ?_⟩
  · match h, hh with
    | 0, _ => exact cell_of_row _ _ 0 _ _ (0, 0) e2
    | 1, _ => exact cell_of_row _ _ 1 _ _ (0, 0) e2
  · match h, hh with
    | 0, _ => exact e0
    | 1, _ => exact e1
theorem or_2 (w : World) (a b c d : Nat) (T : TypeId) : ∀ j, j < [(a, b), (c, d)].length → (w.alloc (.cells #[.int .i64 (a : Int), .int .i64 (b : Int), .int .i64 (c : Int), .int .i64 (d : Int)] T)).cell? ⟨w.heap.size, j * 2, none⟩ = some (.int .i64 ((W.rM [(a, b), (c, d)] j).1 : Int)) ∧ (w.alloc (.cells #[.int .i64 (a : Int), .int .i64 (b : Int), .int .i64 (c : Int), .int .i64 (d : Int)] T)).cell? ⟨w.heap.size, j * 2 + 1, none⟩ = some (.int .i64 ((W.rM [(a, b), (c, d)] j).2 : Int)) := by
  have hl := heap_alloc_last w (.cells #[.int .i64 (a : Int), .int .i64 (b : Int), .int .i64 (c : Int), .int .i64 (d : Int)] T)
  intro j hj
  match j, hj with
  | 0, _ => exact ⟨cell_of_row _ _ 0 _ _ (0, 0) hl, cell_of_row _ _ 1 _ _ (0, 0) hl⟩
  | 1, _ => exact ⟨cell_of_row _ _ 2 _ _ (0, 0) hl, cell_of_row _ _ 3 _ _ (0, 0) hl⟩
theorem bdO_w1 (w : World) : (bdO #[(0, .int .i64 2), (1, .int .i64 4), (3, .int .u32 1)]).run Tryd.prog w = .ok (.agg (opN (W.oW 4 0 1))) w := by kernel_rfl
theorem bdO_r1 (w : World) : (bdO #[(0, .int .i64 1), (1, .int .i64 4), (4, .int .u32 1)]).run Tryd.prog w = .ok (.agg (opN (W.oR 4 0 1))) w := by kernel_rfl
attribute [local go_sem ↓] bdO_eq bsO_eq ldO_eq
set_option maxRecDepth 10000 in
set_option maxHeartbeats 1600000 in
theorem first14_any (A : Nat → Addr) (w : World) (hS : Sent A w) : Calls Tryd.prog 8 #[] w fun e w' => e = .returned (.bool true) ∧ Below w.heap.size w w' := by
  have b1 := bdO_w1
  have b2 := bdO_r1
  have s1 := bsO_1 (W.oW 4 0 1)
  have s2 := bsO_1 (W.oR 4 0 1)
  have HH : Hid _ := hS
  clear hS
  go_enter Tryd.func8, Tryd.ntmps8
  have M0 := mh_2 w [W.oW 4 0 1] [W.oR 4 0 1] 1 1 rfl rfl 34
  have BW : Below w.heap.size w (((w.alloc (.cells (opsR [W.oW 4 0 1]) 38)).alloc (.cells (opsR [W.oR 4 0 1]) 38)).alloc (.cells #[.slice (some ⟨w.heap.size, 0, none⟩) 1 1, .slice (some ⟨w.heap.size + 1, 0, none⟩) 1 1] 34)) := (((Below.refl _ _).alloc (Nat.le_refl _) _).alloc (by simp) _).alloc (by simp; omega) _
  have HM : Hid (_ ∧ _) := ⟨M0, BW⟩
  clear M0 BW
  go_wp2_with (fail)
  generalize hb : w.heap.size + 1 + 1 = b at *
  generalize World.alloc _ _ = W1 at *
  refine (bytesOf_nil W1).mono ?_
  rintro e w2 ⟨⟨cb, rfl, hcb, hF⟩, bb⟩
  have B2 := HM.out.2.trans (bb.mono HM.out.2.size)
  have M2 := HM.out.1.below bb
  have al := (Below.refl w2.heap.size w2).alloc (Nat.le_refl _) (.cells #[.int .i64 0, .int .i64 0, .int .i64 1, .int .i64 0] 41)
  have ok1 := chk_ok 2 2 2 2 rfl rfl (LL := W.LLf) (rs := [(0, 0), (1, 0)]) ⟨(M2.below al).bl, (M2.below al).o, (M2.below al).i, by simp, or_2 w2 0 0 1 0 41, hF.below al, (HH.out.below B2).below al⟩ W.ck_f1 W.vl_f
  have ok2 : ∀ w3, Below w2.heap.size w2 w3 → Calls Tryd.prog 14 #[.slice (some ⟨b, 0, none⟩) 2 2, .slice (some ⟨w3.heap.size, 0, none⟩) 2 2, fvZ cb] (w3.alloc (.cells #[.int .i64 1, .int .i64 0, .int .i64 0, .int .i64 0] 41)) (fun e w' => (∃ q, e = .returned (.iface 78 (.pointer (some ⟨q, 0, none⟩))) ∧ w'.heap[q]? = some (.cells #[.int .i64 0, ptr A 1] 80)) ∧ Below (w3.alloc (.cells #[.int .i64 1, .int .i64 0, .int .i64 0, .int .i64 0] 41)).heap.size (w3.alloc (.cells #[.int .i64 1, .int .i64 0, .int .i64 0, .int .i64 0] 41)) w') := fun w3 h3 => by
    have al3 := h3.alloc h3.size (.cells #[.int .i64 1, .int .i64 0, .int .i64 0, .int .i64 0] 41)
    exact chk_val 2 2 2 2 1 (by decide) 3 (by decide) rfl rfl (LL := W.LLf) (rs := [(1, 0), (0, 0)]) ⟨(M2.below al3).bl, (M2.below al3).o, (M2.below al3).i, by simp, or_2 w3 1 0 0 0 41, hF.below al3, (HH.out.below B2).below al3⟩ W.ck_f2 W.vl_f
  have H2 : Hid (Calls _ _ _ _ _ ∧ _ ∧ _ ∧ _) := ⟨ok1, ok2, B2, al⟩
  clear ok1 ok2 B2 M2 hF al bb hcb HM
  generalize fvZ cb = FV at *
  go_wp2_with (fail)
  refine H2.out.1.mono ?_
  rintro e w3 ⟨rfl, b3⟩
  have b4 := H2.out.2.2.2.trans (b3.mono H2.out.2.2.2.size)
  clear b3
  go_wp2_with (fail)
  refine (H2.out.2.1 _ b4).mono ?_
  rintro e w5 ⟨⟨q, rfl, hq⟩, b5⟩
  have B5 := H2.out.2.2.1.trans ((b4.trans (((Below.refl _ _).alloc (Nat.le_refl _) _).trans (b5.mono (by simp)) |>.mono b4.size)).mono H2.out.2.2.1.size)
  have S5 := HH.out.below B5
  have pl : ∀ w, Calls Tryd.prog 16 #[.int .i64 111, .int .i64 0] w _ := fun w => placed_any 10 0 w
  have HQ : Hid (_ ∧ _ ∧ _ ∧ _) := ⟨pl, hq, B5, S5⟩
  clear pl hq B5 S5 b4 b5 H2
  go_wp2_with (fail)
  refine (HQ.out.1 _).mono ?_
  rintro e w6 ⟨rfl, b6, hc6, hl6⟩
  have hq6 := (b6.block q (Array.getElem?_eq_some_iff.1 HQ.out.2.1).1).trans HQ.out.2.1
  have sm := same_at A 10 (by decide) q (w5.heap.size + 1) 0 w6 (HQ.out.2.2.2.below b6) hq6 hc6
  have HS2 : Hid (Calls _ _ _ _ _ ∧ _) := ⟨sm, HQ.out.2.2.1.trans (b6.mono HQ.out.2.2.1.size)⟩
  clear sm hq6 hc6 hl6 b6 HQ
  go_wp2_with (fail)
  refine HS2.out.1.mono ?_
  rintro e w7 ⟨rfl, b7⟩
  have B7 := HS2.out.2.trans (b7.mono HS2.out.2.size)
  clear b7 HS2
  go_wp2
  go_ret
  exact ⟨rfl, B7⟩
end Go.Proofs.YtibohlbkkaghkaaDoor
