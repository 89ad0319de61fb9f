/- Texts in one: WmoV, Laid14. -/
import Derived.Test.YtibohlbkkaghkaaDoorRows
import Derived.LaidLaws
import Derived.LaidMore
import Derived.Stop.Joined
import Derived.Stop.ErrReads
import Derived.RowKitTokens
import Derived.Test.YtibohlbkkaghkaaDoorJ07
/- wmo: the laws' first. -/
namespace Go.Proofs.YtibohlbkkaghkaaDoor
open Go.ChangeShapes Go.WideShapes Go.ChangeAt Go.RowKit Go.Maps
set_option linter.unusedVariables false
set_option linter.unusedSimpArgs false

namespace W
def oW (sz ad vl : Int) : Opr := ⟨2, sz, ad, vl, 0, false, false, false, 0, 0⟩
def oR (sz ad gt : Int) : Opr := ⟨1, sz, ad, 0, gt, false, false, false, 0, 0⟩
def LLf : List (List Opr) := [[oW 4 0 1], [oR 4 0 1]]
theorem ck_f1 : ckB LLf [(0, 0), (1, 0)] 3 3 = true := by decide +kernel
theorem ck_f2 : ckB LLf [(1, 0), (0, 0)] 1 3 = true := by decide +kernel
theorem vl_f : ∀ h i, 0 ≤ (xM LLf h i).o.vl ∧ (xM LLf h i).o.vl < 4294967296 := by
  intro h i
  match h with
  | 0 => match i with
    | 0 => decide
    | i + 1 => simp [xM, ozM, LLf, oz0, op3]
  | 1 => match i with
    | 0 => decide
    | i + 1 => simp [xM, ozM, LLf, oz0, op3]
  | h + 2 => simp [xM, ozM, LLf, oz0, op3]
end W
/-- Harts in memory, written out. -/
structure Mh (b : Nat) (LL : List (List W.Opr)) (gs : Nat → Nat) (w : World) : Prop where
  bl : b < w.heap.size
  o : ∀ h, h < LL.length → w.cell? ⟨b, h, none⟩ = some (.slice (some ⟨gs h, 0, none⟩) (W.nM LL h) (W.nM LL h))
  i : ∀ h, h < LL.length → w.heap[gs h]? = some (.cells (opsR (LL.getD h [])) 38)
theorem Mh.below {b : Nat} {LL : List (List W.Opr)} {gs : Nat → Nat} {w w' : World} (h : Mh b LL gs w) (hb : Below w.heap.size w w') : Mh b LL gs w' :=
  ⟨Nat.lt_of_lt_of_le h.bl hb.size, fun j hj => (hb.cell (p := ⟨b, j, none⟩) h.bl).trans (h.o j hj), fun j hj => (hb.block _ (Array.getElem?_eq_some_iff.1 (h.i j hj)).1).trans (h.i j hj)⟩
theorem three (w : World) (X Y Z : Obj) : (((w.alloc X).alloc Y).alloc Z).heap[w.heap.size]? = some X ∧ (((w.alloc X).alloc Y).alloc Z).heap[w.heap.size + 1]? = some Y ∧ (((w.alloc X).alloc Y).alloc Z).heap[w.heap.size + 1 + 1]? = some Z := by
  refine ⟨?_, ?_, ?_⟩
  · show (((w.heap.push X).push Y).push Z)[w.heap.size]? = _; rw [Array.getElem?_push, Array.getElem?_push, Array.getElem?_push]; simp; omega
  · show (((w.heap.push X).push Y).push Z)[w.heap.size + 1]? = _; rw [Array.getElem?_push, Array.getElem?_push]; simp
  · show (((w.heap.push X).push Y).push Z)[w.heap.size + 1 + 1]? = _; rw [Array.getElem?_push]; simp
theorem mh_2 (w : World) (l0 l1 : List W.Opr) (n0 n1 : Nat) (h0 : n0 = l0.length) (h1 : n1 = l1.length) (T : TypeId) : Mh (w.heap.size + 1 + 1) [l0, l1] (fun h => w.heap.size + h) (((w.alloc (.cells (opsR l0) 38)).alloc (.cells (opsR l1) 38)).alloc (.cells #[.slice (some ⟨w.heap.size, 0, none⟩) n0 n0, .slice (some ⟨w.heap.size + 1, 0, none⟩) n1 n1] T)) := by
  subst h0 h1
  obtain ⟨e0, e1, e2⟩ := three w (.cells (opsR l0) 38) (.cells (opsR l1) 38) (.cells #[.slice (some ⟨w.heap.size, 0, none⟩) l0.length l0.length, .slice (some ⟨w.heap.size + 1, 0, none⟩) l1.length l1.length] T)
  refine ⟨(Array.getElem?_eq_some_iff.1 e2).1, fun h hh => ?_, fun h hh => ?_⟩
  · match h, hh with
    | 0, _ => exact cell_of_row _ _ 0 _ _ (0, 0) e2
    | 1, _ => exact cell_of_row _ _ 1 _ _ (0, 0) e2
  · match h, hh with
    | 0, _ => exact e0
    | 1, _ => exact e1
theorem or_2 (w : World) (a b c d : Nat) (T : TypeId) : ∀ j, j < [(a, b), (c, d)].length → (w.alloc (.cells #[.int .i64 (a : Int), .int .i64 (b : Int), .int .i64 (c : Int), .int .i64 (d : Int)] T)).cell? ⟨w.heap.size, j * 2, none⟩ = some (.int .i64 ((W.rM [(a, b), (c, d)] j).1 : Int)) ∧ (w.alloc (.cells #[.int .i64 (a : Int), .int .i64 (b : Int), .int .i64 (c : Int), .int .i64 (d : Int)] T)).cell? ⟨w.heap.size, j * 2 + 1, none⟩ = some (.int .i64 ((W.rM [(a, b), (c, d)] j).2 : Int)) := by
  have hl := heap_alloc_last w (.cells #[.int .i64 (a : Int), .int .i64 (b : Int), .int .i64 (c : Int), .int .i64 (d : Int)] T)
  intro j hj
  match j, hj with
  | 0, _ => exact ⟨cell_of_row _ _ 0 _ _ (0, 0) hl, cell_of_row _ _ 1 _ _ (0, 0) hl⟩
  | 1, _ => exact ⟨cell_of_row _ _ 2 _ _ (0, 0) hl, cell_of_row _ _ 3 _ _ (0, 0) hl⟩
theorem bdO_w1 (w : World) : (bdO #[(0, .int .i64 2), (1, .int .i64 4), (3, .int .u32 1)]).run Tryd.prog w = .ok (.agg (opN (W.oW 4 0 1))) w := by kernel_rfl
theorem bdO_r1 (w : World) : (bdO #[(0, .int .i64 1), (1, .int .i64 4), (4, .int .u32 1)]).run Tryd.prog w = .ok (.agg (opN (W.oR 4 0 1))) w := by kernel_rfl
attribute [local go_sem ↓] bdO_eq bsO_eq ldO_eq
set_option maxRecDepth 10000 in
set_option maxHeartbeats 1600000 in
theorem first14_any (A : Nat → Addr) (w : World) (hS : Sent A w) : Calls Tryd.prog 8 #[] w fun e w' => e = .returned (.bool true) ∧ Below w.heap.size w w' := by
  have b1 := bdO_w1
  have b2 := bdO_r1
  have s1 := bsO_1 (W.oW 4 0 1)
  have s2 := bsO_1 (W.oR 4 0 1)
  have HH : Hid _ := hS
  clear hS
  go_enter Tryd.func8, Tryd.ntmps8
  have M0 := mh_2 w [W.oW 4 0 1] [W.oR 4 0 1] 1 1 rfl rfl 34
  have BW : Below w.heap.size w (((w.alloc (.cells (opsR [W.oW 4 0 1]) 38)).alloc (.cells (opsR [W.oR 4 0 1]) 38)).alloc (.cells #[.slice (some ⟨w.heap.size, 0, none⟩) 1 1, .slice (some ⟨w.heap.size + 1, 0, none⟩) 1 1] 34)) := (((Below.refl _ _).alloc (Nat.le_refl _) _).alloc (by simp) _).alloc (by simp; omega) _
  have HM : Hid (_ ∧ _) := ⟨M0, BW⟩
  clear M0 BW
  go_wp2_with (fail)
  generalize hb : w.heap.size + 1 + 1 = b at *
  generalize World.alloc _ _ = W1 at *
  refine (bytesOf_nil W1).mono ?_
  rintro e w2 ⟨⟨cb, rfl, hcb, hF⟩, bb⟩
  have B2 := HM.out.2.trans (bb.mono HM.out.2.size)
  have M2 := HM.out.1.below bb
  have al := (Below.refl w2.heap.size w2).alloc (Nat.le_refl _) (.cells #[.int .i64 0, .int .i64 0, .int .i64 1, .int .i64 0] 41)
  have ok1 := chk_ok 2 2 2 2 rfl rfl (LL := W.LLf) (rs := [(0, 0), (1, 0)]) ⟨(M2.below al).bl, (M2.below al).o, (M2.below al).i, by simp, or_2 w2 0 0 1 0 41, hF.below al, (HH.out.below B2).below al⟩ W.ck_f1 W.vl_f
  have ok2 : ∀ w3, Below w2.heap.size w2 w3 → Calls Tryd.prog 14 #[.slice (some ⟨b, 0, none⟩) 2 2, .slice (some ⟨w3.heap.size, 0, none⟩) 2 2, fvZ cb] (w3.alloc (.cells #[.int .i64 1, .int .i64 0, .int .i64 0, .int .i64 0] 41)) (fun e w' => (∃ q, e = .returned (.iface 78 (.pointer (some ⟨q, 0, none⟩))) ∧ w'.heap[q]? = some (.cells #[.int .i64 0, ptr A 1] 80)) ∧ Below (w3.alloc (.cells #[.int .i64 1, .int .i64 0, .int .i64 0, .int .i64 0] 41)).heap.size (w3.alloc (.cells #[.int .i64 1, .int .i64 0, .int .i64 0, .int .i64 0] 41)) w') := fun w3 h3 => by
    have al3 := h3.alloc h3.size (.cells #[.int .i64 1, .int .i64 0, .int .i64 0, .int .i64 0] 41)
    exact chk_val 2 2 2 2 1 (by decide) 3 (by decide) rfl rfl (LL := W.LLf) (rs := [(1, 0), (0, 0)]) ⟨(M2.below al3).bl, (M2.below al3).o, (M2.below al3).i, by simp, or_2 w3 1 0 0 0 41, hF.below al3, (HH.out.below B2).below al3⟩ W.ck_f2 W.vl_f
  have H2 : Hid (Calls _ _ _ _ _ ∧ _ ∧ _ ∧ _) := ⟨ok1, ok2, B2, al⟩
  clear ok1 ok2 B2 M2 hF al bb hcb HM
  generalize fvZ cb = FV at *
  go_wp2_with (fail)
  refine H2.out.1.mono ?_
  rintro e w3 ⟨rfl, b3⟩
  have b4 := H2.out.2.2.2.trans (b3.mono H2.out.2.2.2.size)
  clear b3
  go_wp2_with (fail)
  refine (H2.out.2.1 _ b4).mono ?_
  rintro e w5 ⟨⟨q, rfl, hq⟩, b5⟩
  have B5 := H2.out.2.2.1.trans ((b4.trans (((Below.refl _ _).alloc (Nat.le_refl _) _).trans (b5.mono (by simp)) |>.mono b4.size)).mono H2.out.2.2.1.size)
  have S5 := HH.out.below B5
  have pl : ∀ w, Calls Tryd.prog 16 #[.int .i64 111, .int .i64 0] w _ := fun w => placed_any 10 0 w
  have HQ : Hid (_ ∧ _ ∧ _ ∧ _) := ⟨pl, hq, B5, S5⟩
  clear pl hq B5 S5 b4 b5 H2
  go_wp2_with (fail)
  refine (HQ.out.1 _).mono ?_
  rintro e w6 ⟨rfl, b6, hc6, hl6⟩
  have hq6 := (b6.block q (Array.getElem?_eq_some_iff.1 HQ.out.2.1).1).trans HQ.out.2.1
  have sm := same_at A 10 (by decide) q (w5.heap.size + 1) 0 w6 (HQ.out.2.2.2.below b6) hq6 hc6
  have HS2 : Hid (Calls _ _ _ _ _ ∧ _) := ⟨sm, HQ.out.2.2.1.trans (b6.mono HQ.out.2.2.1.size)⟩
  clear sm hq6 hc6 hl6 b6 HQ
  go_wp2_with (fail)
  refine HS2.out.1.mono ?_
  rintro e w7 ⟨rfl, b7⟩
  have B7 := HS2.out.2.trans (b7.mono HS2.out.2.size)
  clear b7 HS2
  go_wp2
  go_ret
  exact ⟨rfl, B7⟩
end Go.Proofs.YtibohlbkkaghkaaDoor

/- What the program's text lays: the errors are pointers of their own. -/
namespace Go.Proofs.YtibohlbkkaghkaaDoor
open Go.ChangeShapes Go.WideShapes Go.ChangeAt Go.RowKit
set_option linter.unusedVariables false

abbrev theLaid : List (String × DataW Unit) := [("corral/api.ErrMany", Rows.laid_corral_api_ErrMany), ("corral/api.ErrKind", Rows.laid_corral_api_ErrKind), ("corral/api.ErrPlace", Rows.laid_corral_api_ErrPlace), ("corral/api.ErrShape", Rows.laid_corral_api_ErrShape), ("corral/api.ErrWord", Rows.laid_corral_api_ErrWord), ("corral/api.ErrRange", Rows.laid_corral_api_ErrRange), ("corral/api.ErrFull", Rows.laid_corral_api_ErrFull), ("corral/api.ErrNone", Rows.laid_corral_api_ErrNone), ("corral/api.ErrTrace", Rows.laid_corral_api_ErrTrace), ("corral/api.ErrOrder", Rows.laid_corral_api_ErrOrder), ("corral/api.ErrValue", Rows.laid_corral_api_ErrValue)]

theorem star : "*" ++ "errors.errorString" = "*errors.errorString" := by decide
theorem rowE (u : TypeId) (h : Tryd.prog.typeName? 3 u = some "*errors.errorString") : u = 141 :=
  typeName_ptr_named (nm := "errors.errorString") (by rw [star]; kernel_rfl) (by kernel_rfl) (by decide) u (by rw [star]; exact h)

set_option maxRecDepth 100000 in
/-- One error out of the list. -/
theorem laid_one {W : World} {n : String} {g : Nat} {text : List UInt8} {rest : List (String × DataW Unit)} {ps : List MemPlace} (hg : Tryd.prog.globalNamed n = some g) (ht : (Tryd.prog.globals[g]?).map (·.type) = some 45)
    (hrows : ∀ b off, MemPlace.cell b off ∈ ps → (∃ c t, W.heap[b]? = some (.cells c t (0, 0))) ∧ ∀ u v, W.cell? ⟨b, off, none⟩ = some (.iface u v) → Value.okWide Tryd.prog W .any 0 u v)
    (h : DataW.LaidVars Tryd.prog W ((n, .iface "*errors.errorString" (.ptr (.agg [.lit (.string text)]))) :: rest) ps) :
    ∃ a q, W.cell? ⟨g, 0, none⟩ = some (.iface 141 (.pointer (some a))) ∧ (∃ c t, W.heap[a.block]? = some (.cells c t (0, 0))) ∧ DataW.LaidVars Tryd.prog W rest q ∧ ps = MemPlace.cell g 0 :: MemPlace.cell a.block a.off :: q := by
  obtain ⟨g0, t0, cs0, f0, p0, q0, hg0, ht0, hv0, hd0, hq, e0⟩ := h
  obtain rfl := Option.some.inj (hg.symm.trans hg0)
  obtain rfl := Option.some.inj (ht.symm.trans ht0)
  subst e0
  obtain ⟨l0⟩ := cs0
  have ok0 : ∀ u v, l0 = [.iface u v] → Value.okWide Tryd.prog W .any 0 u v := fun u v e => by
    subst e
    exact (hrows g 0 (by simp [MemPlace.row])).2 u v (by simpa using World.var?_cell hg0 hv0 0)
  obtain ⟨a0, s0, rfl, hc0, hs0, hz0, rfl⟩ := errorString_of_trod Tryd.underlying45 rowE Tryd.underlying141 Tryd.underlying158 rfl rfl Tryd.underlying9 (by kernel_rfl) (by kernel_rfl) hd0 ok0
  refine ⟨a0, q0, by simpa using World.var?_cell hg0 hv0 0, (hrows a0.block a0.off (by simp [MemPlace.row])).1, hq, by simp [MemPlace.row]⟩

theorem permL {α : Type} (a0 a1 a2 a3 a4 a5 a6 a7 a8 a9 a10 : α) : [a9, a10, a0, a3, a1, a2, a4, a5, a6, a7, a8].Perm [a0, a1, a2, a3, a4, a5, a6, a7, a8, a9, a10] := by
  have h : ([9, 10, 0, 3, 1, 2, 4, 5, 6, 7, 8] : List Nat).Perm [0, 1, 2, 3, 4, 5, 6, 7, 8, 9, 10] := by decide
  exact h.map (fun k => [a0, a1, a2, a3, a4, a5, a6, a7, a8, a9, a10].getD k a0)

set_option maxRecDepth 100000 in
theorem sent_of_laid {W : World} (h : laidMetH Tryd.prog theLaid W) : ∃ A, Sent A W := by
  rw [MakeChecks.laidMetH_plain _ _ _ (by kernel_rfl)] at h
  obtain ⟨ps, h0, hnd, hrows⟩ := h
  obtain ⟨a0, q0, x0, y0, h1, e0⟩ := laid_one (g := 2) (by kernel_rfl) (by kernel_rfl) hrows h0
  obtain ⟨a1, q1, x1, y1, h2, e1⟩ := laid_one (g := 4) (by kernel_rfl) (by kernel_rfl) (fun b o hm => hrows b o (by rw [e0]; simp [hm])) h1
  obtain ⟨a2, q2, x2, y2, h3, e2⟩ := laid_one (g := 5) (by kernel_rfl) (by kernel_rfl) (fun b o hm => hrows b o (by rw [e0, e1]; simp [hm])) h2
  obtain ⟨a3, q3, x3, y3, h4, e3⟩ := laid_one (g := 3) (by kernel_rfl) (by kernel_rfl) (fun b o hm => hrows b o (by rw [e0, e1, e2]; simp [hm])) h3
  obtain ⟨a4, q4, x4, y4, h5, e4⟩ := laid_one (g := 6) (by kernel_rfl) (by kernel_rfl) (fun b o hm => hrows b o (by rw [e0, e1, e2, e3]; simp [hm])) h4
  obtain ⟨a5, q5, x5, y5, h6, e5⟩ := laid_one (g := 7) (by kernel_rfl) (by kernel_rfl) (fun b o hm => hrows b o (by rw [e0, e1, e2, e3, e4]; simp [hm])) h5
  obtain ⟨a6, q6, x6, y6, h7, e6⟩ := laid_one (g := 8) (by kernel_rfl) (by kernel_rfl) (fun b o hm => hrows b o (by rw [e0, e1, e2, e3, e4, e5]; simp [hm])) h6
  obtain ⟨a7, q7, x7, y7, h8, e7⟩ := laid_one (g := 9) (by kernel_rfl) (by kernel_rfl) (fun b o hm => hrows b o (by rw [e0, e1, e2, e3, e4, e5, e6]; simp [hm])) h7
  obtain ⟨a8, q8, x8, y8, h9, e8⟩ := laid_one (g := 10) (by kernel_rfl) (by kernel_rfl) (fun b o hm => hrows b o (by rw [e0, e1, e2, e3, e4, e5, e6, e7]; simp [hm])) h8
  obtain ⟨a9, q9, x9, y9, h10, e9⟩ := laid_one (g := 0) (by kernel_rfl) (by kernel_rfl) (fun b o hm => hrows b o (by rw [e0, e1, e2, e3, e4, e5, e6, e7, e8]; simp [hm])) h9
  obtain ⟨a10, q10, x10, y10, h11, e10⟩ := laid_one (g := 1) (by kernel_rfl) (by kernel_rfl) (fun b o hm => hrows b o (by rw [e0, e1, e2, e3, e4, e5, e6, e7, e8, e9]; simp [hm])) h10
  subst e10 e9 e8 e7 e6 e5 e4 e3 e2 e1 e0
  let L : List Addr := [a9, a10, a0, a3, a1, a2, a4, a5, a6, a7, a8]
  have hN : (List.map (fun a : Addr => MemPlace.cell a.block a.off) [a0, a1, a2, a3, a4, a5, a6, a7, a8, a9, a10]).Nodup := by
    refine List.Sublist.nodup ?_ hnd
    exact .cons _ (.cons_cons _ (.cons _ (.cons_cons _ (.cons _ (.cons_cons _ (.cons _ (.cons_cons _ (.cons _ (.cons_cons _ (.cons _ (.cons_cons _ (.cons _ (.cons_cons _ (.cons _ (.cons_cons _ (.cons _ (.cons_cons _ (.cons _ (.cons_cons _ (.cons _ (.cons_cons _ (List.nil_sublist _))))))))))))))))))))))
  have hN2 : (List.map (fun a : Addr => MemPlace.cell a.block a.off) L).Nodup := by
    refine (List.Perm.nodup_iff (List.Perm.map _ ?_)).2 hN
    exact permL a0 a1 a2 a3 a4 a5 a6 a7 a8 a9 a10
  refine ⟨fun j => L.getD j a0, ?_, ?_, ?_⟩
  · intro j hj
    match j, hj with
    | 0, _ => exact x9
    | 1, _ => exact x10
    | 2, _ => exact x0
    | 3, _ => exact x3
    | 4, _ => exact x1
    | 5, _ => exact x2
    | 6, _ => exact x4
    | 7, _ => exact x5
    | 8, _ => exact x6
    | 9, _ => exact x7
    | 10, _ => exact x8
  · intro i j hi hj e
    have hl : L.length = 11 := rfl
    have hp := List.pairwise_iff_getElem.1 hN2
    have e' : ∀ k (hk : k < L.length), L.getD k a0 = L[k] := fun k hk => by simp [List.getD, hk]
    have e : L[i]'(by rw [hl]; exact hi) = L[j]'(by rw [hl]; exact hj) := by rw [← e' i (by rw [hl]; exact hi), ← e' j (by rw [hl]; exact hj)]; exact e
    rcases Nat.lt_trichotomy i j with h | h | h
    · exact (hp i j (by simp [hl]; omega) (by simp [hl]; omega) h (by rw [List.getElem_map, List.getElem_map, e])).elim
    · exact h
    · exact (hp j i (by simp [hl]; omega) (by simp [hl]; omega) h (by rw [List.getElem_map, List.getElem_map, e])).elim
  · intro j hj
    match j, hj with
    | 0, _ => exact y9
    | 1, _ => exact y10
    | 2, _ => exact y0
    | 3, _ => exact y3
    | 4, _ => exact y1
    | 5, _ => exact y2
    | 6, _ => exact y4
    | 7, _ => exact y5
    | 8, _ => exact y6
    | 9, _ => exact y7
    | 10, _ => exact y8

theorem door_met (os : Go.Os) (args : Array Value) : laidMetH Tryd.prog theLaid ((World.doorLaid Tryd.prog 218 os).forCall (fun _ _ => 0) ⟨#[], args, []⟩).memory :=
  laidMetH_of_parts3 (fuel := 8) (laidMet_of_run' 8 (by kernel_rfl) (by kernel_rfl)) (by kernel_rfl) (by kernel_rfl)

end Go.Proofs.YtibohlbkkaghkaaDoor
