/- The document's copy of an operation. -/
import Derived.Test.YtbppeehhohdfiaaPpoCc
import Derived.Deep.RegionHeld3
import Derived.Deep.WholeRow
namespace Go.Proofs.Ytbppeehhohdfiaa
open Go.ChangeShapes Go.WideShapes Go.ChangeAt Go.RowKit
set_option linter.unusedVariables false
set_option linter.unusedSimpArgs false

namespace Cb
def stO (a : Addr) (v : Value) : Sem Unit := storeVar 30 a v
theorem stO_eq (a : Addr) (v : Value) : storeVar 30 a v = stO a v := rfl
theorem infoO : (Try.prog.info? 30).map (·.size) = some 13 := by kernel_rfl
theorem gsetRow (w : World) (b : Nat) (cs : Array Value) : w.grownBy (w.setRow b cs) (some b) :=
  ⟨rfl, rfl, rfl, by simp [World.setRow], fun k _ hne => setRow_other w b k cs (by simpa using hne)⟩
theorem two (w : World) (A B : Obj) : ((w.alloc A).alloc B).heap[w.heap.size]? = some A ∧ ((w.alloc A).alloc B).heap[w.heap.size + 1]? = some B := by
  constructor
  · show ((w.heap.push A).push B)[w.heap.size]? = _; rw [Array.getElem?_push, Array.getElem?_push]; simp
  · show ((w.heap.push A).push B)[w.heap.size + 1]? = _; rw [Array.getElem?_push]; simp
theorem over {n d : Nat} {x y z : World} (h : Below n x y) (k : y.grownBy z (some d)) (hd : n ≤ d) (hn : n ≤ y.heap.size) : Below n x z := Below.grown h k hn (fun j hj => by cases hj; exact hd)
theorem st {g : Nat} {w : World} {CS : Array Value} (h : ∃ Z : Array Value, Z.size = 13 ∧ w.heap[g]? = some (.cells Z 30)) (hs : CS.size = 13) (ha : CS.all (fun x => x.oneCell') = true) : (stO ⟨g, 0, none⟩ (.agg CS)).run Try.prog w = .ok () (w.setRow g CS) := by
  obtain ⟨Z, hz, hh⟩ := h
  exact run_storeVar_row w g _ _ _ _ hh (by rw [infoO, hs]) (by rw [hz, hs]) ha
abbrev SE (w : World) (k sz ad vl gt pd sc : Int) (pr aq rl : Bool) (aa da ca : Option Addr) (an ac dn dc cn cc : Nat) (w' : World) : Prop := Below w.heap.size w w' ∧ w.heap.size + 1 < w'.heap.size ∧ (∃ Z : Array Value, Z.size = 13 ∧ w'.heap[w.heap.size + 1]? = some (.cells Z 30)) ∧ (∀ x y z : Nat, (stO ⟨w.heap.size + 1, 0, none⟩ (.agg #[.int .i64 k, .int .i64 sz, .int .u32 ad, .int .u32 vl, .int .u32 gt, .bool pr, .bool aq, .bool rl, .int .i64 pd, .int .i64 sc, .slice (some ⟨x, 0, none⟩) an an, .slice (some ⟨y, 0, none⟩) dn dn, .slice (some ⟨z, 0, none⟩) cn cn])).run Try.prog w' = .ok () (w'.setRow (w.heap.size + 1) #[.int .i64 k, .int .i64 sz, .int .u32 ad, .int .u32 vl, .int .u32 gt, .bool pr, .bool aq, .bool rl, .int .i64 pd, .int .i64 sc, .slice (some ⟨x, 0, none⟩) an an, .slice (some ⟨y, 0, none⟩) dn dn, .slice (some ⟨z, 0, none⟩) cn cn])) ∧ w'.cell? ⟨w.heap.size, 0, none⟩ = some (.int .i64 k) ∧ w'.cell? ⟨w.heap.size, 1, none⟩ = some (.int .i64 sz) ∧ w'.cell? ⟨w.heap.size, 2, none⟩ = some (.int .u32 ad) ∧ w'.cell? ⟨w.heap.size, 3, none⟩ = some (.int .u32 vl) ∧ w'.cell? ⟨w.heap.size, 4, none⟩ = some (.int .u32 gt) ∧ w'.cell? ⟨w.heap.size, 5, none⟩ = some (.bool pr) ∧ w'.cell? ⟨w.heap.size, 6, none⟩ = some (.bool aq) ∧ w'.cell? ⟨w.heap.size, 7, none⟩ = some (.bool rl) ∧ w'.cell? ⟨w.heap.size, 8, none⟩ = some (.int .i64 pd) ∧ w'.cell? ⟨w.heap.size, 9, none⟩ = some (.int .i64 sc) ∧ w'.cell? ⟨w.heap.size, 10, none⟩ = some (.slice aa an ac) ∧ w'.cell? ⟨w.heap.size, 11, none⟩ = some (.slice da dn dc) ∧ w'.cell? ⟨w.heap.size, 12, none⟩ = some (.slice ca cn cc)
theorem SE.below {w a b : World} {k sz ad vl gt pd sc : Int} {pr aq rl : Bool} {aa da ca : Option Addr} {an ac dn dc cn cc : Nat} (h : SE w k sz ad vl gt pd sc pr aq rl aa da ca an ac dn dc cn cc a) (hm : Below a.heap.size a b) : SE w k sz ad vl gt pd sc pr aq rl aa da ca an ac dn dc cn cc b := by
  obtain ⟨h1, h2, ⟨Z, hz, hh⟩, _, h3⟩ := h
  have q : ∀ j, b.cell? ⟨w.heap.size, j, none⟩ = a.cell? ⟨w.heap.size, j, none⟩ := fun j => hm.cell (by show w.heap.size < a.heap.size; omega)
  refine ⟨h1.trans (hm.mono (by omega)), Nat.lt_of_lt_of_le h2 hm.size, ⟨Z, hz, (hm.block _ h2).trans hh⟩, fun x y z => st ⟨Z, hz, (hm.block _ h2).trans hh⟩ rfl (by simp [Value.oneCell']), ?_⟩
  simp only [q]
  exact h3
theorem SE.set {w a : World} {k sz ad vl gt pd sc : Int} {pr aq rl : Bool} {aa da ca : Option Addr} {an ac dn dc cn cc : Nat} {CS : Array Value} (h : SE w k sz ad vl gt pd sc pr aq rl aa da ca an ac dn dc cn cc a) (hc : CS.size = 13) : SE w k sz ad vl gt pd sc pr aq rl aa da ca an ac dn dc cn cc (a.setRow (w.heap.size + 1) CS) := by
  obtain ⟨h1, h2, ⟨Z, hz, hh⟩, _, h3⟩ := h
  have q : ∀ j, (a.setRow (w.heap.size + 1) CS).cell? ⟨w.heap.size, j, none⟩ = a.cell? ⟨w.heap.size, j, none⟩ := fun j => cell_setRow_other a _ CS _ (by show w.heap.size ≠ w.heap.size + 1; omega)
  refine ⟨over h1 (gsetRow a _ CS) (by omega) (by omega), by simpa using h2, ⟨CS, hc, setRow_heap a _ Z CS _ _ hh⟩, fun x y z => st ⟨CS, hc, setRow_heap a _ Z CS _ _ hh⟩ rfl (by simp [Value.oneCell']), ?_⟩
  simp only [q]
  exact h3
theorem SE.start (w : World) (k sz ad vl gt pd sc : Int) (pr aq rl : Bool) (aa da ca : Option Addr) (an ac dn dc cn cc : Nat) : SE w k sz ad vl gt pd sc pr aq rl aa da ca an ac dn dc cn cc ((w.alloc (.cells #[.int .i64 k, .int .i64 sz, .int .u32 ad, .int .u32 vl, .int .u32 gt, .bool pr, .bool aq, .bool rl, .int .i64 pd, .int .i64 sc, .slice aa an ac, .slice da dn dc, .slice ca cn cc] 30)).alloc (.cells #[.int .i64 0, .int .i64 0, .int .u32 0, .int .u32 0, .int .u32 0, .bool false, .bool false, .bool false, .int .i64 0, .int .i64 0, .slice none 0 0, .slice none 0 0, .slice none 0 0] 30)).drew := by
  obtain ⟨e1, e2⟩ := two w (.cells #[.int .i64 k, .int .i64 sz, .int .u32 ad, .int .u32 vl, .int .u32 gt, .bool pr, .bool aq, .bool rl, .int .i64 pd, .int .i64 sc, .slice aa an ac, .slice da dn dc, .slice ca cn cc] 30) (.cells #[.int .i64 0, .int .i64 0, .int .u32 0, .int .u32 0, .int .u32 0, .bool false, .bool false, .bool false, .int .i64 0, .int .i64 0, .slice none 0 0, .slice none 0 0, .slice none 0 0] 30)
  refine SE.below (a := (w.alloc (.cells #[.int .i64 k, .int .i64 sz, .int .u32 ad, .int .u32 vl, .int .u32 gt, .bool pr, .bool aq, .bool rl, .int .i64 pd, .int .i64 sc, .slice aa an ac, .slice da dn dc, .slice ca cn cc] 30)).alloc (.cells #[.int .i64 0, .int .i64 0, .int .u32 0, .int .u32 0, .int .u32 0, .bool false, .bool false, .bool false, .int .i64 0, .int .i64 0, .slice none 0 0, .slice none 0 0, .slice none 0 0] 30)) ⟨((Below.refl _ _).alloc (Nat.le_refl _) _).alloc (by simp) _, by simp, ⟨_, rfl, e2⟩, fun x y z => st ⟨_, rfl, e2⟩ rfl (by simp [Value.oneCell']), ?_⟩ (Below.refl _ _).drew
  simp [World.cell?, e1]
theorem liGrown {s : W.Sl} {l : List Int} {w w' : World} {b : Nat} (h : Li s l w) (hg : w.grownBy w' (some b)) (hne : ∀ g o, 0 < s.n → s.a = some ⟨g, o, none⟩ → g ≠ b) : Li s l w' :=
  ⟨h.n, h.m, h.nc, fun h0 => by
    obtain ⟨g, o, e, hl, hc⟩ := h.at_ h0
    have q := hg.block g hl (by simpa using hne g o h0 e)
    exact ⟨g, o, e, Nat.lt_of_lt_of_le hl hg.size, fun j x hx => (World.cell?_of_block q).trans (hc j x hx)⟩⟩
theorem opC_get (o : W.Opr) (S : S3) (k : Nat) (hk : k < 13) : (opC o S.a S.d S.c)[k]? = some (opF (fun _ => W.oz0 o) (fun _ => S) k) := by
  match k, hk with
  | 0, _ => rfl
  | 1, _ => rfl
  | 2, _ => rfl
  | 3, _ => rfl
  | 4, _ => rfl
  | 5, _ => rfl
  | 6, _ => rfl
  | 7, _ => rfl
  | 8, _ => rfl
  | 9, _ => rfl
  | 10, _ => rfl
  | 11, _ => rfl
  | 12, _ => rfl
theorem ldBlk {w : World} {g : Nat} (o : W.Opr) (S : S3) (T : TypeId) (hh : w.heap[g]? = some (.cells (opC o S.a S.d S.c) T)) : (ldO ⟨g, 0, none⟩).run Try.prog w = .ok (.agg (opC o S.a S.d S.c)) w :=
  ldO_any o S (fun k hk => by
    rw [Nat.zero_add, cell_of_row _ _ k _ T (0, 0) hh]
    exact opC_get o S k hk)
end Cb
attribute [local go_sem ↓] ldO_eq Cb.stO_eq
set_option maxRecDepth 100000 in
set_option maxHeartbeats 3200000 in
theorem copy_op (o : W.Opr) (S : S3) (A D C : List Int) (w : World) (ha : Li S.a A w) (hd : Li S.d D w) (hc : Li S.c C w) :
    Calls Try.prog 15 #[.agg (opC o S.a S.d S.c)] w fun e w' => (∃ x y z : Nat, e = .returned (.agg (opC o ⟨some ⟨x, 0, none⟩, A.length, A.length⟩ ⟨some ⟨y, 0, none⟩, D.length, D.length⟩ ⟨some ⟨z, 0, none⟩, C.length, C.length⟩)) ∧ w.heap.size ≤ x ∧ w.heap.size ≤ y ∧ w.heap.size ≤ z ∧ Li ⟨some ⟨x, 0, none⟩, A.length, A.length⟩ A w' ∧ Li ⟨some ⟨y, 0, none⟩, D.length, D.length⟩ D w' ∧ Li ⟨some ⟨z, 0, none⟩, C.length, C.length⟩ C w') ∧ Below w.heap.size w w' := by
  obtain ⟨k, sz, ad, vl, gt, pr, aq, rl, pd, sc⟩ := o
  obtain ⟨⟨aa, an, ac⟩, ⟨da, dn, dc⟩, ⟨ca, cn, cc⟩⟩ := S
  dsimp only at ha hd hc
  obtain rfl : an = A.length := ha.n
  obtain rfl : dn = D.length := hd.n
  obtain rfl : cn = C.length := hc.n
  have s0 := Cb.SE.start w k sz ad vl gt pd sc pr aq rl aa da ca A.length ac D.length dc C.length cc
  have h1 := fun w' (hb : Below w.heap.size w w') => ints_new _ A w' (ha.below hb)
  have h2 := fun w' (hb : Below w.heap.size w w') => ints_new _ D w' (hd.below hb)
  have h3 := fun w' (hb : Below w.heap.size w w') => ints_new _ C w' (hc.below hb)
  unfold slV at h1 h2 h3
  dsimp only at h1 h2 h3
  have HS : Hid (Cb.SE w k sz ad vl gt pd sc pr aq rl aa da ca A.length ac D.length dc C.length cc _) := s0
  have HH : Hid (_ ∧ _ ∧ _) := ⟨h1, h2, h3⟩
  clear s0 h1 h2 h3 ha hd hc
  generalize hna : A.length = an at *
  generalize hnd : D.length = dn at *
  generalize hnc : C.length = cn at *
  unfold opC
  dsimp only
  go_enter Try.func15, Try.ntmps15
  go_wp2_with (fail)
  go_region_held3 (fun w' => Below w.heap.size w w' ∧ w.heap.size + 1 < w'.heap.size ∧ (∃ Z : Array Value, Z.size = 13 ∧ w'.heap[w.heap.size + 1]? = some (.cells Z 30)) ∧ (∀ x y z : Nat, (Cb.stO ⟨w.heap.size + 1, 0, none⟩ (.agg #[.int .i64 k, .int .i64 sz, .int .u32 ad, .int .u32 vl, .int .u32 gt, .bool pr, .bool aq, .bool rl, .int .i64 pd, .int .i64 sc, .slice (some ⟨x, 0, none⟩) an an, .slice (some ⟨y, 0, none⟩) dn dn, .slice (some ⟨z, 0, none⟩) cn cn])).run Try.prog w' = .ok () (w'.setRow (w.heap.size + 1) #[.int .i64 k, .int .i64 sz, .int .u32 ad, .int .u32 vl, .int .u32 gt, .bool pr, .bool aq, .bool rl, .int .i64 pd, .int .i64 sc, .slice (some ⟨x, 0, none⟩) an an, .slice (some ⟨y, 0, none⟩) dn dn, .slice (some ⟨z, 0, none⟩) cn cn])) ∧ w'.cell? ⟨w.heap.size, 0, none⟩ = some (.int .i64 k) ∧ w'.cell? ⟨w.heap.size, 1, none⟩ = some (.int .i64 sz) ∧ w'.cell? ⟨w.heap.size, 2, none⟩ = some (.int .u32 ad) ∧ w'.cell? ⟨w.heap.size, 3, none⟩ = some (.int .u32 vl) ∧ w'.cell? ⟨w.heap.size, 4, none⟩ = some (.int .u32 gt) ∧ w'.cell? ⟨w.heap.size, 5, none⟩ = some (.bool pr) ∧ w'.cell? ⟨w.heap.size, 6, none⟩ = some (.bool aq) ∧ w'.cell? ⟨w.heap.size, 7, none⟩ = some (.bool rl) ∧ w'.cell? ⟨w.heap.size, 8, none⟩ = some (.int .i64 pd) ∧ w'.cell? ⟨w.heap.size, 9, none⟩ = some (.int .i64 sc) ∧ w'.cell? ⟨w.heap.size, 10, none⟩ = some (.slice aa an ac) ∧ w'.cell? ⟨w.heap.size, 11, none⟩ = some (.slice da dn dc) ∧ w'.cell? ⟨w.heap.size, 12, none⟩ = some (.slice ca cn cc))
    (first
      | exact HS.out
      | (refine Cb.SE.below ?_ bc; assumption)
      | (refine Cb.SE.below ?_ bb; assumption)
      | (refine Cb.SE.below ?_ ba; assumption)
      | (refine Cb.SE.set (CS := #[.int .i64 k, .int .i64 sz, .int .u32 ad, .int .u32 vl, .int .u32 gt, .bool pr, .bool aq, .bool rl, .int .i64 pd, .int .i64 sc, .slice (some ⟨_, 0, none⟩) an an, .slice (some ⟨_, 0, none⟩) dn dn, .slice (some ⟨_, 0, none⟩) cn cn]) ?_ rfl; assumption)
      | with_reducible assumption)
    (first
      | (go_at_call_of 19 (Value.slice aa an ac); refine (HH.out.1 _ HS.out.1).mono ?_; rintro e wa' ⟨rfl, La, sa, ba⟩)
      | (go_at_call_of 19 (Value.slice da dn dc); refine (HH.out.2.1 _ (Cb.SE.below HS.out ba).1).mono ?_; rintro e wb' ⟨rfl, Ld, sb, bb⟩)
      | (go_at_call_of 19 (Value.slice ca cn cc); refine (HH.out.2.2 _ (Cb.SE.below (Cb.SE.below HS.out ba) bb).1).mono ?_; rintro e wc' ⟨rfl, Lc, sc', bc⟩))
  all_goals
    have hx : ∀ A B, ((w.alloc A).alloc B).drew.heap.size = w.heap.size + 1 + 1 := fun A B => by simp
    obtain ⟨B9, l9, ⟨Z, hz, hh⟩, _⟩ : Cb.SE w k sz ad vl gt pd sc pr aq rl aa da ca an ac dn dc cn cc wc' := Cb.SE.below (Cb.SE.below (Cb.SE.below HS.out ba) bb) bc
    rw [hx] at La sa ba
    have L1 := (La.below bb).below bc
    have L2 := Ld.below bc
    have G := Cb.gsetRow wc' (w.heap.size + 1) (opC ⟨k, sz, ad, vl, gt, pr, aq, rl, pd, sc⟩ ⟨some ⟨w.heap.size + 1 + 1, 0, none⟩, an, an⟩ ⟨some ⟨wa'.heap.size, 0, none⟩, dn, dn⟩ ⟨some ⟨wb'.heap.size, 0, none⟩, cn, cn⟩)
    have M1 := Cb.liGrown L1 G (fun g o _ e => by cases e; omega)
    have M2 := Cb.liGrown L2 G (fun g o _ e => by cases e; omega)
    have M3 := Cb.liGrown Lc G (fun g o _ e => by cases e; omega)
    have F := Cb.ldBlk ⟨k, sz, ad, vl, gt, pr, aq, rl, pd, sc⟩ ⟨⟨some ⟨w.heap.size + 1 + 1, 0, none⟩, an, an⟩, ⟨some ⟨wa'.heap.size, 0, none⟩, dn, dn⟩, ⟨some ⟨wb'.heap.size, 0, none⟩, cn, cn⟩⟩ _ (setRow_heap wc' _ Z (opC ⟨k, sz, ad, vl, gt, pr, aq, rl, pd, sc⟩ ⟨some ⟨w.heap.size + 1 + 1, 0, none⟩, an, an⟩ ⟨some ⟨wa'.heap.size, 0, none⟩, dn, dn⟩ ⟨some ⟨wb'.heap.size, 0, none⟩, cn, cn⟩) _ _ hh)
    have B10 := Cb.over B9 G (by omega) (by omega)
    have HX : Hid (_ ∧ _ ∧ _ ∧ _) := ⟨M1, M2, M3, B10⟩
    clear M1 M2 M3 B10 L1 L2 G La Ld Lc
    have s1 : w.heap.size ≤ wa'.heap.size := by omega
    have s2 : w.heap.size ≤ wb'.heap.size := by omega
    unfold opC at F HX
    go_wp2
    refine bodyPost_ret (v := .agg #[.int .i64 k, .int .i64 sz, .int .u32 ad, .int .u32 vl, .int .u32 gt, .bool pr, .bool aq, .bool rl, .int .i64 pd, .int .i64 sc, .slice (some ⟨w.heap.size + 1 + 1, 0, none⟩) an an, .slice (some ⟨wa'.heap.size, 0, none⟩) dn dn, .slice (some ⟨wb'.heap.size, 0, none⟩) cn cn]) (by simp [results, Try.results15, asAddr, ldO_eq, F]) rfl ⟨⟨_, _, _, rfl, by omega, s1, s2, HX.out.1, HX.out.2.1, HX.out.2.2.1⟩, HX.out.2.2.2⟩
end Go.Proofs.Ytbppeehhohdfiaa
