/- wmo: Check of operations that are written out, whatever their order. -/
import Derived.Test.YtibohlbkkaghkaaDoorWmoU
import Derived.Test.YtibohlbkkaghkaaDoorWmoS2
namespace Go.Proofs.YtibohlbkkaghkaaDoor
open Go.ChangeShapes Go.WideShapes Go.ChangeAt Go.RowKit Go.Maps
set_option linter.unusedVariables false
set_option linter.unusedSimpArgs false

namespace W
def tuM (LL : List (List Opr)) (rs : List (Nat × Nat)) : Int := turF (fun h => tin (xM LL h) (plc (rM rs) rs.length h) (nM LL h)) LL.length
def ckE (LL : List (List Opr)) (rs : List (Nat × Nat)) : Bool := vdB LL && orB LL rs && all LL.length (fun h => decide (nM LL h ≤ 4000)) && decide (rs.length ≤ 4096) && frB (stM LL rs) (rs.length + 1) && lrB (stM LL rs) (rs.length + 1)
def ckC (LL : List (List Opr)) (rs : List (Nat × Nat)) (m1 m2 : Nat) : Bool := ckE LL rs && upB (okRb (stM LL rs)) m1 (rs.length + 1) && upB (okPb (stM LL rs)) m2 (rs.length + 1)
end W
theorem Mem.ck2 {b ob cb : Nat} {LL : List (List W.Opr)} {rs : List (Nat × Nat)} {gs : Nat → Nat} {A : Nat → Addr} {w : World} (KC : Nat) (m1 m2 : Nat) (h : Mem b ob cb LL rs gs A w) (hc : W.ckC LL rs m1 m2 = true) (hv : ∀ h i, 0 ≤ (W.xM LL h i).o.vl ∧ (W.xM LL h i).o.vl < 4294967296) :
    Ck2 b LL.length KC (fun h => some ⟨gs h, 0, none⟩) (W.nM LL) (W.nM LL) (W.xM LL) W.sM (some ⟨ob, 0, none⟩) rs.length (W.rM rs) cb A w ∧ (∀ p, p < m1 → W.okR (W.stM LL rs) p) ∧ (m1 < rs.length + 1 → ¬ W.okR (W.stM LL rs) m1) ∧ (∀ p, p < m2 → W.okP (W.stM LL rs) p) ∧ (m2 < rs.length + 1 → ¬ W.okP (W.stM LL rs) m2) := by
  unfold W.ckC W.ckE at hc
  simp only [Bool.and_eq_true, decide_eq_true_eq] at hc
  obtain ⟨⟨⟨⟨⟨⟨⟨h1, h2⟩, h3⟩, h4⟩, h5⟩, h6⟩, h7⟩, h8⟩ := hc
  have hl := fun p hp => W.all_ok h6 p hp
  simp only [Bool.and_eq_true, decide_eq_true_eq] at hl
  have hvl : ∀ p, 0 ≤ (W.stM LL rs p).o.vl ∧ (W.stM LL rs p).o.vl < 4294967296 := W.stp_P (fun o => 0 ≤ o.vl ∧ o.vl < 4294967296) _ _ _ _ _ _ ⟨Int.le_refl _, (by decide : (0 : Int) < 4294967296)⟩ hv
  refine ⟨⟨hf_rows b LL gs _ h.bl h.o h.i, W.vdB_ok LL h1, os_rows ob rs h.ol h.r, W.orB_ok LL rs h2, fun i hi => of_decide_eq_true (W.all_ok h3 i hi), h.f, h.s, h4, fun p hp hr k hk => W.frB_ok _ _ h5 hvl p hp hr k hk, fun p hp => (hl p hp).1, fun p hp h0 => ?_⟩, fun p hp => (W.okRb_iff _ _).1 (W.upB_1 h7 p hp), fun hm e => W.upB_2 h7 hm ((W.okRb_iff _ _).2 e), fun p hp => (W.okPb_iff _ _).1 (W.upB_1 h8 p hp), fun hm e => W.upB_2 h8 hm ((W.okPb_iff _ _).2 e)⟩
  have := (hl p hp).2
  rw [Bool.or_eq_true] at this
  rcases this with this | this
  · rw [Bool.not_eq_true', decide_eq_false_iff_not] at this
    exact absurd h0 this
  · exact of_decide_eq_true this
theorem chk2_ok {b ob cb : Nat} {LL : List (List W.Opr)} {rs : List (Nat × Nat)} {gs : Nat → Nat} {A : Nat → Addr} {w : World} (K N KC oc : Nat) (hK : K = LL.length) (hN : N = rs.length) (h : Mem b ob cb LL rs gs A w) (hc : W.ckC LL rs (rs.length + 1) (rs.length + 1) = true) (tu : W.tuM LL rs = 0) (hv : ∀ h i, 0 ≤ (W.xM LL h i).o.vl ∧ (W.xM LL h i).o.vl < 4294967296) :
    Calls Tryd.prog 14 #[.slice (some ⟨b, 0, none⟩) K KC, .slice (some ⟨ob, 0, none⟩) N oc, fvZ cb] w fun e w' => e = .returned .nilIface ∧ Below w.heap.size w w' := by
  subst hK hN
  obtain ⟨h1, h2, h3, h4, h5⟩ := h.ck2 KC _ _ hc hv
  exact check2_ok b _ KC _ _ _ _ _ _ _ oc _ cb A w h1 tu _ rfl _ rfl h2 h3 h4 h5
theorem chk2_val {b ob cb : Nat} {LL : List (List W.Opr)} {rs : List (Nat × Nat)} {gs : Nat → Nat} {A : Nat → Addr} {w : World} (K N KC oc m1 : Nat) (hm : 1 ≤ m1 ∧ m1 < rs.length + 1) (m2 : Nat) (hm2 : m2 ≤ rs.length + 1) (hK : K = LL.length) (hN : N = rs.length) (h : Mem b ob cb LL rs gs A w) (hc : W.ckC LL rs m1 m2 = true) (tu : W.tuM LL rs = 0) (hv : ∀ h i, 0 ≤ (W.xM LL h i).o.vl ∧ (W.xM LL h i).o.vl < 4294967296) :
    Calls Tryd.prog 14 #[.slice (some ⟨b, 0, none⟩) K KC, .slice (some ⟨ob, 0, none⟩) N oc, fvZ cb] w fun e w' => (∃ q, e = .returned (.iface 78 (.pointer (some ⟨q, 0, none⟩))) ∧ w'.heap[q]? = some (.cells #[.int .i64 ((m1 : Int) - 1), ptr A 1] 80)) ∧ Below w.heap.size w w' := by
  subst hK hN
  obtain ⟨h1, h2, h3, h4, h5⟩ := h.ck2 KC _ _ hc hv
  exact check2_val b _ KC _ _ _ _ _ _ _ oc _ cb A w h1 tu m1 hm m2 hm2 h2 h3 h4 h5
theorem chk2_ord {b ob cb : Nat} {LL : List (List W.Opr)} {rs : List (Nat × Nat)} {gs : Nat → Nat} {A : Nat → Addr} {w : World} (K N KC oc m2 : Nat) (hm : 1 ≤ m2 ∧ m2 < rs.length + 1) (hK : K = LL.length) (hN : N = rs.length) (h : Mem b ob cb LL rs gs A w) (hc : W.ckC LL rs (rs.length + 1) m2 = true) (tu : W.tuM LL rs = 0) (hv : ∀ h i, 0 ≤ (W.xM LL h i).o.vl ∧ (W.xM LL h i).o.vl < 4294967296) :
    Calls Tryd.prog 14 #[.slice (some ⟨b, 0, none⟩) K KC, .slice (some ⟨ob, 0, none⟩) N oc, fvZ cb] w fun e w' => (∃ q, e = .returned (.iface 78 (.pointer (some ⟨q, 0, none⟩))) ∧ w'.heap[q]? = some (.cells #[.int .i64 ((m2 : Int) - 1), ptr A 0] 80)) ∧ Below w.heap.size w w' := by
  subst hK hN
  obtain ⟨h1, h2, h3, h4, h5⟩ := h.ck2 KC _ _ hc hv
  exact check2_ord b _ KC _ _ _ _ _ _ _ oc _ cb A w h1 tu _ rfl m2 hm h2 h3 h4 h5
theorem Mem.ckE {b ob cb : Nat} {LL : List (List W.Opr)} {rs : List (Nat × Nat)} {gs : Nat → Nat} {A : Nat → Addr} {w : World} (KC : Nat) (h : Mem b ob cb LL rs gs A w) (hc : W.ckE LL rs = true) (hv : ∀ h i, 0 ≤ (W.xM LL h i).o.vl ∧ (W.xM LL h i).o.vl < 4294967296) :
    Ck2 b LL.length KC (fun h => some ⟨gs h, 0, none⟩) (W.nM LL) (W.nM LL) (W.xM LL) W.sM (some ⟨ob, 0, none⟩) rs.length (W.rM rs) cb A w := by
  unfold W.ckE at hc
  simp only [Bool.and_eq_true, decide_eq_true_eq] at hc
  obtain ⟨⟨⟨⟨⟨h1, h2⟩, h3⟩, h4⟩, h5⟩, h6⟩ := hc
  have hl := fun p hp => W.all_ok h6 p hp
  simp only [Bool.and_eq_true, decide_eq_true_eq] at hl
  have hvl : ∀ p, 0 ≤ (W.stM LL rs p).o.vl ∧ (W.stM LL rs p).o.vl < 4294967296 := W.stp_P (fun o => 0 ≤ o.vl ∧ o.vl < 4294967296) _ _ _ _ _ _ ⟨Int.le_refl _, (by decide : (0 : Int) < 4294967296)⟩ hv
  refine ⟨hf_rows b LL gs _ h.bl h.o h.i, W.vdB_ok LL h1, os_rows ob rs h.ol h.r, W.orB_ok LL rs h2, fun i hi => of_decide_eq_true (W.all_ok h3 i hi), h.f, h.s, h4, fun p hp hr k hk => W.frB_ok _ _ h5 hvl p hp hr k hk, fun p hp => (hl p hp).1, fun p hp h0 => ?_⟩
  have := (hl p hp).2
  rw [Bool.or_eq_true] at this
  rcases this with this | this
  · rw [Bool.not_eq_true', decide_eq_false_iff_not] at this
    exact absurd h0 this
  · exact of_decide_eq_true this
theorem chk2_tur {b ob cb : Nat} {LL : List (List W.Opr)} {rs : List (Nat × Nat)} {gs : Nat → Nat} {A : Nat → Addr} {w : World} (K N KC oc p : Nat) (p0 : 1 ≤ p) (p1 : p ≤ 4500) (hK : K = LL.length) (hN : N = rs.length) (h : Mem b ob cb LL rs gs A w) (hc : W.ckE LL rs = true) (tu : W.tuM LL rs = (p : Int)) (hv : ∀ h i, 0 ≤ (W.xM LL h i).o.vl ∧ (W.xM LL h i).o.vl < 4294967296) :
    Calls Tryd.prog 14 #[.slice (some ⟨b, 0, none⟩) K KC, .slice (some ⟨ob, 0, none⟩) N oc, fvZ cb] w fun e w' => (∃ q, e = .returned (.iface 78 (.pointer (some ⟨q, 0, none⟩))) ∧ w'.heap[q]? = some (.cells #[.int .i64 ((p : Int) - 1), ptr A 0] 80)) ∧ Below w.heap.size w w' := by
  subst hK hN
  have h1 := h.ckE KC hc hv
  exact check2_tur b _ KC _ _ _ _ _ _ _ oc _ cb A w h1 p p0 p1 tu
end Go.Proofs.YtibohlbkkaghkaaDoor
