/- home: getS. -/
import Derived.Test.YtadkpelcbnljbaaHomK
namespace Go.Proofs.Ytadkpelcbnljbaa
open Go.ChangeShapes Go.WideShapes Go.ChangeAt Go.RowKit
set_option linter.unusedVariables false
set_option linter.unusedSimpArgs false
attribute [local go_sem ↓] ldM_eq stM_eq bdM_eq bsM_eq
variable {n0 hb : Nat} {s s' : W.Hm} {sv av sv' av' sv'' av'' : Value} {w w' w'' : World}

theorem Res.oneB {s' : W.Hm} (H : Ho n0 hb s' sv' av' w') (hu : Hu hb sv av sv' av' w w') (M : W.Mg) {B : Nat} (hB : w'.heap.size = B) : Res n0 hb (s', [M]) sv av w (.returned (.slice (some ⟨B, 0, none⟩) 1 1)) (w'.alloc (.cells (mgL M).toArray 35)) := by
  subst hB
  exact Res.one H hu M
theorem getS_share (H : Ho n0 hb s sv av w) (r : Int) (q1 : s.ow ≠ -1) (q2 : s.ow ≠ r) : Calls Try.prog 27 #[.pointer (some ⟨hb, 0, none⟩), .int .i64 r] w fun e w' => Res n0 hb (W.gS s r) sv av w e w' := by
  have HO : Hid (W.gS s r = ({ s with sv := r, b_ := 1, te := s.ow }, [W.msg s 5 s.ow])) := by
    show W.gS s r = _
    unfold W.gS
    rw [if_pos ⟨q1, q2⟩]
  have n1 : (s.ow != -1) = true := by simpa using q1
  have n2 : (s.ow != r) = true := by simpa using q2
  have c6 : w.cell? ⟨hb, 6, none⟩ = some (.int .i64 s.ow) := H.c 6 (by decide)
  have c8 : w.cell? ⟨hb, 8, none⟩ = some (.int .i64 s.sv) := H.c 8 (by decide)
  have c9 : w.cell? ⟨hb, 9, none⟩ = some (.int .i64 s.b_) := H.c 9 (by decide)
  have c11 : w.cell? ⟨hb, 11, none⟩ = some (.int .i64 s.te) := H.c 11 (by decide)
  have f8 := H.b.fz 8
  have f9 := H.b.fz 9
  have f11 := H.b.fz 11
  have h1 := H.put 8 (.int .i64 r) { s with sv := r } (upd_sv s sv av r) rfl rfl
  have h2 := h1.1.put 9 (.int .i64 1) { s with sv := r, b_ := 1 } (upd_by _ sv av 1) rfl rfl
  have h3 := h2.1.put 11 (.int .i64 s.ow) { s with sv := r, b_ := 1, te := s.ow } (upd_te _ sv av s.ow) rfl rfl
  have HH : Hid (_ ∧ _) := ⟨h3.1, (h1.2.trans h2.2).trans h3.2⟩
  have HM : Hid (Calls _ _ _ _ _) := msg_any (s := s) (h3.1.c 0 (by decide)) 5 s.ow
  clear H q1 q2 h1 h2 h3
  go_enter Try.func27, Try.ntmps27
  go_wp2_with (fail)
  refine HM.out.mono ?_
  rintro e w1 ⟨rfl, hb1⟩
  have bs := bsM_any (W.msg s 5 s.ow)
  have HB : Hid (_) := hb1
  have HR := Res.one (HH.out.1.below HB.out) (HH.out.2.trans (Hu.of_below HB.out)) (W.msg s 5 s.ow)
  have HR : Hid (_) := HR
  generalize W.msg s 5 s.ow = M at *
  clear hb1
  go_wp2_with (fail)
  go_ret
  rw [HO.out]
  exact HR.out
end Go.Proofs.Ytadkpelcbnljbaa
