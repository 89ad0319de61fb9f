/- Texts in one: DepS1. -/
import Derived.Test.YtopehmpjfndgjaaJ43
/- The laws' first. -/
namespace Go.Proofs.Ytopehmpjfndgjaa
open Go.ChangeShapes Go.WideShapes Go.ChangeAt Go.RowKit
set_option linter.unusedVariables false
set_option linter.unusedSimpArgs false

theorem li_one (w : World) (T : TypeId) (x : Int) : Li ⟨some ⟨w.heap.size, 0, none⟩, 1, 1⟩ [x] (w.alloc (.cells #[.int .i64 x] T)) :=
  li_some rfl (by decide) (Nat.le_refl _) (by simp) (fun j y hy => by
    match j, hy with
    | 0, hy => simp at hy; subst hy; exact cell_of_row _ _ 0 _ T (0, 0) (heap_alloc_last w _))
attribute [local go_sem ↓] bdT_eq bsT_eq
set_option maxRecDepth 100000 in
set_option maxHeartbeats 1600000 in
theorem first12_any (w : World) : Calls Try.prog 7 #[] w fun e w' => e = .returned (.bool true) ∧ Below w.heap.size w w' := by
  have r1 : W.Rg (W.itw 73859).wd := ⟨by decide, by decide⟩
  have r2 : W.Rg (W.itw 1155107).wd := ⟨by decide, by decide⟩
  have r3 : W.Rg (W.itw 33891).wd := ⟨by decide, by decide⟩
  have r4 : W.Rg (W.itw 4300835).wd := ⟨by decide, by decide⟩
  have c1 := fun w => cword_any 13 1 2 0 0 (by decide) (by decide) _ W.w_lw.1 W.w_lw.2 w
  have c2 := fun w => cword_any 18 0 3 1 0 (by decide) (by decide) _ W.w_sw.1 W.w_sw.2 w
  have c3 := fun w => cword_any 5 0 1 0 8 (by decide) (by decide) _ W.w_beq.1 W.w_beq.2 w
  have c4 := fun w => cword_any 18 0 3 4 0 (by decide) (by decide) _ W.w_sw4.1 W.w_sw4.2 w
  have o1 := fun w => ops_oi _ 2 2 _ _ (its_2 (W.itw 73859) (W.itw 1155107) w r1 r2) (by decide) _ rfl
  have o2 := fun w => ops_oi _ 3 3 _ _ (its_3 (W.itw 73859) (W.itw 33891) (W.itw 4300835) w r1 r3 r4) (by decide) _ rfl
  have ra := W.run_a
  have rb := W.run_b
  generalize (W.runN (W.itTwo (W.itw 73859) (W.itw 1155107)) 2).p = PA at *
  generalize (W.runN (W.itThree (W.itw 73859) (W.itw 33891) (W.itw 4300835)) 3).p = PB at *
  have hd := bdT_any
  have h2 := bsT_2 (W.itw 73859) (W.itw 1155107)
  have h3 := bsT_3 (W.itw 73859) (W.itw 33891) (W.itw 4300835)
  have HH : Hid (_ ∧ _ ∧ _ ∧ _ ∧ _ ∧ _ ∧ _ ∧ _) := ⟨c1, c2, c3, c4, o1, o2, ra, rb⟩
  clear c1 c2 c3 c4 o1 o2 ra rb r1 r2 r3 r4
  go_enter Try.func7, Try.ntmps7
  go_wp2_with (fail)
  refine (HH.out.1 _).mono ?_
  rintro e w1 ⟨rfl, b1⟩
  go_wp2_with (fail)
  refine (HH.out.2.1 _).mono ?_
  rintro e w2 ⟨rfl, b2⟩
  go_wp2_with (fail)
  refine (HH.out.2.2.2.2.1 w2).mono ?_
  rintro e w3 ⟨⟨OA, rfl, iA⟩, b3⟩
  have B3 := b1.trans ((b2.trans (((Below.refl _ _).alloc (Nat.le_refl _) _).trans (b3.mono (by simp)) |>.mono b2.size)).mono b1.size)
  clear b1 b2 b3 h2
  go_wp2_with (fail)
  refine (HH.out.1 _).mono ?_
  rintro e w4 ⟨rfl, b4⟩
  go_wp2_with (fail)
  refine (HH.out.2.2.1 _).mono ?_
  rintro e w5 ⟨rfl, b5⟩
  go_wp2_with (fail)
  refine (HH.out.2.2.2.1 _).mono ?_
  rintro e w6 ⟨rfl, b6⟩
  go_wp2_with (fail)
  refine (HH.out.2.2.2.2.2.1 w6).mono ?_
  rintro e w7 ⟨⟨OB, rfl, iB⟩, b7⟩
  have B7 : Below w3.heap.size w3 w7 := b4.trans ((b5.trans ((b6.trans (((Below.refl _ _).alloc (Nat.le_refl _) _).trans (b7.mono (by simp)) |>.mono b6.size)).mono b5.size)).mono b4.size)
  have iA7 := iA.below B7
  have B8 := B3.trans (B7.mono B3.size)
  clear b4 b5 b6 b7 B7 B3 iA h3 hd
  obtain ⟨nA, gA, aA, dA, cA, eA, lA, x10, x11, x12, liA, ldA, lcA⟩ := iA7.one _ HH.out.2.2.2.2.2.2.1 1 _ rfl
  obtain ⟨nB, gB, aB, dB, cB, eB, lB, y10, y11, y12, liB, ldB, lcB⟩ := iB.one _ HH.out.2.2.2.2.2.2.2 1 _ rfl
  clear iA7 iB HH
  obtain ⟨a1, n1, k1⟩ := OA
  obtain ⟨a2, n2, k2⟩ := OB
  simp only at nA eA nB eB
  subst nA eA nB eB
  have zA : aA.n = 0 := liA.n
  obtain ⟨aa, an, ac⟩ := aA
  simp only at zA
  subst zA
  have s1 := fun w' (hb : Below w7.heap.size w7 w') (t : W.Sl) (ht : Li t [0] w') => sameints_any dA t [0] [0] w' (ldA.below hb) ht
  have s2 := fun w' (hb : Below w7.heap.size w7 w') (t : W.Sl) (ht : Li t [0] w') => sameints_any cB t [0] [0] w' (lcB.below hb) ht
  have HS : Hid (_ ∧ _) := ⟨s1, s2⟩
  clear s1 s2 liA ldA lcA liB ldB lcB
  simp only [Nat.one_mul, Nat.reduceAdd] at x10 x11 x12 y10 y11 y12
  unfold slV at x10
  unfold slV
  dsimp only
  go_wp2_with (fail)
  refine (HS.out.1 _ ((Below.refl _ _).alloc (Nat.le_refl _) _) ⟨some ⟨w7.heap.size, 0, none⟩, 1, 1⟩ (li_one w7 _ 0)).mono ?_
  rintro e w8 ⟨rfl, b8⟩
  have b78 : Below w7.heap.size w7 w8 := ((Below.refl _ _).alloc (Nat.le_refl _) _).trans (b8.mono (by simp))
  have z10 := (b78.cell (p := ⟨gA, 23, none⟩) lA).trans x10
  have z12 := (b78.cell (p := ⟨gB, 25, none⟩) lB).trans y12
  have lA8 : gA < w8.heap.size := Nat.lt_of_lt_of_le lA b78.size
  have lB8 : gB < w8.heap.size := Nat.lt_of_lt_of_le lB b78.size
  clear x10 x11 x12 y10 y11 y12 b8
  go_wp2_with (fail)
  refine (HS.out.2 _ (b78.alloc b78.size _) ⟨some ⟨w8.heap.size, 0, none⟩, 1, 1⟩ (li_one w8 _ 0)).mono ?_
  rintro e w9 ⟨rfl, b9⟩
  have B9 := B8.trans ((b78.trans (((Below.refl _ _).alloc (Nat.le_refl _) _).trans (b9.mono (by simp)) |>.mono b78.size)).mono B8.size)
  go_wp2
  go_ret
  exact ⟨rfl, B9⟩
end Go.Proofs.Ytopehmpjfndgjaa
