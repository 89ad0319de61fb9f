/- WmoAlone, a way. -/
import Derived.Test.YtahdclmgolpjfaaDoorWmoW
namespace Go.Proofs.YtahdclmgolpjfaaDoor
open Go.ChangeShapes Go.WideShapes Go.ChangeAt Go.RowKit Go.Maps
set_option linter.unusedVariables false
set_option linter.unusedSimpArgs false

attribute [local go_sem ↓] bdO_eq bsO_eq ldO_eq
set_option maxRecDepth 10000 in
set_option maxHeartbeats 1600000 in
theorem alone_o2 (addr size v : Int) (a0 : 0 ≤ addr) (a1 : addr < 4294967296) (s0 : -9223372036854775808 ≤ size) (s1 : size ≤ 9223372036854775807) (v0 : 0 ≤ v) (v1 : v < 4294967296) (hs : size % 3 = 1) (A : Nat → Addr) (w : World) (hS : Sent A w) :
    Calls Tryd.prog 6 #[.int .u32 addr, .int .i64 size, .bool true, .int .u32 v] w fun e w' => e = .returned (.bool true) ∧ Below w.heap.size w w' := by
  have q1 := bdO_w
  have q2 := bdO_lr
  have q3 := bdO_sc
  have q4 := bsO_1
  have q5 := bsO_2
  have q6 := bsO_3
  have c1 := fun w => number_any size 3 s0 s1 (by decide) (by decide) w
  rw [hs] at c1
  have hA := W.adN2 (addr % 12) (by omega) (by omega)
  have HH : Hid (Calls _ _ _ _ _ ∧ _ ∧ _ ∧ _) := ⟨first14_any A w hS, c1, hS, hA⟩
  clear hS c1 hA
  go_enter Tryd.func6, Tryd.ntmps6
  go_wp2_with (fail)
  refine HH.out.1.mono ?_
  rintro e w1 ⟨rfl, bw1⟩
  have hz := cell_of_row _ _ 1 _ _ (0, 0) (heap_alloc_last w1 (.cells #[.int .i64 1, .int .i64 2, .int .i64 4] 3))
  have hz' : (w1.alloc (.cells #[.int .i64 1, .int .i64 2, .int .i64 4] 3)).cell? ⟨w1.heap.size, 1, none⟩ = some (.int .i64 2) := hz
  have hzl : w1.heap.size < (w1.alloc (.cells #[.int .i64 1, .int .i64 2, .int .i64 4] 3)).heap.size := by simp
  have Ba := bw1.alloc bw1.size (.cells #[.int .i64 1, .int .i64 2, .int .i64 4] 3)
  clear hz bw1
  go_wp2_with (fail)
  generalize w1.alloc _ = Wa at *
  refine (HH.out.2.1 _).mono ?_
  rintro e w1' ⟨rfl, rfl⟩
  obtain ⟨AD, eAD⟩ : ∃ AD, AD = bits .andNot .u32 (addr % 12) 1 := ⟨_, rfl⟩
  have hAD := HH.out.2.2.2
  rw [← eAD] at hAD
  have ad0 : 0 ≤ AD := by omega
  have ad1 : AD < 12 := by omega
  have eAD' := eAD.symm
  have M0 := mh_2 Wa [W.oLr, W.oSc] [W.oW 2 AD v] 2 1 rfl rfl 34
  have Bn : Below Wa.heap.size Wa (((Wa.alloc (.cells (opsR [W.oLr, W.oSc]) 38)).alloc (.cells (opsR [W.oW 2 AD v]) 38)).alloc (.cells #[.slice (some ⟨Wa.heap.size, 0, none⟩) 2 2, .slice (some ⟨Wa.heap.size + 1, 0, none⟩) 1 1] 34)) := (((Below.refl _ _).alloc (Nat.le_refl _) _).alloc (by simp) _).alloc (by simp; omega) _
  have Bm := Ba.trans (Bn.mono Ba.size)
  have hS2 := HH.out.2.2.1.below Bm
  have HM : Hid (_ ∧ _ ∧ _ ∧ _) := ⟨M0, Bm, hS2, hAD⟩
  clear M0 Bm Bn hS2 hAD Ba HH eAD
  go_wp2_with (fail)
  have eb : (((Wa.alloc (.cells (opsR [W.oLr, W.oSc]) 38)).alloc (.cells (opsR [W.oW 2 AD v]) 38)).alloc (.cells #[.slice (some ⟨Wa.heap.size, 0, none⟩) 2 2, .slice (some ⟨Wa.heap.size + 1, 0, none⟩) 1 1] 34)).heap.size = Wa.heap.size + 1 + 1 + 1 := by simp
  have gsz : Wa.heap.size + 0 = Wa.heap.size := rfl
  have al := (Below.refl _ (((Wa.alloc (.cells (opsR [W.oLr, W.oSc]) 38)).alloc (.cells (opsR [W.oW 2 AD v]) 38)).alloc (.cells #[.slice (some ⟨Wa.heap.size, 0, none⟩) 2 2, .slice (some ⟨Wa.heap.size + 1, 0, none⟩) 1 1] 34))).alloc (Nat.le_refl _) (.cells #[.int .i64 0, .int .i64 0, .int .i64 1, .int .i64 0, .int .i64 0, .int .i64 1] 41)
  have M4 := HM.out.1.below al
  have B4 := HM.out.2.1.trans (al.mono HM.out.2.1.size)
  have S4 := HM.out.2.2.1.below al
  have x0 : _ = some (Value.slice (some ⟨Wa.heap.size, 0, none⟩) 2 2) := M4.o 0 (by simp)
  have x1 : _ = some (Value.slice (some ⟨Wa.heap.size + 1, 0, none⟩) 1 1) := M4.o 1 (by simp)
  have xl := M4.bl
  have y0 := (M4.below (Below.refl _ _).drew).i 0 (by simp)
  have y1 := (M4.below (Below.refl _ _).drew).i 1 (by simp)
  have l0 := ldO_row [W.oLr, W.oSc] _ y0 0 _ rfl
  have l1 := ldO_row [W.oLr, W.oSc] _ y0 1 _ rfl
  have l2 := ldO_row [W.oW 2 AD v] _ y1 0 _ rfl
  simp only [Nat.zero_mul, Nat.one_mul, Nat.add_zero] at l0 l1 l2
  have H4 : Hid (_ ∧ _ ∧ _) := ⟨B4, S4, HM.out.2.2.2⟩
  clear M4 B4 S4 HM al eb y0 y1 gsz
  generalize World.alloc (World.alloc (World.alloc (World.alloc Wa _) _) _) _ = W4 at *
  have M5 := mh_1 W4 [W.oLr, W.oW 2 AD v, W.oSc] 3 rfl 34 (.cells #[.int .i64 0, .int .i64 0, .int .i64 0, .int .i64 1, .int .i64 0, .int .i64 2] 41)
  have o5 := or_3' W4 (.cells (opsR [W.oLr, W.oW 2 AD v, W.oSc]) 38) (.cells #[.slice (some ⟨W4.heap.size, 0, none⟩) 3 3] 34) 0 0 0 1 0 2 41
  have al : Below W4.heap.size W4 (((W4.alloc (.cells (opsR [W.oLr, W.oW 2 AD v, W.oSc]) 38)).alloc (.cells #[.slice (some ⟨W4.heap.size, 0, none⟩) 3 3] 34)).alloc (.cells #[.int .i64 0, .int .i64 0, .int .i64 0, .int .i64 1, .int .i64 0, .int .i64 2] 41)) := (((Below.refl _ _).alloc (Nat.le_refl _) _).alloc (by simp) _).alloc (by simp; omega) _
  have ol : W4.heap.size + 1 + 1 < (((W4.alloc (.cells (opsR [W.oLr, W.oW 2 AD v, W.oSc]) 38)).alloc (.cells #[.slice (some ⟨W4.heap.size, 0, none⟩) 3 3] 34)).alloc (.cells #[.int .i64 0, .int .i64 0, .int .i64 0, .int .i64 1, .int .i64 0, .int .i64 2] 41)).heap.size := by simp
  have B5 := H4.out.1.trans (al.mono H4.out.1.size)
  have S5 := H4.out.2.1.below al
  have H5 : Hid (_ ∧ _ ∧ _ ∧ _ ∧ _ ∧ _) := ⟨M5, o5, ol, B5, S5, H4.out.2.2⟩
  clear M5 o5 ol B5 S5 H4 al
  go_region
  go_wp2_with (fail)
  generalize World.alloc (World.alloc (World.alloc W4 _) _) _ = W5 at *
  generalize W4.heap.size + 1 + 1 = ob at *
  generalize W4.heap.size + 1 = b at *
  refine (bytesOf_nil W5.drew).mono ?_
  rintro e w5 ⟨⟨cb, rfl, _, hF⟩, bb0⟩
  have bb := (Below.refl W5.heap.size W5).drew.trans bb0
  have M6 := Mem.of H5.out.1 H5.out.2.2.1 H5.out.2.1 bb hF (H5.out.2.2.2.2.1.below bb)
  have B6 := H5.out.2.2.2.1.trans (bb.mono H5.out.2.2.2.1.size)
  have ck := W.ckO2 AD v H5.out.2.2.2.2.2
  have vl := W.vl_1 [W.oLr, W.oW 2 AD v, W.oSc] (fun o ho => by
    simp only [List.mem_cons, List.mem_nil_iff, or_false] at ho
    rcases ho with rfl | rfl | rfl
    · decide
    · exact ⟨v0, v1⟩
    · decide)
  have ok := chk_ok 1 3 1 3 rfl rfl M6 ck vl
  have HC : Hid (Calls _ _ _ _ _ ∧ _) := ⟨ok, B6⟩
  clear ok M6 B6 ck vl H5 hF bb bb0
  generalize fvZ cb = FV at *
  go_wp2_with (fail)
  refine HC.out.1.mono ?_
  rintro e w6 ⟨rfl, b6⟩
  have B7 := HC.out.2.trans (b6.mono HC.out.2.size)
  clear b6 HC
  by_cases m1 : AD < 8
  · by_cases m2 : 4 < AD + 2
    · go_wp2
      go_ret
      exact ⟨rfl, B7⟩
    · go_wp2
      go_ret
      exact ⟨rfl, B7⟩
  · go_wp2
    go_ret
    exact ⟨rfl, B7⟩
end Go.Proofs.YtahdclmgolpjfaaDoor
