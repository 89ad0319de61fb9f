/- WmoAlone, a way. -/
import Derived.Test.YtahdclmgolpjfaaDoorWmoW
namespace Go.Proofs.YtahdclmgolpjfaaDoor
open Go.ChangeShapes Go.WideShapes Go.ChangeAt Go.RowKit Go.Maps
set_option linter.unusedVariables false
set_option linter.unusedSimpArgs false

attribute [local go_sem ↓] bdO_eq bsO_eq ldO_eq
set_option maxRecDepth 10000 in
set_option maxHeartbeats 1600000 in
theorem alone_n4 (addr size v : Int) (a0 : 0 ≤ addr) (a1 : addr < 4294967296) (s0 : -9223372036854775808 ≤ size) (s1 : size ≤ 9223372036854775807) (v0 : 0 ≤ v) (v1 : v < 4294967296) (hs : size % 3 = 2) (A : Nat → Addr) (w : World) (hS : Sent A w) :
    Calls Tryd.prog 6 #[.int .u32 addr, .int .i64 size, .bool false, .int .u32 v] w fun e w' => e = .returned (.bool true) ∧ Below w.heap.size w w' := by
  have q1 := bdO_w
  have q2 := bdO_lr
  have q3 := bdO_sc
  have q4 := bsO_1
  have q5 := bsO_2
  have q6 := bsO_3
  have c1 := fun w => number_any size 3 s0 s1 (by decide) (by decide) w
  rw [hs] at c1
  have hA := W.adN4 (addr % 12) (by omega) (by omega)
  have HH : Hid (Calls _ _ _ _ _ ∧ _ ∧ _ ∧ _) := ⟨first14_any A w hS, c1, hS, hA⟩
  clear hS c1 hA
  go_enter Tryd.func6, Tryd.ntmps6
  go_wp2_with (fail)
  refine HH.out.1.mono ?_
  rintro e w1 ⟨rfl, bw1⟩
  have hz := cell_of_row _ _ 2 _ _ (0, 0) (heap_alloc_last w1 (.cells #[.int .i64 1, .int .i64 2, .int .i64 4] 3))
  have hz' : (w1.alloc (.cells #[.int .i64 1, .int .i64 2, .int .i64 4] 3)).cell? ⟨w1.heap.size, 2, none⟩ = some (.int .i64 4) := hz
  have hzl : w1.heap.size < (w1.alloc (.cells #[.int .i64 1, .int .i64 2, .int .i64 4] 3)).heap.size := by simp
  have Ba := bw1.alloc bw1.size (.cells #[.int .i64 1, .int .i64 2, .int .i64 4] 3)
  clear hz bw1
  go_wp2_with (fail)
  generalize w1.alloc _ = Wa at *
  refine (HH.out.2.1 _).mono ?_
  rintro e w1' ⟨rfl, rfl⟩
  obtain ⟨AD, eAD⟩ : ∃ AD, AD = bits .andNot .u32 (addr % 12) 3 := ⟨_, rfl⟩
  have hAD := HH.out.2.2.2
  rw [← eAD] at hAD
  have ad0 : 0 ≤ AD := by omega
  have ad1 : AD < 12 := by omega
  have eAD' := eAD.symm
  have M0 := mh_2 Wa [W.oLr, W.oSc] [W.oW 4 AD v] 2 1 rfl rfl 34
  have Bn : Below Wa.heap.size Wa (((Wa.alloc (.cells (opsR [W.oLr, W.oSc]) 38)).alloc (.cells (opsR [W.oW 4 AD v]) 38)).alloc (.cells #[.slice (some ⟨Wa.heap.size, 0, none⟩) 2 2, .slice (some ⟨Wa.heap.size + 1, 0, none⟩) 1 1] 34)) := (((Below.refl _ _).alloc (Nat.le_refl _) _).alloc (by simp) _).alloc (by simp; omega) _
  have Bm := Ba.trans (Bn.mono Ba.size)
  have hS2 := HH.out.2.2.1.below Bm
  have HM : Hid (_ ∧ _ ∧ _ ∧ _) := ⟨M0, Bm, hS2, hAD⟩
  clear M0 Bm Bn hS2 hAD Ba HH eAD
  go_wp2_with (fail)
  have eb : (((Wa.alloc (.cells (opsR [W.oLr, W.oSc]) 38)).alloc (.cells (opsR [W.oW 4 AD v]) 38)).alloc (.cells #[.slice (some ⟨Wa.heap.size, 0, none⟩) 2 2, .slice (some ⟨Wa.heap.size + 1, 0, none⟩) 1 1] 34)).heap.size = Wa.heap.size + 1 + 1 + 1 := by simp
  generalize Wa.heap.size + 1 + 1 = b at *
  generalize World.alloc (World.alloc (World.alloc Wa _) _) _ = W3 at *
  have al := (Below.refl W3.heap.size W3).alloc (Nat.le_refl _) (.cells #[.int .i64 0, .int .i64 0, .int .i64 1, .int .i64 0, .int .i64 0, .int .i64 1] 41)
  have o3 := or_3 W3 0 0 1 0 0 1 41
  rw [eb] at o3
  have M4 := HM.out.1.below al
  have ol : b + 1 < (W3.alloc (.cells #[.int .i64 0, .int .i64 0, .int .i64 1, .int .i64 0, .int .i64 0, .int .i64 1] 41)).heap.size := by simp; omega
  have B4 := HM.out.2.1.trans (al.mono HM.out.2.1.size)
  have S4 := HM.out.2.2.1.below al
  have H4 : Hid (_ ∧ _ ∧ _ ∧ _ ∧ _ ∧ _) := ⟨M4, ol, o3, B4, S4, HM.out.2.2.2⟩
  clear M4 ol o3 B4 S4 HM al eb
  generalize W3.alloc _ = W4 at *
  refine (bytesOf_nil W4).mono ?_
  rintro e w5 ⟨⟨cb, rfl, _, hF⟩, bb⟩
  have M5 := Mem.of H4.out.1 H4.out.2.1 H4.out.2.2.1 bb hF (H4.out.2.2.2.2.1.below bb)
  have B5 := H4.out.2.2.2.1.trans (bb.mono H4.out.2.2.2.1.size)
  have hAD := H4.out.2.2.2.2.2
  have ck := W.ckN4 AD v hAD
  have vl := W.vl_2 [W.oLr, W.oSc] [W.oW 4 AD v] (by decide) (fun o ho => by
    simp only [List.mem_singleton] at ho
    subst ho
    exact ⟨v0, v1⟩)
  by_cases hm : AD < 8 ∧ 4 < AD + 4
  · have ok := chk_ord 2 3 2 3 3 (by decide) rfl rfl M5 (ck.1 hm) vl
    have ok2 : Calls Tryd.prog 14 #[.slice (some ⟨b, 0, none⟩) 2 2, .slice (some ⟨b + 1, 0, none⟩) 3 3, fvZ cb] w5 (fun e w' => (∃ q, e = .returned (.iface 78 (.pointer (some ⟨q, 0, none⟩))) ∧ w'.heap[q]? = some (.cells #[.int .i64 2, ptr A 0] 80)) ∧ Below w5.heap.size w5 w') := ok
    have HC : Hid (Calls _ _ _ _ _ ∧ _ ∧ _) := ⟨ok2, B5, M5.s⟩
    have m1 := hm.1
    have m2 := hm.2
    clear ok ok2 M5 B5 ck vl H4 hF bb hm hAD
    generalize fvZ cb = FV at *
    go_wp2_with (fail)
    refine HC.out.1.mono ?_
    rintro e w6 ⟨⟨q, rfl, hq⟩, b6⟩
    have B6 := HC.out.2.1.trans (b6.mono HC.out.2.1.size)
    have S6 := HC.out.2.2.below b6
    have pl : ∀ w, Calls Tryd.prog 16 #[.int .i64 110, .int .i64 2] w _ := fun w => placed_any 9 2 w
    have HQ : Hid (_ ∧ _ ∧ _ ∧ _) := ⟨pl, hq, B6, S6⟩
    clear pl hq B6 S6 b6 HC
    go_wp2_with (fail)
    refine (HQ.out.1 _).mono ?_
    rintro e w7 ⟨rfl, b7, hc7, hl7⟩
    have hq7 := (b7.block q (Array.getElem?_eq_some_iff.1 HQ.out.2.1).1).trans HQ.out.2.1
    have sm := same_at A 9 (by decide) q (w6.heap.size + 1) 2 w7 (HQ.out.2.2.2.below b7) hq7 hc7
    have HS2 : Hid (Calls _ _ _ _ _ ∧ _) := ⟨sm, HQ.out.2.2.1.trans (b7.mono HQ.out.2.2.1.size)⟩
    clear sm hq7 hc7 hl7 b7 HQ
    go_wp2_with (fail)
    refine HS2.out.1.mono ?_
    rintro e w8 ⟨rfl, b8⟩
    have B8 := HS2.out.2.trans (b8.mono HS2.out.2.size)
    clear b8 HS2
    go_wp2
    go_ret
    exact ⟨rfl, B8⟩
  · have ok := chk_ok 2 3 2 3 rfl rfl M5 (ck.2 hm) vl
    have HC : Hid (Calls _ _ _ _ _ ∧ _) := ⟨ok, B5⟩
    clear ok M5 B5 ck vl H4 hF bb hAD
    generalize fvZ cb = FV at *
    go_wp2_with (fail)
    refine HC.out.1.mono ?_
    rintro e w6 ⟨rfl, b6⟩
    have B6 := HC.out.2.trans (b6.mono HC.out.2.size)
    clear b6 HC
    by_cases m1 : AD < 8
    · have m2 : ¬ 4 < AD + 4 := fun h => hm ⟨m1, h⟩
      clear hm
      go_wp2
      go_ret
      exact ⟨rfl, B6⟩
    · clear hm
      go_wp2
      go_ret
      exact ⟨rfl, B6⟩
end Go.Proofs.YtahdclmgolpjfaaDoor
