/- home: both homes. -/
import Derived.Test.YthkielaicnmaeaaHomX3
import Derived.Test.YthkielaicnmaeaaHomW
namespace Go.Proofs.Ythkielaicnmaeaa
open Go.ChangeShapes Go.WideShapes Go.ChangeAt Go.RowKit
set_option linter.unusedVariables false
set_option linter.unusedSimpArgs false
attribute [local go_sem ↓] ldM_eq stM_eq bdM_eq bsM_eq
theorem dtake_any {n0 db : Nat} {d : W.Dm} {sv wv : Value} {w : World} (H : Dh n0 db d sv wv w) (m : W.Mg) (hk : m.k = 1 ∨ m.k = 2 ∨ m.k = 3 ∨ m.k = 10 ∨ m.k = 11 ∨ m.k = 12) (hl : d.sh.length ≤ 4090) (hl2 : d.ws.length ≤ 4090) (hs0 : 0 ≤ d.hs) (hs4 : d.hs ≤ 4) : Calls Try.prog 16 #[.pointer (some ⟨db, 0, none⟩), mgV m] w fun e w' => Rsd n0 db (W.dtake d m) sv wv w e w' := by
  unfold W.dtake
  rcases hk with e | e | e | e | e | e
  · rw [if_pos e]; exact dtake_S H m e hl
  · rw [if_neg (by omega), if_pos e]; exact dtake_M H m e hl hs0 hs4
  · rw [if_neg (by omega), if_neg (by omega), if_pos e]; exact dtake_P H m e hl hl2
  · rw [if_neg (by omega), if_neg (by omega), if_neg (by omega), if_pos e]; exact dtake_A H m e hl hl2
  · rw [if_neg (by omega), if_neg (by omega), if_neg (by omega), if_neg (by omega), if_pos e]
    by_cases h2 : d.k = 2
    · rw [if_pos h2]; exact dtake_B2 H m e hl hl2 h2
    · rw [if_neg h2]; exact dtake_B1 H m e hl hl2 h2
  · rw [if_neg (by omega), if_neg (by omega), if_neg (by omega), if_neg (by omega), if_neg (by omega)]; exact dtake_D H m e hl hl2
theorem rnew_any (l hs x0 x1 x2 x3 : Int) (w : World) : Calls Try.prog 10 #[.int .i64 l, .int .i64 hs, .agg #[.int .u32 x0, .int .u32 x1, .int .u32 x2, .int .u32 x3]] w fun e w' => e = .returned (.pointer (some ⟨w.heap.size + 1, 0, none⟩)) ∧ Dh w.heap.size (w.heap.size + 1) (W.dm0 l hs x0 x1 x2 x3) (.slice none 0 0) (.slice none 0 0) w' ∧ Below w.heap.size w w' := by
  go_enter Try.func10, Try.ntmps10
  go_wp2
  go_ret
  have hb1 := below_alloc w (.cells #[.int .u32 x0, .int .u32 x1, .int .u32 x2, .int .u32 x3] 24)
  refine ⟨rfl, ⟨bc_row (cs := #[.int .i64 l, .int .i64 hs, .int .u32 x0, .int .u32 x1, .int .u32 x2, .int .u32 x3, .int .i64 (-1), .slice none 0 0, .bool false, .int .i64 0, .int .i64 0, .slice none 0 0, .int .i64 (-1), .int .i64 0, .int .i64 0, .int .i64 0, .int .i64 0, .int .u32 0, .int .u32 0, .int .u32 0, .int .u32 0, .bool false, .bool false, .bool false, .bool false]) (T := 41) ?_ ?_, On.nil _ _, On.nil _ _, by simp [Value.ownBlock], by simp [Value.ownBlock], by omega⟩, ?_⟩
  · have := heap_alloc_last (w.alloc (.cells #[.int .u32 x0, .int .u32 x1, .int .u32 x2, .int .u32 x3] 24)) (.cells #[.int .i64 l, .int .i64 hs, .int .u32 x0, .int .u32 x1, .int .u32 x2, .int .u32 x3, .int .i64 (-1), .slice none 0 0, .bool false, .int .i64 0, .int .i64 0, .slice none 0 0, .int .i64 (-1), .int .i64 0, .int .i64 0, .int .i64 0, .int .i64 0, .int .u32 0, .int .u32 0, .int .u32 0, .int .u32 0, .bool false, .bool false, .bool false, .bool false] 41)
    rw [show (w.alloc (.cells #[.int .u32 x0, .int .u32 x1, .int .u32 x2, .int .u32 x3] 24)).heap.size = w.heap.size + 1 by simp] at this
    exact this
  · intro j hj
    have hj' : j = 0 ∨ j = 1 ∨ j = 2 ∨ j = 3 ∨ j = 4 ∨ j = 5 ∨ j = 6 ∨ j = 7 ∨ j = 8 ∨ j = 9 ∨ j = 10 ∨ j = 11 ∨ j = 12 ∨ j = 13 ∨ j = 14 ∨ j = 15 ∨ j = 16 ∨ j = 17 ∨ j = 18 ∨ j = 19 ∨ j = 20 ∨ j = 21 ∨ j = 22 ∨ j = 23 ∨ j = 24 := by omega
    rcases hj' with rfl | rfl | rfl | rfl | rfl | rfl | rfl | rfl | rfl | rfl | rfl | rfl | rfl | rfl | rfl | rfl | rfl | rfl | rfl | rfl | rfl | rfl | rfl | rfl | rfl <;> rfl
  · exact hb1.alloc (by simp) _
/-! ## The copy -/
def ldH (a : Addr) : Sem Value := loadVar 52 a
theorem ldH_eq (a : Addr) : loadVar 52 a = ldH a := rfl
def stH (a : Addr) (v : Value) : Sem Unit := storeVar 52 a v
theorem stH_eq (a : Addr) (v : Value) : storeVar 52 a v = stH a v := rfl
attribute [local go_sem ↓] ldH_eq stH_eq
variable {n0 hb db cb : Nat} {s s' : W.Hm} {d d' : W.Dm} {sv av dsv dwv sv' av' : Value} {w w' w'' w0 : World}
def hoL (s : W.Hm) (sv av : Value) : List Value := (List.range 23).map (hoF s sv av)
theorem hoL_eq (s : W.Hm) (sv av : Value) : hoL s sv av = [.int .i64 s.ln, .int .i64 s.hs, .int .u32 s.e0, .int .u32 s.e1, .int .u32 s.e2, .int .u32 s.e3, .int .i64 s.ow, sv, .int .i64 s.sv, .int .i64 s.b_, av, .int .i64 s.te, .int .i64 s.bk.k, .int .i64 s.bk.l, .int .i64 s.bk.f, .int .i64 s.bk.t, .int .u32 s.bk.d0, .int .u32 s.bk.d1, .int .u32 s.bk.d2, .int .u32 s.bk.d3, .bool s.bk.h, .bool s.bk.d, .bool s.bk.a] := rfl
theorem ldH_at (H : Ho n0 hb s sv av w) : (ldH ⟨hb, 0, none⟩).run Try.prog w = .ok (.agg (hoL s sv av).toArray) w :=
  run_loadVar_mid w hb 0 _ _ _ (fun j v hv => by
    have hj : j < 23 := by have := (List.getElem?_eq_some_iff.1 hv).1; simpa [hoL] using this
    rw [Nat.zero_add, H.c j hj]
    unfold hoL at hv
    rw [List.getElem?_map, List.getElem?_range hj] at hv
    exact hv) Try.underlying52 rfl (by kernel_rfl)
abbrev z23 : Array Value := #[.int .i64 0, .int .i64 0, .int .u32 0, .int .u32 0, .int .u32 0, .int .u32 0, .int .i64 0, .slice none 0 0, .int .i64 0, .int .i64 0, .slice none 0 0, .int .i64 0, .int .i64 0, .int .i64 0, .int .i64 0, .int .i64 0, .int .u32 0, .int .u32 0, .int .u32 0, .int .u32 0, .bool false, .bool false, .bool false]
theorem On.one {b : Nat} {v : Value} {l : List Int} (h : On b v l w) : v.oneCell' = true := by
  rcases h.form with ⟨rfl, _⟩ | ⟨g, cap, rfl, _⟩ <;> rfl
theorem hoL_one (H : Ho n0 hb s sv av w) : ∀ u ∈ hoL s sv av, u.oneCell' = true := by
  intro u hu
  rw [hoL_eq] at hu
  have h1 := H.os.one
  have h2 := H.oa.one
  simp only [List.mem_cons, List.not_mem_nil, or_false] at hu
  rcases hu with h | h | h | h | h | h | h | h | h | h | h | h | h | h | h | h | h | h | h | h | h | h | h <;> subst h <;> first | rfl | assumption
theorem stH_new (H : Ho n0 hb s sv av w') (w : World) : (stH ⟨w.heap.size, 0, none⟩ (.agg (hoL s sv av).toArray)).run Try.prog (w.alloc (.cells z23 52)) = .ok () (w.alloc (.cells (hoL s sv av).toArray 52)) :=
  run_storeVar_new (P := Try.prog) w 52 z23 (hoL s sv av).toArray (by kernel_rfl) rfl (by simpa using hoL_one H)

set_option maxRecDepth 10000 in
set_option maxHeartbeats 1600000 in
theorem cloneH_any (H : Ho n0 hb s sv av w) (hl : s.sh.length ≤ 4096) (hl2 : s.ac.length ≤ 4096) : Calls Try.prog 11 #[.pointer (some ⟨hb, 0, none⟩)] w fun e w' => e = .returned (.pointer (some ⟨w.heap.size, 0, none⟩)) ∧ w'.cell? ⟨w.heap.size, 6, none⟩ = some (.int .i64 s.ow) ∧ w.heap.size < w'.heap.size ∧ Below w.heap.size w w' := by
  have hld := ldH_at H
  have hst := stH_new H w
  have hba := below_alloc w (.cells (hoL s sv av).toArray 52)
  have hbc : Bc w.heap.size 23 (hoF s sv av) (w.alloc (.cells (hoL s sv av).toArray 52)) := bc_row (heap_alloc_last w _) (fun j hj => by
    unfold hoL
    rw [List.getElem?_toArray, List.getElem?_map, List.getElem?_range hj]
    rfl)
  have HA : Hid (_ ∧ _ ∧ _ ∧ Hpt hb sv av w.heap.size) := ⟨H.below hba, hbc, hba, H.pt_new (Nat.le_refl _)⟩
  have HL : Hid (s.sh.length ≤ 4096 ∧ s.ac.length ≤ 4096) := ⟨hl, hl2⟩
  clear H hba hbc hl hl2
  generalize hCS : (hoL s sv av).toArray = CS at *
  clear hCS
  go_enter Try.func11, Try.ntmps11
  go_upto_region 2 with fail
  clear hld hst
  generalize World.alloc w _ = W1 at *
  generalize hcb : w.heap.size = cb at HA ⊢
  have HCB : Hid (w.heap.size = cb) := hcb
  have HA1 : Hid (Below w.heap.size w W1 ∧ w.heap.size ≤ cb) := by rw [hcb]; exact ⟨HA.out.2.2.1, Nat.le_refl _⟩
  clear hcb
  have c7 := HA.out.1.c 7 (by decide)
  dsimp only [hoF] at c7
  have HC : Hid (Calls _ _ _ _ _) := clone_any n0 sv s.sh HL.out.1 W1 HA.out.1.os
  go_wp2_with (fail)
  refine HC.out.mono ?_
  rintro e w2 ⟨⟨v2, rfl, ho2⟩, hb2⟩
  obtain ⟨a2, cap2, hv2, _⟩ := ho2.len
  generalize s.sh.length = n2 at hv2
  subst hv2
  have hB2 := HA.out.2.1.below hb2
  have t7 := hB2.c 7 (by decide)
  have f7 := hB2.fz 7
  dsimp only [hoF] at t7
  have g2 := gsetCell w2 cb 7 (.slice a2 n2 cap2)
  have H3 := (HA.out.1.below hb2).oth g2 HA.out.2.2.2
  have HB : Hid (_ ∧ _ ∧ _) := ⟨H3, hB2.set 7 (.slice a2 n2 cap2), (HA1.out.1.trans (hb2.mono HA1.out.1.size)).grown g2 (Nat.le_trans HA1.out.1.size hb2.size) (fun k e => by cases e; exact HA1.out.2)⟩
  clear c7 HC ho2 hb2 hB2 g2 H3 HA
  go_upto_region 3 with fail
  clear t7 f7
  generalize World.setCell w2 _ _ = W3 at *
  have c10 := HB.out.1.c 10 (by decide)
  dsimp only [hoF] at c10
  have HC : Hid (Calls _ _ _ _ _) := clone_any n0 av s.ac HL.out.2 W3 HB.out.1.oa
  go_wp2_with (fail)
  refine HC.out.mono ?_
  rintro e w4 ⟨⟨v4, rfl, ho4⟩, hb4⟩
  obtain ⟨a4, cap4, hv4, _⟩ := ho4.len
  generalize s.ac.length = n4 at hv4
  subst hv4
  have hB4 := HB.out.2.1.below hb4
  have t10 := hB4.c 10 (by decide)
  have f10 := hB4.fz 10
  have g4 := gsetCell w4 cb 10 (.slice a4 n4 cap4)
  have h6 := (hB4.set 10 (.slice a4 n4 cap4)).c 6 (by decide)
  have HF : Hid (_ ∧ _ ∧ _) := ⟨h6, (hB4.set 10 (.slice a4 n4 cap4)).lt, (HB.out.2.2.trans (hb4.mono HB.out.2.2.size)).grown g4 (Nat.le_trans HB.out.2.2.size hb4.size) (fun k e => by cases e; exact HA1.out.2)⟩
  clear c10 HC ho4 hb4 hB4 g4 h6
  go_wp2
  go_ret
  rw [HCB.out]
  exact ⟨rfl, HF.out.1, HF.out.2.1, HCB.out ▸ HF.out.2.2⟩
end Go.Proofs.Ythkielaicnmaeaa
