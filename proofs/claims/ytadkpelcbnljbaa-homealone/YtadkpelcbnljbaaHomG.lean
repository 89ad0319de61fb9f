/- home: dataTo; Takes. -/
import Derived.Test.YtadkpelcbnljbaaHomF
namespace Go.Proofs.Ytadkpelcbnljbaa
open Go.ChangeShapes Go.WideShapes Go.ChangeAt Go.RowKit
set_option linter.unusedVariables false
set_option linter.unusedSimpArgs false
attribute [local go_sem ↓] ldM_eq stM_eq bdM_eq bsM_eq
variable {n0 hb : Nat} {s s' : W.Hm} {sv av sv' av' sv'' av'' : Value} {w w' w'' : World}

theorem set_dat (s : W.Hm) (t x0 x1 x2 x3 : Int) : ((((((mgL (W.msg s 7 t)).set 4 (.int .u32 x0)).set 5 (.int .u32 x1)).set 6 (.int .u32 x2)).set 7 (.int .u32 x3)).set 8 (.bool true)) = mgL (W.dat s t x0 x1 x2 x3 false false) := rfl
set_option maxRecDepth 10000 in
set_option maxHeartbeats 1600000 in
theorem dataTo_any (hc : w.cell? ⟨hb, 0, none⟩ = some (.int .i64 s.ln)) (t x0 x1 x2 x3 : Int) : Calls Try.prog 42 #[.pointer (some ⟨hb, 0, none⟩), .int .i64 t, .agg #[.int .u32 x0, .int .u32 x1, .int .u32 x2, .int .u32 x3]] w fun e w' => e = .returned (mgV (W.dat s t x0 x1 x2 x3 false false)) ∧ Below w.heap.size w w' := by
  have hl := World.block_lt_of_cell? _ _ hc
  have HC : Hid (w.cell? ⟨hb, 0, none⟩ = some (.int .i64 s.ln)) := hc
  clear hc
  go_enter Try.func42, Try.ntmps42
  go_wp2_with (fail)
  -- the argument's block, the result's block
  have hb1 := below_alloc w (.cells #[.int .u32 x0, .int .u32 x1, .int .u32 x2, .int .u32 x3] 24)
  have hb2 := hb1.alloc (by simp) (.cells z11 35)
  have hr := msgRoom_new (w.alloc (.cells #[.int .u32 x0, .int .u32 x1, .int .u32 x2, .int .u32 x3] 24)) z11 rfl
  have hA : ((w.alloc (.cells #[.int .u32 x0, .int .u32 x1, .int .u32 x2, .int .u32 x3] 24)).alloc (.cells z11 35)).heap[w.heap.size]? = some (.cells #[.int .u32 x0, .int .u32 x1, .int .u32 x2, .int .u32 x3] 24) := ((below_alloc (w.alloc (.cells #[.int .u32 x0, .int .u32 x1, .int .u32 x2, .int .u32 x3] 24)) _).block _ (by simp)).trans (heap_alloc_last w _)
  rw [show (w.alloc (.cells #[.int .u32 x0, .int .u32 x1, .int .u32 x2, .int .u32 x3] 24)).heap.size = w.heap.size + 1 by simp] at hr
  have HZ : Hid (_ ∧ _ ∧ _) := ⟨hb2, hr, hA⟩
  clear hb1 hb2 hr hA
  have c0 := (HZ.out.1.cell (p := ⟨hb, 0, none⟩) hl).trans HC.out
  generalize World.alloc (World.alloc w _) _ = W1 at *
  refine (msg_any c0 7 t).mono ?_
  rintro e w2 ⟨rfl, hb2⟩
  have hst : (stM ⟨w2.heap.size, 0, none⟩ (mgV (W.msg s 7 t))).run Try.prog (w2.alloc (.cells z11 35)) = .ok () (w2.alloc (.cells #[.int .i64 7, .int .i64 s.ln, .int .i64 (-1), .int .i64 t, .int .u32 0, .int .u32 0, .int .u32 0, .int .u32 0, .bool false, .bool false, .bool false] 35)) := stM_new w2 (W.msg s 7 t) z11 rfl
  have hm : MsgAt w2.heap.size (W.dat s t x0 x1 x2 x3 false false) (w2.alloc (.cells #[.int .i64 7, .int .i64 s.ln, .int .i64 (-1), .int .i64 t, .int .u32 x0, .int .u32 x1, .int .u32 x2, .int .u32 x3, .bool true, .bool false, .bool false] 35)) := msgAt_new w2 (W.dat s t x0 x1 x2 x3 false false)
  have hz2 : w.heap.size + 1 < w2.heap.size := by have := HZ.out.2.1.lt; have := hb2.size; omega
  have hb3 : ∀ o, Below W1.heap.size W1 (w2.alloc o) := fun o => hb2.trans ((below_alloc w2 o).mono hb2.size)
  have hA : ∀ o, (w2.alloc o).heap[w.heap.size]? = some (.cells #[.int .u32 x0, .int .u32 x1, .int .u32 x2, .int .u32 x3] 24) := fun o => ((hb3 o).block _ (Array.getElem?_eq_some_iff.1 HZ.out.2.2).1).trans HZ.out.2.2
  have a0 : ∀ o, (w2.alloc o).cell? ⟨w.heap.size, 0, none⟩ = some (.int .u32 x0) := fun o => by rw [cell_of_row _ _ 0 _ _ (0, 0) (hA o)]; rfl
  have a1 : ∀ o, (w2.alloc o).cell? ⟨w.heap.size, 1, none⟩ = some (.int .u32 x1) := fun o => by rw [cell_of_row _ _ 1 _ _ (0, 0) (hA o)]; rfl
  have a2 : ∀ o, (w2.alloc o).cell? ⟨w.heap.size, 2, none⟩ = some (.int .u32 x2) := fun o => by rw [cell_of_row _ _ 2 _ _ (0, 0) (hA o)]; rfl
  have a3 : ∀ o, (w2.alloc o).cell? ⟨w.heap.size, 3, none⟩ = some (.int .u32 x3) := fun o => by rw [cell_of_row _ _ 3 _ _ (0, 0) (hA o)]; rfl
  have h4 := hm.ld
  have hr5 := HZ.out.2.1.below (hb3 (.cells #[.int .i64 7, .int .i64 s.ln, .int .i64 (-1), .int .i64 t, .int .u32 x0, .int .u32 x1, .int .u32 x2, .int .u32 x3, .bool true, .bool false, .bool false] 35))
  have hst5 := hr5.st (W.dat s t x0 x1 x2 x3 false false)
  have hld5 := (hr5.set (W.dat s t x0 x1 x2 x3 false false)).ld
  have hB5 : Below w.heap.size w ((w2.alloc (.cells #[.int .i64 7, .int .i64 s.ln, .int .i64 (-1), .int .i64 t, .int .u32 x0, .int .u32 x1, .int .u32 x2, .int .u32 x3, .bool true, .bool false, .bool false] 35)).setRow (w.heap.size + 1) (mgL (W.dat s t x0 x1 x2 x3 false false)).toArray) :=
    (HZ.out.1.trans ((hb3 _).mono HZ.out.1.size)).grown (gsetRow _ _ _) (Nat.le_trans HZ.out.1.size (hb3 _).size) (fun b e => by cases e; omega)
  have HB : Hid (_) := hB5
  clear hB5 hr5 hm hA hb3 hb2 c0 HZ
  generalize hMM : W.dat s t x0 x1 x2 x3 false false = M at *
  have HM : Hid (W.dat s t x0 x1 x2 x3 false false = M) := hMM
  clear hMM
  generalize W.msg s 7 t = M0 at *
  go_wp2_with (fail)
  exact bodyPost_ret (v := mgV M) (by simp [results, Try.results42, asAddr, ldM_eq, hld5]) rfl ⟨by rw [HM.out], HB.out⟩

end Go.Proofs.Ytadkpelcbnljbaa
