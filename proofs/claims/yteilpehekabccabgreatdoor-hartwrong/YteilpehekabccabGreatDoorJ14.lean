/- Texts in one: WalkB, WalkC, WalkD, WalkE0, WalkE1, WalkE2, WalkE3. -/
import Derived.Test.YteilpehekabccabGreatDoorJ13
/- Where an entry lies. -/
namespace Go.Proofs.YteilpehekabccabGreatDoor
open Go.ChangeShapes Go.WideShapes Go.ChangeAt Go.RowKit
set_option linter.unusedVariables false

theorem wfrom_ {P : Program} {f : FuncId} {args : Array Value} {w0 w : World} {v : Value} (h : Calls P f args w fun e w' => e = .returned v ∧ Below w.heap.size w w') (hb : Below w0.heap.size w0 w) :
    Calls P f args w fun e w' => e = .returned v ∧ Below w0.heap.size w0 w' :=
  h.mono fun _ _ ⟨a, b⟩ => ⟨a, hb.trans (b.mono hb.size)⟩

theorem entry_any (mode va acc bytes table : Int) (g : Bool) (v0 : 0 ≤ va) (v1 : va < 4294967296) (t0 : 0 ≤ table) (t1 : table < 4294967296) (w : World) : Calls Tryz.prog 102 #[.agg #[.int .i64 mode, .int .u32 va, .int .i64 acc, .int .i64 bytes], .int .u32 table, .int .i64 (W.lv g)] w fun x w' => x = .returned (.tuple #[.int .u32 (bif W.entB table va bytes g then W.entA table va g else 0), .bool (W.entB table va bytes g)]) ∧ Below w.heap.size w w' := by
  have hi := W.idx_lt va g v0 v1
  have hbits : W.bitsOf va (bif g then 22 else 12) 10 = W.idx va g := by cases g; exact W.bits_12 va v0 v1; exact W.bits_22 va v0 v1
  have hA : Hid (W.entA table va g = table * 4096 + 4 * W.idx va g) := rfl
  have hB : Hid (W.entB table va bytes g = bif decide (4294967295 < W.entA table va g) then false else decide (W.entA table va g + 4 ≤ bytes)) := rfl
  have e0 : (bif g then 22 else 12 : Int) = (bif g then 22 else 12) := rfl
  have hr : ∀ (x y : Int) (d : Bool), x = y → Ending.returned (.tuple #[.int .u32 x, .bool d]) = .returned (.tuple #[.int .u32 y, .bool d]) := by rintro x _ d rfl; rfl
  generalize W.entB table va bytes g = EB at *
  generalize hAA : W.entA table va g = EA at *
  generalize W.idx va g = I at *
  have hoff := offBits_any g
  generalize W.lv g = L at *
  generalize hob : (bif g then 22 else 12 : Int) = ob at *
  have hA2 := hA.out
  have k0 : 0 ≤ EA := by omega
  have ht : wrap64 (table * 4096 + 4 * I) = EA := by rw [hA2]; unfold wrap64; omega
  have ht2 : table * 4096 + 4 * I = EA := hA2.symm
  have ht3 : wrap64 EA = EA := by unfold wrap64; omega
  have ht4 : wrap64 (EA + 4) = EA + 4 := by unfold wrap64; omega
  have hEm : Hid (EA ≤ 4294967295 → EA % 4294967296 = EA) := fun h => by omega
  clear hA hA2 hAA hob e0
  by_cases c1 : 4294967295 < EA
  · have : EB = false := by rw [hB.out]; simp [c1]
    subst this
    clear hB hEm
    go_enter Tryz.func102, Tryz.ntmps102
    go_wp2_with (fail)
    go_quiet (first | (go_at_call 119; exact Calls.quiet_of_same (hoff _)) | (go_at_call 44; exact Calls.quiet_of (bits_any _ _ _ _)))
    go_wp2_with (go_at_call 120; refine (wplace_any _ t0 t1 _).mono ?_; rintro e w' ⟨rfl, rfl⟩)
    exact bodyPost_ret (v := .tuple #[.int .u32 0, .bool false]) (by simp [results, Tryz.results102, go_sem]) rfl ⟨rfl, below_drewN ((Below.refl _ _).alloc (Nat.le_refl _) _) _⟩
  · by_cases c2 : bytes < EA + 4
    · have : EB = false := by rw [hB.out]; simp; omega
      subst this
      clear hB hEm
      go_enter Tryz.func102, Tryz.ntmps102
      go_wp2_with (fail)
      go_quiet (first | (go_at_call 119; exact Calls.quiet_of_same (hoff _)) | (go_at_call 44; exact Calls.quiet_of (bits_any _ _ _ _)))
      go_wp2_with (go_at_call 120; refine (wplace_any _ t0 t1 _).mono ?_; rintro e w' ⟨rfl, rfl⟩)
      exact bodyPost_ret (v := .tuple #[.int .u32 0, .bool false]) (by simp [results, Tryz.results102, go_sem]) rfl ⟨rfl, below_drewN ((Below.refl _ _).alloc (Nat.le_refl _) _) _⟩
    · have : EB = true := by rw [hB.out]; simp [c1]; omega
      subst this
      have hEm2 := hEm.out (by omega)
      clear hB hEm
      go_enter Tryz.func102, Tryz.ntmps102
      go_wp2_with (fail)
      go_quiet (first | (go_at_call 119; exact Calls.quiet_of_same (hoff _)) | (go_at_call 44; exact Calls.quiet_of (bits_any _ _ _ _)))
      go_wp2_with (go_at_call 120; refine (wplace_any _ t0 t1 _).mono ?_; rintro e w' ⟨rfl, rfl⟩)
      exact bodyPost_ret (v := .tuple #[.int .u32 EA, .bool true]) (by simp [results, Tryz.results102, go_sem]) rfl ⟨rfl, below_drewN ((Below.refl _ _).alloc (Nat.le_refl _) _) _⟩
end Go.Proofs.YteilpehekabccabGreatDoor

/- What comes of a leaf. -/
namespace Go.Proofs.YteilpehekabccabGreatDoor
open Go.ChangeShapes Go.WideShapes Go.ChangeAt Go.RowKit
set_option linter.unusedVariables false

theorem fits_any (ev P : Int) (g : Bool) (h0 : 0 ≤ ev) (h1 : ev < 4294967296) (hP : ev / 1024 = P) (w : World) : Calls Tryz.prog 122 #[.int .u32 P, .int .i64 (W.lv g)] w fun x w' => x = .returned (.bool (W.fitsB ev g)) ∧ ∃ k, w' = w.drewN k := by
  subst hP
  cases g
  · exact fits_0 _ w
  · exact fits_1 _ (by omega) (by omega) w

theorem below3 (w : World) (o1 o2 o3 : Obj) (k : Nat) : Below w.heap.size w ((((w.alloc o1).alloc o2).alloc o3).drewN k) :=
  below_drewN ((((Below.refl _ _).alloc (Nat.le_refl _) _).alloc (by simp) _).alloc (by simp; omega) _) _
theorem get3 (w : World) (o1 o2 o3 : Obj) (k : Nat) : ((((w.alloc o1).alloc o2).alloc o3).drewN k).heap[w.heap.size + 1 + 1]? = some o3 := by
  show (((w.heap.push o1).push o2).push o3)[w.heap.size + 1 + 1]? = some o3
  rw [Array.getElem?_push]
  simp
theorem get1 (w : World) (o1 o2 o3 : Obj) (k : Nat) : ((((w.alloc o1).alloc o2).alloc o3).drewN k).heap[w.heap.size]? = some o1 := by
  show (((w.heap.push o1).push o2).push o3)[w.heap.size]? = some o1
  rw [Array.getElem?_push, Array.getElem?_push, Array.getElem?_push]
  simp
  omega
theorem way_cells {w : World} {b : Nat} {T : TypeId} {mode va acc bytes : Int} (h : w.heap[b]? = some (.cells #[.int .i64 mode, .int .u32 va, .int .i64 acc, .int .i64 bytes] T)) :
    w.cell? ⟨b, 0, none⟩ = some (.int .i64 mode) ∧ w.cell? ⟨b, 1, none⟩ = some (.int .u32 va) ∧ w.cell? ⟨b, 2, none⟩ = some (.int .i64 acc) ∧ w.cell? ⟨b, 3, none⟩ = some (.int .i64 bytes) := by
  simp [World.cell?, h]
/-- A block for a step that is to come. -/
theorem res_cells {w : World} {b : Nat} {T : TypeId} (h : w.heap[b]? = some (.cells #[.int .i64 0, .int .u32 0, .int .u32 0, .int .u32 0, .int .u32 0] T)) :
    w.cell? ⟨b, 0, none⟩ = some (.int .i64 0) ∧ w.cell? ⟨b, 1, none⟩ = some (.int .u32 0) ∧ w.cell? ⟨b, 2, none⟩ = some (.int .u32 0) ∧ w.cell? ⟨b, 3, none⟩ = some (.int .u32 0) ∧ w.cell? ⟨b, 4, none⟩ = some (.int .u32 0) ∧ ∀ o, w.frozen? ⟨b, o, none⟩ = false := by
  simp [World.cell?, World.frozen?, h]
theorem fin5 {w w' : World} {b : Nat} (h : Below w.heap.size w w') (hb : w.heap.size ≤ b) (v0 v1 v2 v3 v4 : Value) :
    Below w.heap.size w (((((w'.setCell ⟨b, 0, none⟩ v0).setCell ⟨b, 1, none⟩ v1).setCell ⟨b, 2, none⟩ v2).setCell ⟨b, 3, none⟩ v3).setCell ⟨b, 4, none⟩ v4) :=
  ((((h.setCell hb _).setCell hb _).setCell hb _).setCell hb _).setCell hb _

theorem leafB_any (mode va acc bytes ea ev eo et : Int) (ew : Bool) (g : Bool) (v0 : 0 ≤ va) (v1 : va < 4294967296) (e0 : 0 ≤ ev) (e1 : ev < 4294967296) (w : World) : Calls Tryz.prog 105 #[.agg #[.int .i64 mode, .int .u32 va, .int .i64 acc, .int .i64 bytes], .agg #[.int .u32 ea, .int .u32 ev, .int .u32 eo, .int .i64 et, .bool ew], .int .i64 (W.lv g)] w fun x w' => x = .returned (W.leafS ea ev va acc mode g).val ∧ Below w.heap.size w w' := by
  have hoff := offBits_any g
  have hfit := fun w => fits_any ev _ g e0 e1 rfl w
  have hpg := W.page_eq ev e0 e1
  have hbits : W.bitsOf va 0 (bif g then 22 else 12) = W.offv va g := by cases g; exact W.bits_l12 va v0 v1; exact W.bits_l22 va v0 v1
  have ho := W.offv_lt va g
  have hP : 0 ≤ ev / 1024 ∧ ev / 1024 < 4294967296 := by omega
  have hP2 : ev / 1024 < 4194304 := by omega
  have hS : Hid (W.leafS ea ev va acc mode g = bif W.may ev acc mode then bif W.fitsB ev g then bif W.needs ev acc != ev then W.markS ea (W.needs ev acc) else
    bif decide (4294967295 < ev / 1024 * 4096 + W.offv va g) then W.fltS acc false else W.hereS (ev / 1024 * 4096 + W.offv va g)
  else W.fltS acc true else W.fltS acc true) := rfl
  generalize W.leafS ea ev va acc mode g = S at *
  generalize W.fitsB ev g = fb at *
  generalize W.offv va g = O at *
  generalize W.lv g = L at *
  generalize (bif g then 22 else 12 : Int) = ob at *
  generalize ev / 1024 = P at *
  generalize hN : W.needs ev acc = N at *
  have q1 : IntKind.i64.wrap O = O := IntWalk.i64_in _ (by omega)
  have q2 : IntKind.i64.wrap (P * 4096 + O) = P * 4096 + O := IntWalk.i64_in _ (by omega)
  cases c1 : W.may ev acc mode
  · have hs : S = W.fltS acc true := by rw [hS.out, c1]; rfl
    subst hs
    clear hS
    go_enter Tryz.func105, Tryz.ntmps105
    go_wp2_with (first
      | (go_at_call 106; refine (page_any _ _).mono ?_; rintro e w' ⟨rfl, k, rfl⟩)
      | (go_at_call 121; refine (may_any _ _ _ _).mono ?_; rintro e w' ⟨rfl, rfl⟩)
      | (go_at_call 122; refine (hfit _).mono ?_; rintro e w' ⟨rfl, k2, rfl⟩)
      | (go_at_call 123; refine (needs_any _ _ _).mono ?_; rintro e w' ⟨rfl, rfl⟩)
      | (go_at_call 120; refine (wplace_any _ hP.1 hP.2 _).mono ?_; rintro e w' ⟨rfl, rfl⟩)
      | (go_at_call 119; refine (hoff _).mono ?_; rintro e w' ⟨rfl, rfl⟩)
      | (go_at_call 44; refine (bits_any _ _ _ _).mono ?_; rintro e w' ⟨rfl, k3, rfl⟩)
      | (go_at_call 85; refine (wfault_any _ _ _ _ _ _).mono ?_; rintro e w' ⟨rfl, hb⟩; obtain ⟨f0, f1, f2, f3, f4, fz⟩ := res_cells (b := w.heap.size + 1 + 1) (T := 94) ((hb.block _ (by simp)).trans (get3 _ _ _ _ _))))
    exact bodyPost_ret (v := (W.fltS acc true).val) (by simp [results, Tryz.results105, go_sem, W.Stp.val, W.fltS, *]) rfl ⟨rfl, fin5 ((below3 _ _ _ _ _).trans (hb.mono (by simp; omega))) (by omega) _ _ _ _ _⟩
  · cases fb
    · have hs : S = W.fltS acc true := by rw [hS.out, c1]; rfl
      subst hs
      clear hS
      go_enter Tryz.func105, Tryz.ntmps105
      go_wp2_with (first
        | (go_at_call 106; refine (page_any _ _).mono ?_; rintro e w' ⟨rfl, k, rfl⟩)
        | (go_at_call 121; refine (may_any _ _ _ _).mono ?_; rintro e w' ⟨rfl, rfl⟩)
        | (go_at_call 122; refine (hfit _).mono ?_; rintro e w' ⟨rfl, k2, rfl⟩)
        | (go_at_call 123; refine (needs_any _ _ _).mono ?_; rintro e w' ⟨rfl, rfl⟩)
        | (go_at_call 120; refine (wplace_any _ hP.1 hP.2 _).mono ?_; rintro e w' ⟨rfl, rfl⟩)
        | (go_at_call 119; refine (hoff _).mono ?_; rintro e w' ⟨rfl, rfl⟩)
        | (go_at_call 44; refine (bits_any _ _ _ _).mono ?_; rintro e w' ⟨rfl, k3, rfl⟩)
        | (go_at_call 85; refine (wfault_any _ _ _ _ _ _).mono ?_; rintro e w' ⟨rfl, hb⟩; obtain ⟨f0, f1, f2, f3, f4, fz⟩ := res_cells (b := w.heap.size + 1 + 1) (T := 94) ((hb.block _ (by simp)).trans (get3 _ _ _ _ _))))
      exact bodyPost_ret (v := (W.fltS acc true).val) (by simp [results, Tryz.results105, go_sem, W.Stp.val, W.fltS, *]) rfl ⟨rfl, fin5 ((below3 _ _ _ _ _).trans (hb.mono (by simp; omega))) (by omega) _ _ _ _ _⟩
    · cases c3 : (N != ev)
      · by_cases c4 : 4294967295 < P * 4096 + O
        · have hs : S = W.fltS acc false := by rw [hS.out, c1, c3]; simp [c4]
          subst hs
          clear hS
          go_enter Tryz.func105, Tryz.ntmps105
          go_wp2_with (first
            | (go_at_call 106; refine (page_any _ _).mono ?_; rintro e w' ⟨rfl, k, rfl⟩)
            | (go_at_call 121; refine (may_any _ _ _ _).mono ?_; rintro e w' ⟨rfl, rfl⟩)
            | (go_at_call 122; refine (hfit _).mono ?_; rintro e w' ⟨rfl, k2, rfl⟩)
            | (go_at_call 123; refine (needs_any _ _ _).mono ?_; rintro e w' ⟨rfl, rfl⟩)
            | (go_at_call 120; refine (wplace_any _ hP.1 hP.2 _).mono ?_; rintro e w' ⟨rfl, rfl⟩)
            | (go_at_call 119; refine (hoff _).mono ?_; rintro e w' ⟨rfl, rfl⟩)
            | (go_at_call 44; refine (bits_any _ _ _ _).mono ?_; rintro e w' ⟨rfl, k3, rfl⟩)
            | (go_at_call 85; refine (wfault_any _ _ _ _ _ _).mono ?_; rintro e w' ⟨rfl, hb⟩; obtain ⟨f0, f1, f2, f3, f4, fz⟩ := res_cells (b := w.heap.size + 1 + 1) (T := 94) ((hb.block _ (by simp)).trans (get3 _ _ _ _ _))))
          generalize hW : World.drewN (World.alloc (World.alloc (World.alloc w _) _) _) _ = W1
          have hr1 : W1.heap[w.heap.size + 1 + 1]? = some (.cells #[.int .i64 0, .int .u32 0, .int .u32 0, .int .u32 0, .int .u32 0] 94) := by rw [← hW]; exact get3 _ _ _ _ _
          have hw1 : W1.heap[w.heap.size]? = some (.cells #[.int .i64 mode, .int .u32 va, .int .i64 acc, .int .i64 bytes] 135) := by rw [← hW]; exact get1 _ _ _ _ _
          have hb1 : Below w.heap.size w W1 := by rw [← hW]; exact below3 _ _ _ _ _
          have hs1 : w.heap.size + 1 + 1 < W1.heap.size := by rw [← hW]; simp
          obtain ⟨g0, g1, g2, g3⟩ := way_cells hw1
          obtain ⟨f0, f1, f2, f3, f4, fz⟩ := res_cells hr1
          clear hW hw1
          go_quiet (first | (go_at_call 120; exact Calls.quiet_of_same (wplace_any _ hP.1 hP.2 _)) | (go_at_call 119; exact Calls.quiet_of_same (hoff _)) | (go_at_call 44; exact Calls.quiet_of (bits_any _ _ _ _)))
          go_wp2_with (go_at_call 85; refine (wfault_any _ _ _ _ _ _).mono ?_; rintro e w' ⟨rfl, hb⟩; clear f0 f1 f2 f3 f4 fz; obtain ⟨f0, f1, f2, f3, f4, fz⟩ := res_cells (b := w.heap.size + 1 + 1) (T := 94) ((hb.block _ hs1).trans hr1))
          exact bodyPost_ret (v := (W.fltS acc false).val) (by simp [results, Tryz.results105, go_sem, W.Stp.val, W.fltS, *]) rfl ⟨rfl, fin5 ((below_drewN hb1 _).trans (hb.mono hb1.size)) (by omega) _ _ _ _ _⟩
        · have hs : S = W.hereS (P * 4096 + O) := by rw [hS.out, c1, c3]; simp [c4]
          subst hs
          clear hS
          go_enter Tryz.func105, Tryz.ntmps105
          go_wp2_with (first
            | (go_at_call 106; refine (page_any _ _).mono ?_; rintro e w' ⟨rfl, k, rfl⟩)
            | (go_at_call 121; refine (may_any _ _ _ _).mono ?_; rintro e w' ⟨rfl, rfl⟩)
            | (go_at_call 122; refine (hfit _).mono ?_; rintro e w' ⟨rfl, k2, rfl⟩)
            | (go_at_call 123; refine (needs_any _ _ _).mono ?_; rintro e w' ⟨rfl, rfl⟩)
            | (go_at_call 120; refine (wplace_any _ hP.1 hP.2 _).mono ?_; rintro e w' ⟨rfl, rfl⟩)
            | (go_at_call 119; refine (hoff _).mono ?_; rintro e w' ⟨rfl, rfl⟩)
            | (go_at_call 44; refine (bits_any _ _ _ _).mono ?_; rintro e w' ⟨rfl, k3, rfl⟩)
            | (go_at_call 85; refine (wfault_any _ _ _ _ _ _).mono ?_; rintro e w' ⟨rfl, hb⟩; obtain ⟨f0, f1, f2, f3, f4, fz⟩ := res_cells (b := w.heap.size + 1 + 1) (T := 94) ((hb.block _ (by simp)).trans (get3 _ _ _ _ _))))
          generalize hW : World.drewN (World.alloc (World.alloc (World.alloc w _) _) _) _ = W1
          have hr1 : W1.heap[w.heap.size + 1 + 1]? = some (.cells #[.int .i64 0, .int .u32 0, .int .u32 0, .int .u32 0, .int .u32 0] 94) := by rw [← hW]; exact get3 _ _ _ _ _
          have hw1 : W1.heap[w.heap.size]? = some (.cells #[.int .i64 mode, .int .u32 va, .int .i64 acc, .int .i64 bytes] 135) := by rw [← hW]; exact get1 _ _ _ _ _
          have hb1 : Below w.heap.size w W1 := by rw [← hW]; exact below3 _ _ _ _ _
          have hs1 : w.heap.size + 1 + 1 < W1.heap.size := by rw [← hW]; simp
          obtain ⟨g0, g1, g2, g3⟩ := way_cells hw1
          obtain ⟨f0, f1, f2, f3, f4, fz⟩ := res_cells hr1
          clear hW hw1
          go_quiet (first | (go_at_call 120; exact Calls.quiet_of_same (wplace_any _ hP.1 hP.2 _)) | (go_at_call 119; exact Calls.quiet_of_same (hoff _)) | (go_at_call 44; exact Calls.quiet_of (bits_any _ _ _ _)))
          have q3 : (P * 4096 + O) % 4294967296 = P * 4096 + O := by omega
          go_wp2
          exact bodyPost_ret (v := (W.hereS (P * 4096 + O)).val) (by simp [results, Tryz.results105, go_sem, W.Stp.val, W.hereS, *]) rfl ⟨rfl, fin5 (below_drewN hb1 _) (by omega) _ _ _ _ _⟩
      · have hs : S = W.markS ea N := by rw [hS.out, c1, c3]; rfl
        subst hs
        clear hS
        go_enter Tryz.func105, Tryz.ntmps105
        go_wp2_with (first
          | (go_at_call 106; refine (page_any _ _).mono ?_; rintro e w' ⟨rfl, k, rfl⟩)
          | (go_at_call 121; refine (may_any _ _ _ _).mono ?_; rintro e w' ⟨rfl, rfl⟩)
          | (go_at_call 122; refine (hfit _).mono ?_; rintro e w' ⟨rfl, k2, rfl⟩)
          | (go_at_call 123; refine (needs_any _ _ _).mono ?_; rintro e w' ⟨rfl, rfl⟩)
          | (go_at_call 120; refine (wplace_any _ hP.1 hP.2 _).mono ?_; rintro e w' ⟨rfl, rfl⟩)
          | (go_at_call 119; refine (hoff _).mono ?_; rintro e w' ⟨rfl, rfl⟩)
          | (go_at_call 44; refine (bits_any _ _ _ _).mono ?_; rintro e w' ⟨rfl, k3, rfl⟩)
          | (go_at_call 85; refine (wfault_any _ _ _ _ _ _).mono ?_; rintro e w' ⟨rfl, hb⟩; obtain ⟨f0, f1, f2, f3, f4, fz⟩ := res_cells (b := w.heap.size + 1 + 1) (T := 94) ((hb.block _ (by simp)).trans (get3 _ _ _ _ _))))
        exact bodyPost_ret (v := (W.markS ea N).val) (by simp [results, Tryz.results105, go_sem, W.Stp.val, W.markS, *]) rfl ⟨rfl, fin5 (below3 _ _ _ _ _) (by omega) _ _ _ _ _⟩
end Go.Proofs.YteilpehekabccabGreatDoor

/- The way down: what lies in memory on it. -/
namespace Go.Proofs.YteilpehekabccabGreatDoor
open Go.ChangeShapes Go.WideShapes Go.ChangeAt Go.RowKit
set_option linter.unusedVariables false

/-- An entry that was read. -/
structure W.Pt where
  a : Int
  v : Int
  o : Int
  t : Int
  f : Bool
def W.Pt.val (p : W.Pt) : Value := .agg #[.int .u32 p.a, .int .u32 p.v, .int .u32 p.o, .int .i64 p.t, .bool p.f]

/-- Within down: the way in block B, the result in the next one. -/
structure Dw (B : Nat) (mode va acc bytes : Int) (w0 w : World) : Prop where
  base : Below w0.heap.size w0 w
  hB : w0.heap.size = B
  way : w.heap[B]? = some (.cells #[.int .i64 mode, .int .u32 va, .int .i64 acc, .int .i64 bytes] 135)
  res : w.heap[B + 1]? = some (.cells #[.int .i64 0, .int .u32 0, .int .u32 0, .int .u32 0, .int .u32 0] 94)

theorem Dw.lt {B : Nat} {mode va acc bytes : Int} {w0 w : World} (h : Dw B mode va acc bytes w0 w) : B + 1 < w.heap.size := by
  obtain ⟨h1, _⟩ := Array.getElem?_eq_some_iff.1 h.res
  exact h1
theorem Dw.below {B : Nat} {mode va acc bytes : Int} {w0 w w' : World} (h : Dw B mode va acc bytes w0 w) (hb : Below w.heap.size w w') : Dw B mode va acc bytes w0 w' :=
  ⟨h.base.trans (hb.mono h.base.size), h.hB, (hb.block _ (by have := h.lt; omega)).trans h.way, (hb.block _ h.lt).trans h.res⟩
theorem Dw.first {mode va acc bytes : Int} (w : World) : Dw w.heap.size mode va acc bytes w ((w.alloc (.cells #[.int .i64 mode, .int .u32 va, .int .i64 acc, .int .i64 bytes] 135)).alloc (.cells #[.int .i64 0, .int .u32 0, .int .u32 0, .int .u32 0, .int .u32 0] 94)) := by
  refine ⟨((Below.refl _ _).alloc (Nat.le_refl _) _).alloc (by simp) _, rfl, ?_, ?_⟩
  · show ((w.heap.push _).push _)[w.heap.size]? = _
    rw [Array.getElem?_push, Array.getElem?_push]
    simp
  · show ((w.heap.push _).push _)[w.heap.size + 1]? = _
    rw [Array.getElem?_push]
    simp
theorem Dw.drewN {B : Nat} {mode va acc bytes : Int} {w0 w : World} (h : Dw B mode va acc bytes w0 w) (k : Nat) : Dw B mode va acc bytes w0 (w.drewN k) := h.below (below_drewN (Below.refl _ _) k)
theorem Dw.alloc {B : Nat} {mode va acc bytes : Int} {w0 w : World} (h : Dw B mode va acc bytes w0 w) (o : Obj) : Dw B mode va acc bytes w0 (w.alloc o) := h.below ((Below.refl _ _).alloc (Nat.le_refl _) _)

/-- The entries that were read lie in block b. -/
def Rd (b off n : Nat) (p : Nat → W.Pt) (w : World) : Prop :=
  ∀ j, j < n → w.cell? ⟨b, off + j * 5, none⟩ = some (.int .u32 (p j).a) ∧ w.cell? ⟨b, off + j * 5 + 1, none⟩ = some (.int .u32 (p j).v) ∧ w.cell? ⟨b, off + j * 5 + 2, none⟩ = some (.int .u32 (p j).o) ∧ w.cell? ⟨b, off + j * 5 + 3, none⟩ = some (.int .i64 (p j).t) ∧ w.cell? ⟨b, off + j * 5 + 4, none⟩ = some (.bool (p j).f)
theorem Rd.below {b off n : Nat} {p : Nat → W.Pt} {w w' : World} {B : Nat} (h : Rd b off n p w) (hb : Below B w w') (hl : b < B) : Rd b off n p w' := fun j hj => by
  obtain ⟨h0, h1, h2, h3, h4⟩ := h j hj
  exact ⟨(hb.cell hl).trans h0, (hb.cell hl).trans h1, (hb.cell hl).trans h2, (hb.cell hl).trans h3, (hb.cell hl).trans h4⟩
end Go.Proofs.YteilpehekabccabGreatDoor

/- The way down, way 0. -/
namespace Go.Proofs.YteilpehekabccabGreatDoor
open Go.ChangeShapes Go.WideShapes Go.ChangeAt Go.RowKit
set_option linter.unusedVariables false
set_option linter.unusedSimpArgs false

set_option maxHeartbeats 1600000 in
theorem down_0 (mode va acc bytes table : Int) (v0 : 0 ≤ va) (v1 : va < 4294967296) (t0 : 0 ≤ table) (t1 : table < 4294967296) (a : Option Addr) (n cap : Nat) (hm : n ≤ maxLen) (w : World)
    (c1 : W.entB table va bytes true = false) :
    Calls Tryz.prog 84 #[.agg #[.int .i64 mode, .int .u32 va, .int .i64 acc, .int .i64 bytes], .int .u32 table, .slice a n cap] w fun x w' => x = .returned (.tuple #[(W.fltS acc false).val, .int .i64 0]) ∧ Below w.heap.size w w' := by
  have d0 := Dw.first (mode := mode) (va := va) (acc := acc) (bytes := bytes) w
  have hent := fun w => entry_any mode va acc bytes table true v0 v1 t0 t1 w
  rw [c1] at hent
  simp only [cond_true, cond_false] at hent
  generalize W.entA table va true = E1 at *
  unfold W.Stp.val W.fltS
  dsimp only
  go_enter Tryz.func84, Tryz.ntmps84
  go_wp2
  refine wp_loop_rounds 3 ?_
  rw [rounds_succ]
  go_wp2_with (fail)
  refine (hent _).mono ?_
  rintro e w1 ⟨rfl, hb⟩
  have d1 := d0.below hb
  clear d0 hb hent
  obtain ⟨g0, g1, g2, g3⟩ := way_cells d1.way
  obtain ⟨f0, f1, f2, f3, f4, fz⟩ := res_cells d1.res
  have l2 := d1.lt
  have l1 : w.heap.size < w1.heap.size := by omega
  go_wp2_with (first
    | (go_at_call 85; refine (wfault_any _ _ _ _ _ _).mono ?_; rintro e wf ⟨rfl, hbf⟩; have d9 := d1.below hbf; clear f0 f1 f2 f3 f4 fz; obtain ⟨f0, f1, f2, f3, f4, fz⟩ := res_cells d9.res))
  exact bodyPost_ret (v := .tuple #[.agg #[.int .i64 2, .int .u32 0, .int .u32 0, .int .u32 0, .int .u32 (W.cause acc false)], .int .i64 0]) (by simp [results, Tryz.results84, go_sem, *]) rfl ⟨rfl, fin5 d9.base (by omega) _ _ _ _ _⟩
end Go.Proofs.YteilpehekabccabGreatDoor

/- The way down, way 1. -/
namespace Go.Proofs.YteilpehekabccabGreatDoor
open Go.ChangeShapes Go.WideShapes Go.ChangeAt Go.RowKit
set_option linter.unusedVariables false
set_option linter.unusedSimpArgs false

set_option maxHeartbeats 1600000 in
theorem down_1 (mode va acc bytes table : Int) (v0 : 0 ≤ va) (v1 : va < 4294967296) (t0 : 0 ≤ table) (t1 : table < 4294967296) (a : Option Addr) (n cap : Nat) (hm : n ≤ maxLen) (w : World) (hn : n = 0)
    (c1 : W.entB table va bytes true = true) :
    Calls Tryz.prog 84 #[.agg #[.int .i64 mode, .int .u32 va, .int .i64 acc, .int .i64 bytes], .int .u32 table, .slice a n cap] w fun x w' => x = .returned (.tuple #[(W.moreS (W.entA table va true)).val, .int .i64 0]) ∧ Below w.heap.size w w' := by
  subst hn
  have d0 := Dw.first (mode := mode) (va := va) (acc := acc) (bytes := bytes) w
  have hent := fun w => entry_any mode va acc bytes table true v0 v1 t0 t1 w
  rw [c1] at hent
  simp only [cond_true, cond_false] at hent
  generalize W.entA table va true = E1 at *
  unfold W.Stp.val W.moreS
  dsimp only
  go_enter Tryz.func84, Tryz.ntmps84
  go_wp2
  refine wp_loop_rounds 3 ?_
  rw [rounds_succ]
  go_wp2_with (fail)
  refine (hent _).mono ?_
  rintro e w1 ⟨rfl, hb⟩
  have d1 := d0.below hb
  clear d0 hb hent
  obtain ⟨g0, g1, g2, g3⟩ := way_cells d1.way
  obtain ⟨f0, f1, f2, f3, f4, fz⟩ := res_cells d1.res
  have l2 := d1.lt
  have l1 : w.heap.size < w1.heap.size := by omega
  go_wp2
  exact bodyPost_ret (v := .tuple #[.agg #[.int .i64 3, .int .u32 0, .int .u32 E1, .int .u32 0, .int .u32 0], .int .i64 0]) (by simp [results, Tryz.results84, go_sem, *]) rfl ⟨rfl, fin5 d1.base (by omega) _ _ _ _ _⟩
end Go.Proofs.YteilpehekabccabGreatDoor

/- The way down, way 2. -/
namespace Go.Proofs.YteilpehekabccabGreatDoor
open Go.ChangeShapes Go.WideShapes Go.ChangeAt Go.RowKit
set_option linter.unusedVariables false
set_option linter.unusedSimpArgs false

set_option maxHeartbeats 1600000 in
theorem down_2 (mode va acc bytes table : Int) (v0 : 0 ≤ va) (v1 : va < 4294967296) (t0 : 0 ≤ table) (t1 : table < 4294967296) (n cap : Nat) (hm : n ≤ maxLen) (w : World) (b off : Nat) (p : Nat → W.Pt) (hlt : b < w.heap.size) (hr : Rd b off n p w) (hn : 0 < n) (x0 : 0 ≤ (p 0).v) (x1 : (p 0).v < 4294967296)
    (c1 : W.entB table va bytes true = true) (c3 : ((p 0).a != W.entA table va true) = true) :
    Calls Tryz.prog 84 #[.agg #[.int .i64 mode, .int .u32 va, .int .i64 acc, .int .i64 bytes], .int .u32 table, .slice (some ⟨b, off, none⟩) n cap] w fun x w' => x = .returned (.tuple #[(W.fltS acc true).val, .int .i64 0]) ∧ Below w.heap.size w w' := by
  have d0 := Dw.first (mode := mode) (va := va) (acc := acc) (bytes := bytes) w
  have hent := fun w => entry_any mode va acc bytes table true v0 v1 t0 t1 w
  rw [c1] at hent
  simp only [cond_true, cond_false] at hent
  generalize W.entA table va true = E1 at *
  obtain ⟨r00, r01, r02, r03, r04⟩ := hr 0 (by omega)
  simp only [Nat.zero_mul, Nat.add_zero] at r00 r01 r02 r03 r04
  clear hr
  generalize p 0 = P0 at *
  obtain ⟨pa, pv, po, pt, pf⟩ := P0
  dsimp only at *
  have hn0 : ((0 : Int) == (n : Int)) = false := by simp; omega
  have hn1 : (0 : Int) < n := by omega
  unfold W.Stp.val W.fltS
  dsimp only
  go_enter Tryz.func84, Tryz.ntmps84
  go_wp2
  refine wp_loop_rounds 3 ?_
  rw [rounds_succ]
  go_wp2_with (fail)
  refine (hent _).mono ?_
  rintro e w1 ⟨rfl, hb⟩
  have d1 := d0.below hb
  clear d0 hb hent
  have s0 := (d1.base.cell (p := ⟨b, off, none⟩) hlt).trans r00
  have s1 := (d1.base.cell (p := ⟨b, off + 1, none⟩) hlt).trans r01
  have s2 := (d1.base.cell (p := ⟨b, off + 2, none⟩) hlt).trans r02
  have s3 := (d1.base.cell (p := ⟨b, off + 3, none⟩) hlt).trans r03
  have s4 := (d1.base.cell (p := ⟨b, off + 4, none⟩) hlt).trans r04
  obtain ⟨g0, g1, g2, g3⟩ := way_cells d1.way
  obtain ⟨f0, f1, f2, f3, f4, fz⟩ := res_cells d1.res
  have l2 := d1.lt
  have l1 : w.heap.size < w1.heap.size := by omega
  go_wp2_with (first
    | (go_at_call 85; refine (wfault_any _ _ _ _ _ _).mono ?_; rintro e wf ⟨rfl, hbf⟩; have d9 := (d1.alloc _).below hbf; clear f0 f1 f2 f3 f4 fz; obtain ⟨f0, f1, f2, f3, f4, fz⟩ := res_cells d9.res))
  exact bodyPost_ret (v := .tuple #[.agg #[.int .i64 2, .int .u32 0, .int .u32 0, .int .u32 0, .int .u32 (W.cause acc true)], .int .i64 0]) (by simp [results, Tryz.results84, go_sem, *]) rfl ⟨rfl, fin5 d9.base (by omega) _ _ _ _ _⟩
end Go.Proofs.YteilpehekabccabGreatDoor

/- The way down, way 3. -/
namespace Go.Proofs.YteilpehekabccabGreatDoor
open Go.ChangeShapes Go.WideShapes Go.ChangeAt Go.RowKit
set_option linter.unusedVariables false
set_option linter.unusedSimpArgs false

set_option maxHeartbeats 1600000 in
theorem down_3 (mode va acc bytes table : Int) (v0 : 0 ≤ va) (v1 : va < 4294967296) (t0 : 0 ≤ table) (t1 : table < 4294967296) (n cap : Nat) (hm : n ≤ maxLen) (w : World) (b off : Nat) (p : Nat → W.Pt) (hlt : b < w.heap.size) (hr : Rd b off n p w) (hn : 0 < n) (x0 : 0 ≤ (p 0).v) (x1 : (p 0).v < 4294967296)
    (c1 : W.entB table va bytes true = true) (c3 : ((p 0).a != W.entA table va true) = false) (c4 : W.bad (p 0).v = true) :
    Calls Tryz.prog 84 #[.agg #[.int .i64 mode, .int .u32 va, .int .i64 acc, .int .i64 bytes], .int .u32 table, .slice (some ⟨b, off, none⟩) n cap] w fun x w' => x = .returned (.tuple #[(W.fltS acc true).val, .int .i64 1]) ∧ Below w.heap.size w w' := by
  have d0 := Dw.first (mode := mode) (va := va) (acc := acc) (bytes := bytes) w
  have hent := fun w => entry_any mode va acc bytes table true v0 v1 t0 t1 w
  rw [c1] at hent
  simp only [cond_true, cond_false] at hent
  generalize W.entA table va true = E1 at *
  obtain ⟨r00, r01, r02, r03, r04⟩ := hr 0 (by omega)
  simp only [Nat.zero_mul, Nat.add_zero] at r00 r01 r02 r03 r04
  clear hr
  generalize p 0 = P0 at *
  obtain ⟨pa, pv, po, pt, pf⟩ := P0
  dsimp only at *
  have hn0 : ((0 : Int) == (n : Int)) = false := by simp; omega
  have hn1 : (0 : Int) < n := by omega
  unfold W.Stp.val W.fltS
  dsimp only
  go_enter Tryz.func84, Tryz.ntmps84
  go_wp2
  refine wp_loop_rounds 3 ?_
  rw [rounds_succ]
  go_wp2_with (fail)
  refine (hent _).mono ?_
  rintro e w1 ⟨rfl, hb⟩
  have d1 := d0.below hb
  clear d0 hb hent
  have s0 := (d1.base.cell (p := ⟨b, off, none⟩) hlt).trans r00
  have s1 := (d1.base.cell (p := ⟨b, off + 1, none⟩) hlt).trans r01
  have s2 := (d1.base.cell (p := ⟨b, off + 2, none⟩) hlt).trans r02
  have s3 := (d1.base.cell (p := ⟨b, off + 3, none⟩) hlt).trans r03
  have s4 := (d1.base.cell (p := ⟨b, off + 4, none⟩) hlt).trans r04
  obtain ⟨g0, g1, g2, g3⟩ := way_cells d1.way
  obtain ⟨f0, f1, f2, f3, f4, fz⟩ := res_cells d1.res
  have l2 := d1.lt
  have l1 : w.heap.size < w1.heap.size := by omega
  go_wp2_with (first
    | (go_at_call 103; refine (bad_any _ _).mono ?_; rintro e w' ⟨rfl, rfl⟩)
    | (go_at_call 85; refine (wfault_any _ _ _ _ _ _).mono ?_; rintro e wf ⟨rfl, hbf⟩; have d9 := (d1.alloc _).below hbf; clear f0 f1 f2 f3 f4 fz; obtain ⟨f0, f1, f2, f3, f4, fz⟩ := res_cells d9.res))
  exact bodyPost_ret (v := .tuple #[.agg #[.int .i64 2, .int .u32 0, .int .u32 0, .int .u32 0, .int .u32 (W.cause acc true)], .int .i64 1]) (by simp [results, Tryz.results84, go_sem, *]) rfl ⟨rfl, fin5 d9.base (by omega) _ _ _ _ _⟩
end Go.Proofs.YteilpehekabccabGreatDoor
