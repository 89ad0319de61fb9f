/- What comes of a leaf. -/
import Derived.Test.YtkcdkjmkgncihaaWalkB
namespace Go.Proofs.Ytkcdkjmkgncihaa
open Go.ChangeShapes Go.WideShapes Go.ChangeAt Go.RowKit
set_option linter.unusedVariables false

theorem fits_any (ev P : Int) (g : Bool) (h0 : 0 ≤ ev) (h1 : ev < 4294967296) (hP : ev / 1024 = P) (w : World) : Calls Try.prog 33 #[.int .u32 P, .int .i64 (W.lv g)] w fun x w' => x = .returned (.bool (W.fitsB ev g)) ∧ ∃ k, w' = w.drewN k := by
  subst hP
  cases g
  · exact fits_0 _ w
  · exact fits_1 _ (by omega) (by omega) w

theorem below3 (w : World) (o1 o2 o3 : Obj) (k : Nat) : Below w.heap.size w ((((w.alloc o1).alloc o2).alloc o3).drewN k) :=
  below_drewN ((((Below.refl _ _).alloc (Nat.le_refl _) _).alloc (by simp) _).alloc (by simp; omega) _) _
theorem get3 (w : World) (o1 o2 o3 : Obj) (k : Nat) : ((((w.alloc o1).alloc o2).alloc o3).drewN k).heap[w.heap.size + 1 + 1]? = some o3 := by
  show (((w.heap.push o1).push o2).push o3)[w.heap.size + 1 + 1]? = some o3
  rw [Array.getElem?_push]
  simp
theorem get1 (w : World) (o1 o2 o3 : Obj) (k : Nat) : ((((w.alloc o1).alloc o2).alloc o3).drewN k).heap[w.heap.size]? = some o1 := by
  show (((w.heap.push o1).push o2).push o3)[w.heap.size]? = some o1
  rw [Array.getElem?_push, Array.getElem?_push, Array.getElem?_push]
  simp
  omega
theorem way_cells {w : World} {b : Nat} {T : TypeId} {mode va acc bytes : Int} (h : w.heap[b]? = some (.cells #[.int .i64 mode, .int .u32 va, .int .i64 acc, .int .i64 bytes] T)) :
    w.cell? ⟨b, 0, none⟩ = some (.int .i64 mode) ∧ w.cell? ⟨b, 1, none⟩ = some (.int .u32 va) ∧ w.cell? ⟨b, 2, none⟩ = some (.int .i64 acc) ∧ w.cell? ⟨b, 3, none⟩ = some (.int .i64 bytes) := by
  simp [World.cell?, h]
/-- A block for a step that is to come. -/
theorem res_cells {w : World} {b : Nat} {T : TypeId} (h : w.heap[b]? = some (.cells #[.int .i64 0, .int .u32 0, .int .u32 0, .int .u32 0, .int .u32 0] T)) :
    w.cell? ⟨b, 0, none⟩ = some (.int .i64 0) ∧ w.cell? ⟨b, 1, none⟩ = some (.int .u32 0) ∧ w.cell? ⟨b, 2, none⟩ = some (.int .u32 0) ∧ w.cell? ⟨b, 3, none⟩ = some (.int .u32 0) ∧ w.cell? ⟨b, 4, none⟩ = some (.int .u32 0) ∧ ∀ o, w.frozen? ⟨b, o, none⟩ = false := by
  simp [World.cell?, World.frozen?, h]
theorem fin5 {w w' : World} {b : Nat} (h : Below w.heap.size w w') (hb : w.heap.size ≤ b) (v0 v1 v2 v3 v4 : Value) :
    Below w.heap.size w (((((w'.setCell ⟨b, 0, none⟩ v0).setCell ⟨b, 1, none⟩ v1).setCell ⟨b, 2, none⟩ v2).setCell ⟨b, 3, none⟩ v3).setCell ⟨b, 4, none⟩ v4) :=
  ((((h.setCell hb _).setCell hb _).setCell hb _).setCell hb _).setCell hb _

theorem leafB_any (mode va acc bytes ea ev eo et : Int) (ew : Bool) (g : Bool) (v0 : 0 ≤ va) (v1 : va < 4294967296) (e0 : 0 ≤ ev) (e1 : ev < 4294967296) (w : World) : Calls Try.prog 27 #[.agg #[.int .i64 mode, .int .u32 va, .int .i64 acc, .int .i64 bytes], .agg #[.int .u32 ea, .int .u32 ev, .int .u32 eo, .int .i64 et, .bool ew], .int .i64 (W.lv g)] w fun x w' => x = .returned (W.leafS ea ev va acc mode g).val ∧ Below w.heap.size w w' := by
  have hoff := offBits_any g
  have hfit := fun w => fits_any ev _ g e0 e1 rfl w
  have hpg := W.page_eq ev e0 e1
  have hbits : W.bitsOf va 0 (bif g then 22 else 12) = W.offv va g := by cases g; exact W.bits_l12 va v0 v1; exact W.bits_l22 va v0 v1
  have ho := W.offv_lt va g
  have hP : 0 ≤ ev / 1024 ∧ ev / 1024 < 4294967296 := by omega
  have hP2 : ev / 1024 < 4194304 := by omega
  have hS : Hid (W.leafS ea ev va acc mode g = bif W.may ev acc mode then bif W.fitsB ev g then bif W.needs ev acc != ev then W.markS ea (W.needs ev acc) else
    bif decide (4294967295 < ev / 1024 * 4096 + W.offv va g) then W.fltS acc false else W.hereS (ev / 1024 * 4096 + W.offv va g)
  else W.fltS acc true else W.fltS acc true) := rfl
  generalize W.leafS ea ev va acc mode g = S at *
  generalize W.fitsB ev g = fb at *
  generalize W.offv va g = O at *
  generalize W.lv g = L at *
  generalize (bif g then 22 else 12 : Int) = ob at *
  generalize ev / 1024 = P at *
  generalize hN : W.needs ev acc = N at *
  have q1 : IntKind.i64.wrap O = O := IntWalk.i64_in _ (by omega)
  have q2 : IntKind.i64.wrap (P * 4096 + O) = P * 4096 + O := IntWalk.i64_in _ (by omega)
  cases c1 : W.may ev acc mode
  · have hs : S = W.fltS acc true := by rw [hS.out, c1]; rfl
    subst hs
    clear hS
    go_enter Try.func27, Try.ntmps27
    go_wp2_with (first
      | (go_at_call 28; refine (page_any _ _).mono ?_; rintro e w' ⟨rfl, k, rfl⟩)
      | (go_at_call 12; refine (may_any _ _ _ _).mono ?_; rintro e w' ⟨rfl, rfl⟩)
      | (go_at_call 33; refine (hfit _).mono ?_; rintro e w' ⟨rfl, k2, rfl⟩)
      | (go_at_call 11; refine (needs_any _ _ _).mono ?_; rintro e w' ⟨rfl, rfl⟩)
      | (go_at_call 32; refine (place_any _ hP.1 hP.2 _).mono ?_; rintro e w' ⟨rfl, rfl⟩)
      | (go_at_call 31; refine (hoff _).mono ?_; rintro e w' ⟨rfl, rfl⟩)
      | (go_at_call 18; refine (bits_any _ _ _ _).mono ?_; rintro e w' ⟨rfl, k3, rfl⟩)
      | (go_at_call 19; refine (fault_any _ _ _ _ _ _).mono ?_; rintro e w' ⟨rfl, hb⟩; obtain ⟨f0, f1, f2, f3, f4, fz⟩ := res_cells (b := w.heap.size + 1 + 1) (T := 28) ((hb.block _ (by simp)).trans (get3 _ _ _ _ _))))
    exact bodyPost_ret (v := (W.fltS acc true).val) (by simp [results, Try.results27, go_sem, W.Stp.val, W.fltS, *]) rfl ⟨rfl, fin5 ((below3 _ _ _ _ _).trans (hb.mono (by simp; omega))) (by omega) _ _ _ _ _⟩
  · cases fb
    · have hs : S = W.fltS acc true := by rw [hS.out, c1]; rfl
      subst hs
      clear hS
      go_enter Try.func27, Try.ntmps27
      go_wp2_with (first
        | (go_at_call 28; refine (page_any _ _).mono ?_; rintro e w' ⟨rfl, k, rfl⟩)
        | (go_at_call 12; refine (may_any _ _ _ _).mono ?_; rintro e w' ⟨rfl, rfl⟩)
        | (go_at_call 33; refine (hfit _).mono ?_; rintro e w' ⟨rfl, k2, rfl⟩)
        | (go_at_call 11; refine (needs_any _ _ _).mono ?_; rintro e w' ⟨rfl, rfl⟩)
        | (go_at_call 32; refine (place_any _ hP.1 hP.2 _).mono ?_; rintro e w' ⟨rfl, rfl⟩)
        | (go_at_call 31; refine (hoff _).mono ?_; rintro e w' ⟨rfl, rfl⟩)
        | (go_at_call 18; refine (bits_any _ _ _ _).mono ?_; rintro e w' ⟨rfl, k3, rfl⟩)
        | (go_at_call 19; refine (fault_any _ _ _ _ _ _).mono ?_; rintro e w' ⟨rfl, hb⟩; obtain ⟨f0, f1, f2, f3, f4, fz⟩ := res_cells (b := w.heap.size + 1 + 1) (T := 28) ((hb.block _ (by simp)).trans (get3 _ _ _ _ _))))
      exact bodyPost_ret (v := (W.fltS acc true).val) (by simp [results, Try.results27, go_sem, W.Stp.val, W.fltS, *]) rfl ⟨rfl, fin5 ((below3 _ _ _ _ _).trans (hb.mono (by simp; omega))) (by omega) _ _ _ _ _⟩
    · cases c3 : (N != ev)
      · by_cases c4 : 4294967295 < P * 4096 + O
        · have hs : S = W.fltS acc false := by rw [hS.out, c1, c3]; simp [c4]
          subst hs
          clear hS
          go_enter Try.func27, Try.ntmps27
          go_wp2_with (first
            | (go_at_call 28; refine (page_any _ _).mono ?_; rintro e w' ⟨rfl, k, rfl⟩)
            | (go_at_call 12; refine (may_any _ _ _ _).mono ?_; rintro e w' ⟨rfl, rfl⟩)
            | (go_at_call 33; refine (hfit _).mono ?_; rintro e w' ⟨rfl, k2, rfl⟩)
            | (go_at_call 11; refine (needs_any _ _ _).mono ?_; rintro e w' ⟨rfl, rfl⟩)
            | (go_at_call 32; refine (place_any _ hP.1 hP.2 _).mono ?_; rintro e w' ⟨rfl, rfl⟩)
            | (go_at_call 31; refine (hoff _).mono ?_; rintro e w' ⟨rfl, rfl⟩)
            | (go_at_call 18; refine (bits_any _ _ _ _).mono ?_; rintro e w' ⟨rfl, k3, rfl⟩)
            | (go_at_call 19; refine (fault_any _ _ _ _ _ _).mono ?_; rintro e w' ⟨rfl, hb⟩; obtain ⟨f0, f1, f2, f3, f4, fz⟩ := res_cells (b := w.heap.size + 1 + 1) (T := 28) ((hb.block _ (by simp)).trans (get3 _ _ _ _ _))))
          generalize hW : World.drewN (World.alloc (World.alloc (World.alloc w _) _) _) _ = W1
          have hr1 : W1.heap[w.heap.size + 1 + 1]? = some (.cells #[.int .i64 0, .int .u32 0, .int .u32 0, .int .u32 0, .int .u32 0] 28) := by rw [← hW]; exact get3 _ _ _ _ _
          have hw1 : W1.heap[w.heap.size]? = some (.cells #[.int .i64 mode, .int .u32 va, .int .i64 acc, .int .i64 bytes] 46) := by rw [← hW]; exact get1 _ _ _ _ _
          have hb1 : Below w.heap.size w W1 := by rw [← hW]; exact below3 _ _ _ _ _
          have hs1 : w.heap.size + 1 + 1 < W1.heap.size := by rw [← hW]; simp
          obtain ⟨g0, g1, g2, g3⟩ := way_cells hw1
          obtain ⟨f0, f1, f2, f3, f4, fz⟩ := res_cells hr1
          clear hW hw1
          go_quiet (first | (go_at_call 32; exact Calls.quiet_of_same (place_any _ hP.1 hP.2 _)) | (go_at_call 31; exact Calls.quiet_of_same (hoff _)) | (go_at_call 18; exact Calls.quiet_of (bits_any _ _ _ _)))
          go_wp2_with (go_at_call 19; refine (fault_any _ _ _ _ _ _).mono ?_; rintro e w' ⟨rfl, hb⟩; clear f0 f1 f2 f3 f4 fz; obtain ⟨f0, f1, f2, f3, f4, fz⟩ := res_cells (b := w.heap.size + 1 + 1) (T := 28) ((hb.block _ hs1).trans hr1))
          exact bodyPost_ret (v := (W.fltS acc false).val) (by simp [results, Try.results27, go_sem, W.Stp.val, W.fltS, *]) rfl ⟨rfl, fin5 ((below_drewN hb1 _).trans (hb.mono hb1.size)) (by omega) _ _ _ _ _⟩
        · have hs : S = W.hereS (P * 4096 + O) := by rw [hS.out, c1, c3]; simp [c4]
          subst hs
          clear hS
          go_enter Try.func27, Try.ntmps27
          go_wp2_with (first
            | (go_at_call 28; refine (page_any _ _).mono ?_; rintro e w' ⟨rfl, k, rfl⟩)
            | (go_at_call 12; refine (may_any _ _ _ _).mono ?_; rintro e w' ⟨rfl, rfl⟩)
            | (go_at_call 33; refine (hfit _).mono ?_; rintro e w' ⟨rfl, k2, rfl⟩)
            | (go_at_call 11; refine (needs_any _ _ _).mono ?_; rintro e w' ⟨rfl, rfl⟩)
            | (go_at_call 32; refine (place_any _ hP.1 hP.2 _).mono ?_; rintro e w' ⟨rfl, rfl⟩)
            | (go_at_call 31; refine (hoff _).mono ?_; rintro e w' ⟨rfl, rfl⟩)
            | (go_at_call 18; refine (bits_any _ _ _ _).mono ?_; rintro e w' ⟨rfl, k3, rfl⟩)
            | (go_at_call 19; refine (fault_any _ _ _ _ _ _).mono ?_; rintro e w' ⟨rfl, hb⟩; obtain ⟨f0, f1, f2, f3, f4, fz⟩ := res_cells (b := w.heap.size + 1 + 1) (T := 28) ((hb.block _ (by simp)).trans (get3 _ _ _ _ _))))
          generalize hW : World.drewN (World.alloc (World.alloc (World.alloc w _) _) _) _ = W1
          have hr1 : W1.heap[w.heap.size + 1 + 1]? = some (.cells #[.int .i64 0, .int .u32 0, .int .u32 0, .int .u32 0, .int .u32 0] 28) := by rw [← hW]; exact get3 _ _ _ _ _
          have hw1 : W1.heap[w.heap.size]? = some (.cells #[.int .i64 mode, .int .u32 va, .int .i64 acc, .int .i64 bytes] 46) := by rw [← hW]; exact get1 _ _ _ _ _
          have hb1 : Below w.heap.size w W1 := by rw [← hW]; exact below3 _ _ _ _ _
          have hs1 : w.heap.size + 1 + 1 < W1.heap.size := by rw [← hW]; simp
          obtain ⟨g0, g1, g2, g3⟩ := way_cells hw1
          obtain ⟨f0, f1, f2, f3, f4, fz⟩ := res_cells hr1
          clear hW hw1
          go_quiet (first | (go_at_call 32; exact Calls.quiet_of_same (place_any _ hP.1 hP.2 _)) | (go_at_call 31; exact Calls.quiet_of_same (hoff _)) | (go_at_call 18; exact Calls.quiet_of (bits_any _ _ _ _)))
          have q3 : (P * 4096 + O) % 4294967296 = P * 4096 + O := by omega
          go_wp2
          exact bodyPost_ret (v := (W.hereS (P * 4096 + O)).val) (by simp [results, Try.results27, go_sem, W.Stp.val, W.hereS, *]) rfl ⟨rfl, fin5 (below_drewN hb1 _) (by omega) _ _ _ _ _⟩
      · have hs : S = W.markS ea N := by rw [hS.out, c1, c3]; rfl
        subst hs
        clear hS
        go_enter Try.func27, Try.ntmps27
        go_wp2_with (first
          | (go_at_call 28; refine (page_any _ _).mono ?_; rintro e w' ⟨rfl, k, rfl⟩)
          | (go_at_call 12; refine (may_any _ _ _ _).mono ?_; rintro e w' ⟨rfl, rfl⟩)
          | (go_at_call 33; refine (hfit _).mono ?_; rintro e w' ⟨rfl, k2, rfl⟩)
          | (go_at_call 11; refine (needs_any _ _ _).mono ?_; rintro e w' ⟨rfl, rfl⟩)
          | (go_at_call 32; refine (place_any _ hP.1 hP.2 _).mono ?_; rintro e w' ⟨rfl, rfl⟩)
          | (go_at_call 31; refine (hoff _).mono ?_; rintro e w' ⟨rfl, rfl⟩)
          | (go_at_call 18; refine (bits_any _ _ _ _).mono ?_; rintro e w' ⟨rfl, k3, rfl⟩)
          | (go_at_call 19; refine (fault_any _ _ _ _ _ _).mono ?_; rintro e w' ⟨rfl, hb⟩; obtain ⟨f0, f1, f2, f3, f4, fz⟩ := res_cells (b := w.heap.size + 1 + 1) (T := 28) ((hb.block _ (by simp)).trans (get3 _ _ _ _ _))))
        exact bodyPost_ret (v := (W.markS ea N).val) (by simp [results, Try.results27, go_sem, W.Stp.val, W.markS, *]) rfl ⟨rfl, fin5 (below3 _ _ _ _ _) (by omega) _ _ _ _ _⟩
end Go.Proofs.Ytkcdkjmkgncihaa
