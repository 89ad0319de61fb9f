/- Where an entry lies. -/
import Derived.Test.YtkcdkjmkgncihaaWalkA
namespace Go.Proofs.Ytkcdkjmkgncihaa
open Go.ChangeShapes Go.WideShapes Go.ChangeAt Go.RowKit
set_option linter.unusedVariables false

theorem from_ {P : Program} {f : FuncId} {args : Array Value} {w0 w : World} {v : Value} (h : Calls P f args w fun e w' => e = .returned v ∧ Below w.heap.size w w') (hb : Below w0.heap.size w0 w) :
    Calls P f args w fun e w' => e = .returned v ∧ Below w0.heap.size w0 w' :=
  h.mono fun _ _ ⟨a, b⟩ => ⟨a, hb.trans (b.mono hb.size)⟩

theorem entry_any (mode va acc bytes table : Int) (g : Bool) (v0 : 0 ≤ va) (v1 : va < 4294967296) (t0 : 0 ≤ table) (t1 : table < 4294967296) (w : World) : Calls Try.prog 26 #[.agg #[.int .i64 mode, .int .u32 va, .int .i64 acc, .int .i64 bytes], .int .u32 table, .int .i64 (W.lv g)] w fun x w' => x = .returned (.tuple #[.int .u32 (bif W.entB table va bytes g then W.entA table va g else 0), .bool (W.entB table va bytes g)]) ∧ Below w.heap.size w w' := by
  have hi := W.idx_lt va g v0 v1
  have hbits : W.bitsOf va (bif g then 22 else 12) 10 = W.idx va g := by cases g; exact W.bits_12 va v0 v1; exact W.bits_22 va v0 v1
  have hA : Hid (W.entA table va g = table * 4096 + 4 * W.idx va g) := rfl
  have hB : Hid (W.entB table va bytes g = bif decide (4294967295 < W.entA table va g) then false else decide (W.entA table va g + 4 ≤ bytes)) := rfl
  have e0 : (bif g then 22 else 12 : Int) = (bif g then 22 else 12) := rfl
  have hr : ∀ (x y : Int) (d : Bool), x = y → Ending.returned (.tuple #[.int .u32 x, .bool d]) = .returned (.tuple #[.int .u32 y, .bool d]) := by rintro x _ d rfl; rfl
  generalize W.entB table va bytes g = EB at *
  generalize hAA : W.entA table va g = EA at *
  generalize W.idx va g = I at *
  have hoff := offBits_any g
  generalize W.lv g = L at *
  generalize hob : (bif g then 22 else 12 : Int) = ob at *
  have hA2 := hA.out
  have k0 : 0 ≤ EA := by omega
  have ht : wrap64 (table * 4096 + 4 * I) = EA := by rw [hA2]; unfold wrap64; omega
  have ht2 : table * 4096 + 4 * I = EA := hA2.symm
  have ht3 : wrap64 EA = EA := by unfold wrap64; omega
  have ht4 : wrap64 (EA + 4) = EA + 4 := by unfold wrap64; omega
  have hEm : Hid (EA ≤ 4294967295 → EA % 4294967296 = EA) := fun h => by omega
  clear hA hA2 hAA hob e0
  by_cases c1 : 4294967295 < EA
  · have : EB = false := by rw [hB.out]; simp [c1]
    subst this
    clear hB hEm
    go_enter Try.func26, Try.ntmps26
    go_wp2_with (fail)
    go_quiet (first | (go_at_call 31; exact Calls.quiet_of_same (hoff _)) | (go_at_call 18; exact Calls.quiet_of (bits_any _ _ _ _)))
    go_wp2_with (go_at_call 32; refine (place_any _ t0 t1 _).mono ?_; rintro e w' ⟨rfl, rfl⟩)
    exact bodyPost_ret (v := .tuple #[.int .u32 0, .bool false]) (by simp [results, Try.results26, go_sem]) rfl ⟨rfl, below_drewN ((Below.refl _ _).alloc (Nat.le_refl _) _) _⟩
  · by_cases c2 : bytes < EA + 4
    · have : EB = false := by rw [hB.out]; simp; omega
      subst this
      clear hB hEm
      go_enter Try.func26, Try.ntmps26
      go_wp2_with (fail)
      go_quiet (first | (go_at_call 31; exact Calls.quiet_of_same (hoff _)) | (go_at_call 18; exact Calls.quiet_of (bits_any _ _ _ _)))
      go_wp2_with (go_at_call 32; refine (place_any _ t0 t1 _).mono ?_; rintro e w' ⟨rfl, rfl⟩)
      exact bodyPost_ret (v := .tuple #[.int .u32 0, .bool false]) (by simp [results, Try.results26, go_sem]) rfl ⟨rfl, below_drewN ((Below.refl _ _).alloc (Nat.le_refl _) _) _⟩
    · have : EB = true := by rw [hB.out]; simp [c1]; omega
      subst this
      have hEm2 := hEm.out (by omega)
      clear hB hEm
      go_enter Try.func26, Try.ntmps26
      go_wp2_with (fail)
      go_quiet (first | (go_at_call 31; exact Calls.quiet_of_same (hoff _)) | (go_at_call 18; exact Calls.quiet_of (bits_any _ _ _ _)))
      go_wp2_with (go_at_call 32; refine (place_any _ t0 t1 _).mono ?_; rintro e w' ⟨rfl, rfl⟩)
      exact bodyPost_ret (v := .tuple #[.int .u32 EA, .bool true]) (by simp [results, Try.results26, go_sem]) rfl ⟨rfl, below_drewN ((Below.refl _ _).alloc (Nat.le_refl _) _) _⟩
end Go.Proofs.Ytkcdkjmkgncihaa
