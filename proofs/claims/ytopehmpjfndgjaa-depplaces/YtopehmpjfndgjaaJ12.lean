/- Texts in one: Zero70, IsaC. -/
import Derived.Deep.WholeRow
import Derived.Test.YtopehmpjfndgjaaJ01
import Derived.Test.YtopehmpjfndgjaaJ07
/- The zero value of a table of 70 words, as a constant that is not opened. -/
namespace Go.Proofs.Ytopehmpjfndgjaa
open Go.ChangeShapes Go.WideShapes Go.ChangeAt Go.RowKit

def Try.zeroCells72 : Array Value := Array.replicate 70 (.int .u32 0)
@[go_sem] theorem zero70 (w : World) : (zeroValue 72).run Try.prog w = .ok (.agg Try.zeroCells72) w := by kernel_rfl
@[go_sem] theorem zero70_size : Try.zeroCells72.size = 70 := by kernel_rfl
@[simp] theorem zero70_ne : Try.zeroCells72 ≠ #[] := by
  intro e
  have := congrArg Array.size e
  rw [zero70_size] at this
  cases this
end Go.Proofs.Ytopehmpjfndgjaa

/- What only, inRange and codes return. -/
namespace Go.Proofs.Ytopehmpjfndgjaa
open Go.ChangeShapes Go.WideShapes Go.ChangeAt Go.RowKit
set_option linter.unusedVariables false
set_option linter.unusedSimpArgs false

def codesA : Array Value := (W.codes.map fun z => Value.int .u32 z).toArray

/-- A table laid in a result's block. -/
theorem table_out {P : Program} {t : TypeId} {parts : Array (Nat × Operand)} {cells : Array Value} {w : World} {old : Array Value} {ops : Array Oper} {Q : Exit → Act → World → Prop} {o1 o2 : Oper}
    (h1 : o1.op = .build t parts) (g1 : o1.guard = none) (d1 : o1.dst = some 1) (h2 : o2.op = .store t (.tmp 0) (.tmp 1)) (g2 : o2.guard = none) (d2 : o2.dst = none)
    (hb : ∀ a : Act, P.built t (parts.map fun (i, x) => (i, a.eval x)).toList = some cells) (hi : (P.info? t).map (·.size) = some cells.size) (ho : old.size = cells.size) (h3 : cells.all (·.oneCell') = true)
    (hQ : Q .normal { tmps := #[.pointer (some ⟨w.heap.size, 0, none⟩), .agg cells], defers := [] } (w.alloc (.cells cells t))) :
    wpList P ops Q [o1, o2] { tmps := #[.pointer (some ⟨w.heap.size, 0, none⟩), undef], defers := [] } (w.alloc (.cells old t)) := by
  refine wpList_plain g1 fun K hK => wp_build t parts h1 (by rw [hb]; rfl) (hK _ _ ?_)
  rw [hb]
  refine wpList_plain g2 fun K2 hK2 => wp_store_row t (.tmp 0) (.tmp 1) h2 w.heap.size cells (by rw [d1]; rfl) (by rw [d1]; rfl) t old (heap_alloc_last w _) hi ho h3 (hK2 _ _ ?_)
  rw [d1, d2, World.setRow_alloc_new]
  exact hQ

set_option maxRecDepth 100000 in
theorem codes_any (w : World) : Calls Try.prog 35 #[] w fun e w' => e = .returned (.agg codesA) ∧ Below w.heap.size w w' := by
  go_enter Try.func35, Try.ntmps35
  generalize hops : (#[{ dst := some 1, op := Op.build _ _, type := _, pos := "tables.go:7", after := #[], guard := none }, _] : Array Oper) = ops
  go_wp2
  subst hops
  refine table_out rfl rfl rfl rfl rfl rfl (cells := codesA) (fun a => by kernel_rfl) (by kernel_rfl) (by kernel_rfl) (by kernel_rfl) ?_
  have hn : codesA.size = 70 := by kernel_rfl
  generalize hcs : codesA = cs at hn ⊢
  go_wp2
  refine bodyPost_ret (v := .agg cs) ?_ rfl ⟨by rw [hcs], (Below.refl _ _).alloc (Nat.le_refl _) _⟩
  simp [results, Try.results35, asAddr, run_loadVar_new w 72 cs 70 29 Try.underlying72 (by rw [hn]; kernel_rfl)]

theorem hasImm_ex (fixed fmt low size : Int) (rd rs1 rs2 csr ord : Bool) (w : World) :
    Calls Try.prog 52 #[.agg #[.int .u32 fixed, .bool rd, .bool rs1, .bool rs2, .bool csr, .bool ord, .int .u8 fmt, .int .i64 low, .int .i64 size]] w fun e w' => e = .returned (.bool (W.hasI fmt size)) ∧
      w' = w.alloc (.cells #[.int .u32 fixed, .bool rd, .bool rs1, .bool rs2, .bool csr, .bool ord, .int .u8 fmt, .int .i64 low, .int .i64 size] 75) := by
  cases h1 : (fmt != 0)
  · have hr : Hid (W.hasI fmt size = decide (0 < size)) := by
      have : W.hasI fmt size = decide (0 < size) := by simp [W.hasI, h1]
      exact this
    go_enter Try.func52, Try.ntmps52
    go_wp2
    go_ret
    exact ⟨ret_bool' hr.out.symm, rfl⟩
  · have hr : Hid (W.hasI fmt size = true) := by
      have : W.hasI fmt size = true := by simp [W.hasI, h1]
      exact this
    go_enter Try.func52, Try.ntmps52
    go_wp2
    go_ret
    exact ⟨ret_bool' hr.out.symm, rfl⟩

end Go.Proofs.Ytopehmpjfndgjaa
