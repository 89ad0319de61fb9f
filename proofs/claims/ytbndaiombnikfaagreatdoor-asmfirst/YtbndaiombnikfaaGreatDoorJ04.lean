/- Texts in one: IsaB, IsaC. -/
import Derived.Deep.WholeRow
import Derived.Test.YtbndaiombnikfaaGreatDoorJ03
/- The shape of each instruction, as the program answers it. -/
namespace Go.Proofs.YtbndaiombnikfaaGreatDoor
open Go.ChangeShapes Go.WideShapes Go.ChangeAt Go.RowKit
set_option linter.unusedVariables false
set_option linter.unusedSimpArgs false


set_option maxHeartbeats 6400000 in
theorem shapeOf_any (op : Int) (w : World) :
    Calls Tryz.prog 47 #[.int .i64 op] w fun e w' => e = .returned (shV (W.shp op)) ∧ Below w.heap.size w w' := by
  cases h0 : (op == 1)
  case true =>
    have hv : Hid (W.shp op = ⟨127, true, false, false, false, false, 85, 0, 0⟩) := by
      have : W.shp op = ⟨127, true, false, false, false, false, 85, 0, 0⟩ := by simp only [W.shp, h0, cond_true, cond_false]
      exact this
    go_enter Tryz.func47, Tryz.ntmps47
    go_wp2_with (go_at_call 78; refine (fr_any _ _ _ _).mono ?_; rintro e w' ⟨rfl, rfl⟩)
    exact bodyPost_ret (v := shV ⟨127, true, false, false, false, false, 85, 0, 0⟩) (by simp [results, Tryz.results47, go_sem]; rfl) rfl ⟨by rw [hv.out], (Below.refl _ _).alloc (Nat.le_refl _) _⟩
  cases h1 : (op == 2)
  case true =>
    have hv : Hid (W.shp op = ⟨127, true, false, false, false, false, 85, 0, 0⟩) := by
      have : W.shp op = ⟨127, true, false, false, false, false, 85, 0, 0⟩ := by simp only [W.shp, h0, h1, cond_true, cond_false]
      exact this
    go_enter Tryz.func47, Tryz.ntmps47
    go_wp2_with (go_at_call 78; refine (fr_any _ _ _ _).mono ?_; rintro e w' ⟨rfl, rfl⟩)
    exact bodyPost_ret (v := shV ⟨127, true, false, false, false, false, 85, 0, 0⟩) (by simp [results, Tryz.results47, go_sem]; rfl) rfl ⟨by rw [hv.out], (Below.refl _ _).alloc (Nat.le_refl _) _⟩
  cases h2 : (op == 3)
  case true =>
    have hv : Hid (W.shp op = ⟨127, true, false, false, false, false, 74, 0, 0⟩) := by
      have : W.shp op = ⟨127, true, false, false, false, false, 74, 0, 0⟩ := by simp only [W.shp, h0, h1, h2, cond_true, cond_false]
      exact this
    go_enter Tryz.func47, Tryz.ntmps47
    go_wp2_with (go_at_call 78; refine (fr_any _ _ _ _).mono ?_; rintro e w' ⟨rfl, rfl⟩)
    exact bodyPost_ret (v := shV ⟨127, true, false, false, false, false, 74, 0, 0⟩) (by simp [results, Tryz.results47, go_sem]; rfl) rfl ⟨by rw [hv.out], (Below.refl _ _).alloc (Nat.le_refl _) _⟩
  cases h3 : (op == 4)
  case true =>
    have hv : Hid (W.shp op = ⟨28799, true, true, false, false, false, 73, 0, 0⟩) := by
      have : W.shp op = ⟨28799, true, true, false, false, false, 73, 0, 0⟩ := by simp only [W.shp, h0, h1, h2, h3, cond_true, cond_false]
      exact this
    go_enter Tryz.func47, Tryz.ntmps47
    go_wp2_with (go_at_call 78; refine (fr_any _ _ _ _).mono ?_; rintro e w' ⟨rfl, rfl⟩)
    exact bodyPost_ret (v := shV ⟨28799, true, true, false, false, false, 73, 0, 0⟩) (by simp [results, Tryz.results47, go_sem]; rfl) rfl ⟨by rw [hv.out], (Below.refl _ _).alloc (Nat.le_refl _) _⟩
  cases h4 : (W.fr 11 op 15)
  case true =>
    have hv : Hid (W.shp op = ⟨28799, true, true, false, false, false, 73, 0, 0⟩) := by
      have : W.shp op = ⟨28799, true, true, false, false, false, 73, 0, 0⟩ := by simp only [W.shp, h0, h1, h2, h3, h4, cond_true, cond_false]
      exact this
    go_enter Tryz.func47, Tryz.ntmps47
    go_wp2_with (go_at_call 78; refine (fr_any _ _ _ _).mono ?_; rintro e w' ⟨rfl, rfl⟩)
    exact bodyPost_ret (v := shV ⟨28799, true, true, false, false, false, 73, 0, 0⟩) (by simp [results, Tryz.results47, go_sem]; rfl) rfl ⟨by rw [hv.out], (Below.refl _ _).alloc (Nat.le_refl _) _⟩
  cases h5 : (W.fr 19 op 24)
  case true =>
    have hv : Hid (W.shp op = ⟨28799, true, true, false, false, false, 73, 0, 0⟩) := by
      have : W.shp op = ⟨28799, true, true, false, false, false, 73, 0, 0⟩ := by simp only [W.shp, h0, h1, h2, h3, h4, h5, cond_true, cond_false]
      exact this
    go_enter Tryz.func47, Tryz.ntmps47
    go_wp2_with (go_at_call 78; refine (fr_any _ _ _ _).mono ?_; rintro e w' ⟨rfl, rfl⟩)
    exact bodyPost_ret (v := shV ⟨28799, true, true, false, false, false, 73, 0, 0⟩) (by simp [results, Tryz.results47, go_sem]; rfl) rfl ⟨by rw [hv.out], (Below.refl _ _).alloc (Nat.le_refl _) _⟩
  cases h6 : (W.fr 5 op 10)
  case true =>
    have hv : Hid (W.shp op = ⟨28799, false, true, true, false, false, 66, 0, 0⟩) := by
      have : W.shp op = ⟨28799, false, true, true, false, false, 66, 0, 0⟩ := by simp only [W.shp, h0, h1, h2, h3, h4, h5, h6, cond_true, cond_false]
      exact this
    go_enter Tryz.func47, Tryz.ntmps47
    go_wp2_with (go_at_call 78; refine (fr_any _ _ _ _).mono ?_; rintro e w' ⟨rfl, rfl⟩)
    exact bodyPost_ret (v := shV ⟨28799, false, true, true, false, false, 66, 0, 0⟩) (by simp [results, Tryz.results47, go_sem]; rfl) rfl ⟨by rw [hv.out], (Below.refl _ _).alloc (Nat.le_refl _) _⟩
  cases h7 : (W.fr 16 op 18)
  case true =>
    have hv : Hid (W.shp op = ⟨28799, false, true, true, false, false, 83, 0, 0⟩) := by
      have : W.shp op = ⟨28799, false, true, true, false, false, 83, 0, 0⟩ := by simp only [W.shp, h0, h1, h2, h3, h4, h5, h6, h7, cond_true, cond_false]
      exact this
    go_enter Tryz.func47, Tryz.ntmps47
    go_wp2_with (go_at_call 78; refine (fr_any _ _ _ _).mono ?_; rintro e w' ⟨rfl, rfl⟩)
    exact bodyPost_ret (v := shV ⟨28799, false, true, true, false, false, 83, 0, 0⟩) (by simp [results, Tryz.results47, go_sem]; rfl) rfl ⟨by rw [hv.out], (Below.refl _ _).alloc (Nat.le_refl _) _⟩
  cases h8 : (W.fr 25 op 27)
  case true =>
    have hv : Hid (W.shp op = ⟨4261441663, true, true, false, false, false, 0, 20, 5⟩) := by
      have : W.shp op = ⟨4261441663, true, true, false, false, false, 0, 20, 5⟩ := by simp only [W.shp, h0, h1, h2, h3, h4, h5, h6, h7, h8, cond_true, cond_false]
      exact this
    go_enter Tryz.func47, Tryz.ntmps47
    go_wp2_with (go_at_call 78; refine (fr_any _ _ _ _).mono ?_; rintro e w' ⟨rfl, rfl⟩)
    exact bodyPost_ret (v := shV ⟨4261441663, true, true, false, false, false, 0, 20, 5⟩) (by simp [results, Tryz.results47, go_sem]; rfl) rfl ⟨by rw [hv.out], (Below.refl _ _).alloc (Nat.le_refl _) _⟩
  cases h9 : (W.fr 28 op 37)
  case true =>
    have hv : Hid (W.shp op = ⟨4261441663, true, true, true, false, false, 0, 0, 0⟩) := by
      have : W.shp op = ⟨4261441663, true, true, true, false, false, 0, 0, 0⟩ := by simp only [W.shp, h0, h1, h2, h3, h4, h5, h6, h7, h8, h9, cond_true, cond_false]
      exact this
    go_enter Tryz.func47, Tryz.ntmps47
    go_wp2_with (go_at_call 78; refine (fr_any _ _ _ _).mono ?_; rintro e w' ⟨rfl, rfl⟩)
    exact bodyPost_ret (v := shV ⟨4261441663, true, true, true, false, false, 0, 0, 0⟩) (by simp [results, Tryz.results47, go_sem]; rfl) rfl ⟨by rw [hv.out], (Below.refl _ _).alloc (Nat.le_refl _) _⟩
  cases h10 : (W.fr 51 op 58)
  case true =>
    have hv : Hid (W.shp op = ⟨4261441663, true, true, true, false, false, 0, 0, 0⟩) := by
      have : W.shp op = ⟨4261441663, true, true, true, false, false, 0, 0, 0⟩ := by simp only [W.shp, h0, h1, h2, h3, h4, h5, h6, h7, h8, h9, h10, cond_true, cond_false]
      exact this
    go_enter Tryz.func47, Tryz.ntmps47
    go_wp2_with (go_at_call 78; refine (fr_any _ _ _ _).mono ?_; rintro e w' ⟨rfl, rfl⟩)
    exact bodyPost_ret (v := shV ⟨4261441663, true, true, true, false, false, 0, 0, 0⟩) (by simp [results, Tryz.results47, go_sem]; rfl) rfl ⟨by rw [hv.out], (Below.refl _ _).alloc (Nat.le_refl _) _⟩
  cases h11 : (op == 38)
  case true =>
    have hv : Hid (W.shp op = ⟨4027580415, false, false, false, false, false, 0, 20, 8⟩) := by
      have : W.shp op = ⟨4027580415, false, false, false, false, false, 0, 20, 8⟩ := by simp only [W.shp, h0, h1, h2, h3, h4, h5, h6, h7, h8, h9, h10, h11, cond_true, cond_false]
      exact this
    go_enter Tryz.func47, Tryz.ntmps47
    go_wp2_with (go_at_call 78; refine (fr_any _ _ _ _).mono ?_; rintro e w' ⟨rfl, rfl⟩)
    exact bodyPost_ret (v := shV ⟨4027580415, false, false, false, false, false, 0, 20, 8⟩) (by simp [results, Tryz.results47, go_sem]; rfl) rfl ⟨by rw [hv.out], (Below.refl _ _).alloc (Nat.le_refl _) _⟩
  cases h12 : (W.fr 39 op 43)
  case true =>
    have hv : Hid (W.shp op = ⟨4294967295, false, false, false, false, false, 0, 0, 0⟩) := by
      have : W.shp op = ⟨4294967295, false, false, false, false, false, 0, 0, 0⟩ := by simp only [W.shp, h0, h1, h2, h3, h4, h5, h6, h7, h8, h9, h10, h11, h12, cond_true, cond_false]
      exact this
    go_enter Tryz.func47, Tryz.ntmps47
    go_wp2_with (go_at_call 78; refine (fr_any _ _ _ _).mono ?_; rintro e w' ⟨rfl, rfl⟩)
    exact bodyPost_ret (v := shV ⟨4294967295, false, false, false, false, false, 0, 0, 0⟩) (by simp [results, Tryz.results47, go_sem]; rfl) rfl ⟨by rw [hv.out], (Below.refl _ _).alloc (Nat.le_refl _) _⟩
  cases h13 : (op == 44)
  case true =>
    have hv : Hid (W.shp op = ⟨4261445631, false, true, true, false, false, 0, 0, 0⟩) := by
      have : W.shp op = ⟨4261445631, false, true, true, false, false, 0, 0, 0⟩ := by simp only [W.shp, h0, h1, h2, h3, h4, h5, h6, h7, h8, h9, h10, h11, h12, h13, cond_true, cond_false]
      exact this
    go_enter Tryz.func47, Tryz.ntmps47
    go_wp2_with (go_at_call 78; refine (fr_any _ _ _ _).mono ?_; rintro e w' ⟨rfl, rfl⟩)
    exact bodyPost_ret (v := shV ⟨4261445631, false, true, true, false, false, 0, 0, 0⟩) (by simp [results, Tryz.results47, go_sem]; rfl) rfl ⟨by rw [hv.out], (Below.refl _ _).alloc (Nat.le_refl _) _⟩
  cases h14 : (W.fr 45 op 47)
  case true =>
    have hv : Hid (W.shp op = ⟨28799, true, true, false, true, false, 0, 0, 0⟩) := by
      have : W.shp op = ⟨28799, true, true, false, true, false, 0, 0, 0⟩ := by simp only [W.shp, h0, h1, h2, h3, h4, h5, h6, h7, h8, h9, h10, h11, h12, h13, h14, cond_true, cond_false]
      exact this
    go_enter Tryz.func47, Tryz.ntmps47
    go_wp2_with (go_at_call 78; refine (fr_any _ _ _ _).mono ?_; rintro e w' ⟨rfl, rfl⟩)
    exact bodyPost_ret (v := shV ⟨28799, true, true, false, true, false, 0, 0, 0⟩) (by simp [results, Tryz.results47, go_sem]; rfl) rfl ⟨by rw [hv.out], (Below.refl _ _).alloc (Nat.le_refl _) _⟩
  cases h15 : (W.fr 48 op 50)
  case true =>
    have hv : Hid (W.shp op = ⟨28799, true, false, false, true, false, 0, 15, 5⟩) := by
      have : W.shp op = ⟨28799, true, false, false, true, false, 0, 15, 5⟩ := by simp only [W.shp, h0, h1, h2, h3, h4, h5, h6, h7, h8, h9, h10, h11, h12, h13, h14, h15, cond_true, cond_false]
      exact this
    go_enter Tryz.func47, Tryz.ntmps47
    go_wp2_with (go_at_call 78; refine (fr_any _ _ _ _).mono ?_; rintro e w' ⟨rfl, rfl⟩)
    exact bodyPost_ret (v := shV ⟨28799, true, false, false, true, false, 0, 15, 5⟩) (by simp [results, Tryz.results47, go_sem]; rfl) rfl ⟨by rw [hv.out], (Below.refl _ _).alloc (Nat.le_refl _) _⟩
  cases h16 : (op == 59)
  case true =>
    have hv : Hid (W.shp op = ⟨4193284223, true, true, false, false, true, 0, 0, 0⟩) := by
      have : W.shp op = ⟨4193284223, true, true, false, false, true, 0, 0, 0⟩ := by simp only [W.shp, h0, h1, h2, h3, h4, h5, h6, h7, h8, h9, h10, h11, h12, h13, h14, h15, h16, cond_true, cond_false]
      exact this
    go_enter Tryz.func47, Tryz.ntmps47
    go_wp2_with (go_at_call 78; refine (fr_any _ _ _ _).mono ?_; rintro e w' ⟨rfl, rfl⟩)
    exact bodyPost_ret (v := shV ⟨4193284223, true, true, false, false, true, 0, 0, 0⟩) (by simp [results, Tryz.results47, go_sem]; rfl) rfl ⟨by rw [hv.out], (Below.refl _ _).alloc (Nat.le_refl _) _⟩
  cases h17 : (W.fr 60 op 69)
  case true =>
    have hv : Hid (W.shp op = ⟨4160778367, true, true, true, false, true, 0, 0, 0⟩) := by
      have : W.shp op = ⟨4160778367, true, true, true, false, true, 0, 0, 0⟩ := by simp only [W.shp, h0, h1, h2, h3, h4, h5, h6, h7, h8, h9, h10, h11, h12, h13, h14, h15, h16, h17, cond_true, cond_false]
      exact this
    go_enter Tryz.func47, Tryz.ntmps47
    go_wp2_with (go_at_call 78; refine (fr_any _ _ _ _).mono ?_; rintro e w' ⟨rfl, rfl⟩)
    exact bodyPost_ret (v := shV ⟨4160778367, true, true, true, false, true, 0, 0, 0⟩) (by simp [results, Tryz.results47, go_sem]; rfl) rfl ⟨by rw [hv.out], (Below.refl _ _).alloc (Nat.le_refl _) _⟩
  have hv : Hid (W.shp op = ⟨0, false, false, false, false, false, 0, 0, 0⟩) := by
    have : W.shp op = ⟨0, false, false, false, false, false, 0, 0, 0⟩ := by simp only [W.shp, h0, h1, h2, h3, h4, h5, h6, h7, h8, h9, h10, h11, h12, h13, h14, h15, h16, h17, cond_true, cond_false]
    exact this
  go_enter Tryz.func47, Tryz.ntmps47
  go_wp2_with (go_at_call 78; refine (fr_any _ _ _ _).mono ?_; rintro e w' ⟨rfl, rfl⟩)
  exact bodyPost_ret (v := shV ⟨0, false, false, false, false, false, 0, 0, 0⟩) (by simp [results, Tryz.results47, go_sem]; rfl) rfl ⟨by rw [hv.out], (Below.refl _ _).alloc (Nat.le_refl _) _⟩

end Go.Proofs.YtbndaiombnikfaaGreatDoor

/- What only, inRange and codes return. -/
namespace Go.Proofs.YtbndaiombnikfaaGreatDoor
open Go.ChangeShapes Go.WideShapes Go.ChangeAt Go.RowKit
set_option linter.unusedVariables false
set_option linter.unusedSimpArgs false

theorem inRange_any (i : W.I) (w : World) :
    Calls Tryz.prog 49 #[inV i] w fun e w' => e = .returned (.bool (W.inRange i)) ∧ Below w.heap.size w w' := by
  unfold inV
  have hb : Below w.heap.size w w := Below.refl _ _
  cases h1 : W.fr 0 i.rd 31
  case' true => cases h2 : W.fr 0 i.rs1 31
  case' true.true => cases h3 : W.fr 0 i.rs2 31
  case' true.true.true => cases h4 : W.fr 0 i.csr 4095
  all_goals
    go_enter Tryz.func49, Tryz.ntmps49
    go_wp2_with (go_at_call 78; refine (fr_any _ _ _ _).mono ?_; rintro e w' ⟨rfl, rfl⟩)
    go_ret
    exact ⟨ret_bool' (by simp only [W.inRange, *, Bool.and_true, Bool.and_false, Bool.true_and, Bool.false_and]), hb.alloc hb.size _⟩

def codesA : Array Value := (W.codes.map fun z => Value.int .u32 z).toArray

/-- A table laid in a result's block. -/
theorem table_out {P : Program} {t : TypeId} {parts : Array (Nat × Operand)} {cells : Array Value} {w : World} {old : Array Value} {ops : Array Oper} {Q : Exit → Act → World → Prop} {o1 o2 : Oper}
    (h1 : o1.op = .build t parts) (g1 : o1.guard = none) (d1 : o1.dst = some 1) (h2 : o2.op = .store t (.tmp 0) (.tmp 1)) (g2 : o2.guard = none) (d2 : o2.dst = none)
    (hb : ∀ a : Act, P.built t (parts.map fun (i, x) => (i, a.eval x)).toList = some cells) (hi : (P.info? t).map (·.size) = some cells.size) (ho : old.size = cells.size) (h3 : cells.all (·.oneCell') = true)
    (hQ : Q .normal { tmps := #[.pointer (some ⟨w.heap.size, 0, none⟩), .agg cells], defers := [] } (w.alloc (.cells cells t))) :
    wpList P ops Q [o1, o2] { tmps := #[.pointer (some ⟨w.heap.size, 0, none⟩), undef], defers := [] } (w.alloc (.cells old t)) := by
  refine wpList_plain g1 fun K hK => wp_build t parts h1 (by rw [hb]; rfl) (hK _ _ ?_)
  rw [hb]
  refine wpList_plain g2 fun K2 hK2 => wp_store_row t (.tmp 0) (.tmp 1) h2 w.heap.size cells (by rw [d1]; rfl) (by rw [d1]; rfl) t old (heap_alloc_last w _) hi ho h3 (hK2 _ _ ?_)
  rw [d1, d2, World.setRow_alloc_new]
  exact hQ

set_option maxRecDepth 100000 in
theorem codes_any (w : World) : Calls Tryz.prog 51 #[] w fun e w' => e = .returned (.agg codesA) ∧ Below w.heap.size w w' := by
  go_enter Tryz.func51, Tryz.ntmps51
  generalize hops : (#[{ dst := some 1, op := Op.build _ _, type := _, pos := "tables.go:7", after := #[], guard := none }, _] : Array Oper) = ops
  go_wp2
  subst hops
  refine table_out rfl rfl rfl rfl rfl rfl (cells := codesA) (fun a => by kernel_rfl) (by kernel_rfl) (by kernel_rfl) (by kernel_rfl) ?_
  have hn : codesA.size = 70 := by kernel_rfl
  generalize hcs : codesA = cs at hn ⊢
  go_wp2
  refine bodyPost_ret (v := .agg cs) ?_ rfl ⟨by rw [hcs], (Below.refl _ _).alloc (Nat.le_refl _) _⟩
  simp [results, Tryz.results51, asAddr, run_loadVar_new w 91 cs 70 22 Tryz.underlying91 (by rw [hn]; kernel_rfl)]

theorem hasImm_ex (fixed fmt low size : Int) (rd rs1 rs2 csr ord : Bool) (w : World) :
    Calls Tryz.prog 79 #[.agg #[.int .u32 fixed, .bool rd, .bool rs1, .bool rs2, .bool csr, .bool ord, .int .u8 fmt, .int .i64 low, .int .i64 size]] w fun e w' => e = .returned (.bool (W.hasI fmt size)) ∧
      w' = w.alloc (.cells #[.int .u32 fixed, .bool rd, .bool rs1, .bool rs2, .bool csr, .bool ord, .int .u8 fmt, .int .i64 low, .int .i64 size] 86) := by
  cases h1 : (fmt != 0)
  · have hr : Hid (W.hasI fmt size = decide (0 < size)) := by
      have : W.hasI fmt size = decide (0 < size) := by simp [W.hasI, h1]
      exact this
    go_enter Tryz.func79, Tryz.ntmps79
    go_wp2
    go_ret
    exact ⟨ret_bool' hr.out.symm, rfl⟩
  · have hr : Hid (W.hasI fmt size = true) := by
      have : W.hasI fmt size = true := by simp [W.hasI, h1]
      exact this
    go_enter Tryz.func79, Tryz.ntmps79
    go_wp2
    go_ret
    exact ⟨ret_bool' hr.out.symm, rfl⟩

end Go.Proofs.YtbndaiombnikfaaGreatDoor
