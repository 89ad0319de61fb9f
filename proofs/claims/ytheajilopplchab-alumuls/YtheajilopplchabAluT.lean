/- The document's Kind, Size, Extend and Cut of what has nothing to do with memory, and of whatever there is. -/
import Derived.Test.YtheajilopplchabAluS
import Derived.Test.YtheajilopplchabRKind
namespace Go.Proofs.Ytheajilopplchab
open Go.ChangeShapes Go.WideShapes Go.ChangeAt Go.RowKit
set_option linter.unusedVariables false
set_option linter.unusedSimpArgs false

theorem rext_any (op v : Int) (v0 : 0 ≤ v) (v1 : v < 4294967296) (w : World) : Calls Try.prog 19 #[.int .i64 op, .int .u32 v] w fun e w' => e = .returned (.int .u32 (W.ext op v)) ∧ w = w' := by
  cases h : W.memB op
  · obtain ⟨h11, h12, h13, h14, h15, h16, h17, h18, h59, h60, k4, k5, k6, z0, r1, r2⟩ := W.memB_none h
    have hv : Hid (W.ext op v = 0) := (W.ext_none v h : W.ext op v = 0)
    have H : Hid (W.memB op = false) := h
    have n1 : ¬ (61 ≤ op ∧ op ≤ 69) := by simpa using r2
    clear h z0 r1 r2
    by_cases c : 61 ≤ op
    · have c' : ¬ op ≤ 69 := fun h => n1 ⟨c, h⟩
      clear n1
      go_enter Try.func19, Try.ntmps19
      go_wp2_with (go_at_call 46; refine (rkind_any op _).mono ?_; rintro e w' ⟨rfl, rfl⟩)
      go_ret
      exact ⟨ret_int hv.out.symm, rfl⟩
    · clear n1
      go_enter Try.func19, Try.ntmps19
      go_wp2_with (go_at_call 46; refine (rkind_any op _).mono ?_; rintro e w' ⟨rfl, rfl⟩)
      go_ret
      exact ⟨ret_int hv.out.symm, rfl⟩
  · rcases W.memB_cases h with rfl | rfl | rfl | rfl | rfl | rfl | rfl | rfl | rfl | rfl | rfl | rfl | rfl | rfl | rfl | rfl | rfl | rfl | rfl
    · exact rext_11 v v0 v1 w
    · exact rext_12 v v0 v1 w
    · exact rext_13 v v0 v1 w
    · exact rext_14 v v0 v1 w
    · exact rext_15 v v0 v1 w
    · exact rext_16 v v0 v1 w
    · exact rext_17 v v0 v1 w
    · exact rext_18 v v0 v1 w
    · exact rext_59 v v0 v1 w
    · exact rext_60 v v0 v1 w
    · exact rext_61 v v0 v1 w
    · exact rext_62 v v0 v1 w
    · exact rext_63 v v0 v1 w
    · exact rext_64 v v0 v1 w
    · exact rext_65 v v0 v1 w
    · exact rext_66 v v0 v1 w
    · exact rext_67 v v0 v1 w
    · exact rext_68 v v0 v1 w
    · exact rext_69 v v0 v1 w

theorem rcut_any (op v : Int) (v0 : 0 ≤ v) (v1 : v < 4294967296) (w : World) : Calls Try.prog 21 #[.int .i64 op, .int .u32 v] w fun e w' => e = .returned (.int .u32 (W.cut op v)) ∧ w = w' := by
  cases h : W.memB op
  · obtain ⟨h11, h12, h13, h14, h15, h16, h17, h18, h59, h60, k4, k5, k6, z0, r1, r2⟩ := W.memB_none h
    have hv : Hid (W.cut op v = 0) := (W.cut_none v h : W.cut op v = 0)
    have H : Hid (W.memB op = false) := h
    clear h z0 r1 r2
    go_enter Try.func21, Try.ntmps21
    go_wp2_with (go_at_call 46; refine (rkind_any op _).mono ?_; rintro e w' ⟨rfl, rfl⟩)
    go_ret
    exact ⟨ret_int hv.out.symm, rfl⟩
  · rcases W.memB_cases h with rfl | rfl | rfl | rfl | rfl | rfl | rfl | rfl | rfl | rfl | rfl | rfl | rfl | rfl | rfl | rfl | rfl | rfl | rfl
    · exact rcut_11 v v0 v1 w
    · exact rcut_12 v v0 v1 w
    · exact rcut_13 v v0 v1 w
    · exact rcut_14 v v0 v1 w
    · exact rcut_15 v v0 v1 w
    · exact rcut_16 v v0 v1 w
    · exact rcut_17 v v0 v1 w
    · exact rcut_18 v v0 v1 w
    · exact rcut_59 v v0 v1 w
    · exact rcut_60 v v0 v1 w
    · exact rcut_61 v v0 v1 w
    · exact rcut_62 v v0 v1 w
    · exact rcut_63 v v0 v1 w
    · exact rcut_64 v v0 v1 w
    · exact rcut_65 v v0 v1 w
    · exact rcut_66 v v0 v1 w
    · exact rcut_67 v v0 v1 w
    · exact rcut_68 v v0 v1 w
    · exact rcut_69 v v0 v1 w

theorem rsize_any (op : Int) (w : World) : Calls Try.prog 17 #[.int .i64 op] w fun e w' => e = .returned (.int .i64 (W.sz op)) ∧ w = w' := by
  cases h : W.memB op
  · obtain ⟨h11, h12, h13, h14, h15, h16, h17, h18, h59, h60, k4, k5, k6, z0, r1, r2⟩ := W.memB_none h
    have hv : Hid (W.sz op = 0) := z0
    have n1 : ¬ (59 ≤ op ∧ op ≤ 69) := by simpa using r1
    clear h z0 r1 r2
    by_cases c : 59 ≤ op
    · have c' : ¬ op ≤ 69 := fun h => n1 ⟨c, h⟩
      clear n1
      go_enter Try.func17, Try.ntmps17
      go_wp2
      go_ret
      exact ⟨ret_int hv.out.symm, rfl⟩
    · clear n1
      go_enter Try.func17, Try.ntmps17
      go_wp2
      go_ret
      exact ⟨ret_int hv.out.symm, rfl⟩
  · rcases W.memB_cases h with rfl | rfl | rfl | rfl | rfl | rfl | rfl | rfl | rfl | rfl | rfl | rfl | rfl | rfl | rfl | rfl | rfl | rfl | rfl
    · exact rsize_11 w
    · exact rsize_12 w
    · exact rsize_13 w
    · exact rsize_14 w
    · exact rsize_15 w
    · exact rsize_16 w
    · exact rsize_17 w
    · exact rsize_18 w
    · exact rsize_59 w
    · exact rsize_60 w
    · exact rsize_61 w
    · exact rsize_62 w
    · exact rsize_63 w
    · exact rsize_64 w
    · exact rsize_65 w
    · exact rsize_66 w
    · exact rsize_67 w
    · exact rsize_68 w
    · exact rsize_69 w

end Go.Proofs.Ytheajilopplchab
