/- What layImm returns: the word of an immediate alone. -/
import Derived.Test.YthbcdlaejefkaaaDoorIsaC
namespace Go.Proofs.YthbcdlaejefkaaaDoor
open Go.ChangeShapes Go.WideShapes Go.ChangeAt Go.RowKit
set_option linter.unusedVariables false
set_option linter.unusedSimpArgs false

set_option maxHeartbeats 3200000 in
theorem layImm_any (s : W.Sh) (v : Int) (w : World) :
    Calls Tryd.prog 31 #[shV s, .int .u32 v] w fun e w' => e = .returned (.tuple #[.int .u32 (W.layIV s v), .bool (W.layIB s v)]) ∧ Below w.heap.size w w' := by
  have hb : Below w.heap.size w w := Below.refl _ _
  obtain ⟨fixed, rd, rs1, rs2, csr, ord, fmt, low, size⟩ := s
  unfold shV
  cases h5 : W.hasI fmt size
  · have hr : Hid (W.layIV ⟨fixed, rd, rs1, rs2, csr, ord, fmt, low, size⟩ v = 0 ∧ W.layIB ⟨fixed, rd, rs1, rs2, csr, ord, fmt, low, size⟩ v = true) := by
      have : W.layIV ⟨fixed, rd, rs1, rs2, csr, ord, fmt, low, size⟩ v = 0 ∧ W.layIB ⟨fixed, rd, rs1, rs2, csr, ord, fmt, low, size⟩ v = true := by simp [W.layIV, W.layIB, W.hasImm, h5]
      exact this
    go_enter Tryd.func31, Tryd.ntmps31
    go_wp2_with (go_at_call 39; refine (hasImm_ex _ _ _ _ _ _ _ _ _ _).mono ?_; rintro e w' ⟨rfl, rfl⟩)
    exact bodyPost_ret (v := .tuple #[.int .u32 0, .bool true]) (by simp [results, Tryd.results31, go_sem]) rfl ⟨by rw [hr.out.1, hr.out.2], (hb.alloc hb.size _).alloc (by simp) _⟩
  · cases h6 : decide (0 < size)
    · have hr : Hid (W.layIV ⟨fixed, rd, rs1, rs2, csr, ord, fmt, low, size⟩ v = W.layV fmt v ∧ W.layIB ⟨fixed, rd, rs1, rs2, csr, ord, fmt, low, size⟩ v = W.layB fmt v) := by
        have : W.layIV ⟨fixed, rd, rs1, rs2, csr, ord, fmt, low, size⟩ v = W.layV fmt v ∧ W.layIB ⟨fixed, rd, rs1, rs2, csr, ord, fmt, low, size⟩ v = W.layB fmt v := by simp [W.layIV, W.layIB, W.hasImm, h5, h6]
        exact this
      go_enter Tryd.func31, Tryd.ntmps31
      go_wp2_with (first
        | (go_at_call 39; refine (hasImm_ex _ _ _ _ _ _ _ _ _ _).mono ?_; rintro e w' ⟨rfl, rfl⟩)
        | (go_at_call 50; refine (from_ (lay_any _ _ _) ((hb.alloc hb.size _).alloc (by simp) _)).mono ?_; clear hb; rintro e w' ⟨rfl, hb⟩))
      exact bodyPost_ret (v := .tuple #[.int .u32 (W.layV fmt v), .bool (W.layB fmt v)]) (by simp [results, Tryd.results31, go_sem]) rfl ⟨by rw [hr.out.1, hr.out.2], hb⟩
    · have hr : Hid (W.layIV ⟨fixed, rd, rs1, rs2, csr, ord, fmt, low, size⟩ v = W.lone v low size ∧ W.layIB ⟨fixed, rd, rs1, rs2, csr, ord, fmt, low, size⟩ v = (W.immS ⟨fixed, rd, rs1, rs2, csr, ord, fmt, low, size⟩ (W.lone v low size) == v)) := by
        have : W.layIV ⟨fixed, rd, rs1, rs2, csr, ord, fmt, low, size⟩ v = W.lone v low size ∧ W.layIB ⟨fixed, rd, rs1, rs2, csr, ord, fmt, low, size⟩ v = (W.immS ⟨fixed, rd, rs1, rs2, csr, ord, fmt, low, size⟩ (W.lone v low size) == v) := by simp [W.layIV, W.layIB, W.hasImm, h5, h6]
        exact this
      go_enter Tryd.func31, Tryd.ntmps31
      go_wp2_with (first
        | (go_at_call 39; refine (hasImm_ex _ _ _ _ _ _ _ _ _ _).mono ?_; rintro e w' ⟨rfl, rfl⟩))
      refine (pack_any (w.heap.size + 2) 0 1 1 (fun _ => low) (fun _ => size) (fun _ => v) _ (by decide) (by simp) ?_ ?_ ?_).mono ?_
      · intro j hj; obtain rfl : j = 0 := by omega
        simp [go_sem]
      · intro j hj; obtain rfl : j = 0 := by omega
        simp [go_sem]
      · intro j hj; obtain rfl : j = 0 := by omega
        simp [go_sem]
      rintro e w2 ⟨rfl, hb2⟩
      have c0 := hb2.cell (p := ⟨w.heap.size, 0, none⟩) (by simp; omega)
      simp [go_sem] at c0
      have c1 := hb2.cell (p := ⟨w.heap.size, 1, none⟩) (by simp; omega)
      simp [go_sem] at c1
      have c2 := hb2.cell (p := ⟨w.heap.size, 2, none⟩) (by simp; omega)
      simp [go_sem] at c2
      have c3 := hb2.cell (p := ⟨w.heap.size, 3, none⟩) (by simp; omega)
      simp [go_sem] at c3
      have c4 := hb2.cell (p := ⟨w.heap.size, 4, none⟩) (by simp; omega)
      simp [go_sem] at c4
      have c5 := hb2.cell (p := ⟨w.heap.size, 5, none⟩) (by simp; omega)
      simp [go_sem] at c5
      have c6 := hb2.cell (p := ⟨w.heap.size, 6, none⟩) (by simp; omega)
      simp [go_sem] at c6
      have c7 := hb2.cell (p := ⟨w.heap.size, 7, none⟩) (by simp; omega)
      simp [go_sem] at c7
      have c8 := hb2.cell (p := ⟨w.heap.size, 8, none⟩) (by simp; omega)
      simp [go_sem] at c8
      have hb3 : Below w.heap.size w w2 := (((hb.alloc hb.size _).alloc (by simp) _).alloc (by simp; omega) _).trans (hb2.mono (by simp; omega))
      clear hb2 hb
      have eL : Hid (W.lone v low size = W.pack (fun _ => low) (fun _ => size) (fun _ => v) 1) := rfl
      go_wp2_with (go_at_call 47; refine (from_ (immS_any ⟨fixed, rd, rs1, rs2, csr, ord, fmt, low, size⟩ _ _) hb3).mono ?_; clear hb3; rintro e w3 ⟨rfl, hb3⟩)
      exact bodyPost_ret (v := .tuple #[.int .u32 (W.lone v low size), .bool (W.immS ⟨fixed, rd, rs1, rs2, csr, ord, fmt, low, size⟩ (W.lone v low size) == v)]) (by simp [results, Tryd.results31, go_sem, eL.out]) rfl ⟨by rw [hr.out.1, hr.out.2], hb3⟩

end Go.Proofs.YthbcdlaejefkaaaDoor
