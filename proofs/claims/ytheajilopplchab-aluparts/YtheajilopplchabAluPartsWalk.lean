/- AluParts, walked: it returns true, whatever the word. -/
import Derived.Test.YtheajilopplchabFirst4
import Derived.Test.YtheajilopplchabAluT
namespace Go.Proofs.Ytheajilopplchab
open Go.ChangeShapes Go.WideShapes Go.ChangeAt Go.RowKit
set_option linter.unusedVariables false
set_option linter.unusedSimpArgs false

theorem bits8 (v : Int) (v0 : 0 ≤ v) (v1 : v < 4294967296) : W.bitsOf v 0 8 = v % 256 := by
  rw [W.bitsOf_eq v 0 8 v0 v1 (by decide) (by decide) (by decide)]; simp
theorem bits16 (v : Int) (v0 : 0 ≤ v) (v1 : v < 4294967296) : W.bitsOf v 0 16 = v % 65536 := by
  rw [W.bitsOf_eq v 0 16 v0 v1 (by decide) (by decide) (by decide)]; simp
theorem bits32 (v : Int) (v0 : 0 ≤ v) (v1 : v < 4294967296) : W.bitsOf v 0 32 = v := by
  rw [W.bitsOf_eq v 0 32 v0 v1 (by decide) (by decide) (by decide)]; simp; omega
theorem and8 (v : Int) (v0 : 0 ≤ v) (v1 : v < 4294967296) : bits .and .u32 v 255 = v % 256 := W.low_and v 8 (by decide) v0 v1
theorem and16' (v : Int) (v0 : 0 ≤ v) (v1 : v < 4294967296) : bits .and .u32 v 65535 = v % 65536 := W.low_and v 16 (by decide) v0 v1
theorem sgn8 (v : Int) (v0 : 0 ≤ v) (v1 : v < 4294967296) : W.sgn v 8 = ((v + 128) % 256 - 128) % 4294967296 := by
  rw [W.sgn_sx v 8 v0 v1 (by decide) (by decide), W.sx]; rfl
theorem sgn16 (v : Int) (v0 : 0 ≤ v) (v1 : v < 4294967296) : W.sgn v 16 = ((v + 32768) % 65536 - 32768) % 4294967296 := by
  rw [W.sgn_sx v 16 v0 v1 (by decide) (by decide), W.sx]; rfl

set_option maxRecDepth 100000 in
set_option maxHeartbeats 3200000 in
theorem aluparts_go (v B H sB sH : Int) (w : World) (b0 : 0 ≤ B) (b1 : B < 256) (h0 : 0 ≤ H) (h1 : H < 65536) (c1 : Hid (W.bitsOf v 0 8 = B)) (c2 : Hid (W.bitsOf v 0 16 = H)) (c3 : Hid (W.bitsOf v 0 32 = v)) (d1 : bits .and .u32 v 255 = B) (d2 : bits .and .u32 v 65535 = H)
    (e1 : Hid (W.bitsOf B 0 8 = B)) (e2 : Hid (W.bitsOf H 0 16 = H)) (f1 : Hid (W.sgn B 8 = sB)) (f2 : Hid (W.sgn H 16 = sH)) (g1 : bits .and .u32 sB 255 = B) (g2 : bits .and .u32 sH 65535 = H)
    (i1 : (sB == B) = decide (B < 128)) (i2 : (sH == H) = decide (H < 32768)) :
    Calls Try.prog 6 #[.int .u32 v] w fun e w' => e = .returned (.bool true) ∧ Below w.heap.size w w' := by
  have hb : Below w.heap.size w w := Below.refl _ _
  generalize hx : decide (B < 128) = x at i1
  generalize hy : decide (H < 32768) = y at i2
  clear b0 b1 h0 h1
  cases x <;> cases y
  all_goals
    go_enter Try.func6, Try.ntmps6
    go_wp2_with (first
      | (go_at_call 9; refine (from_ (first4_any _) hb).mono ?_; clear hb; rintro e w1 ⟨rfl, hb⟩)
      | (go_at_call_of 20 (Value.int IntKind.i64 16); refine (from_ (cut_16 v _) hb).mono ?_; clear hb; rintro e w2 ⟨rfl, hb⟩; rw [c1.out])
      | (go_at_call_of 20 (Value.int IntKind.i64 17); refine (from_ (cut_17 v _) hb).mono ?_; clear hb; rintro e w3 ⟨rfl, hb⟩; rw [c2.out])
      | (go_at_call_of 20 (Value.int IntKind.i64 18); refine (from_ (cut_18 v _) hb).mono ?_; clear hb; rintro e w4 ⟨rfl, hb⟩; rw [c3.out])
      | (go_at_call_of 20 (Value.int IntKind.i64 13); refine (from_ (cut_13 v _) hb).mono ?_; clear hb; rintro e w5 ⟨rfl, hb⟩)
      | (go_at_call_of 20 (Value.int IntKind.i64 60); refine (from_ (cut_60 v _) hb).mono ?_; clear hb; rintro e w6 ⟨rfl, hb⟩; rw [c3.out])
      | (go_at_call_of 18 (Value.int IntKind.i64 14); refine (from_ (ext_14 B _) hb).mono ?_; clear hb; rintro e w7 ⟨rfl, hb⟩; rw [e1.out])
      | (go_at_call_of 18 (Value.int IntKind.i64 15); refine (from_ (ext_15 H _) hb).mono ?_; clear hb; rintro e w8 ⟨rfl, hb⟩; rw [e2.out])
      | (go_at_call_of 18 (Value.int IntKind.i64 13); refine (from_ (ext_13 v _) hb).mono ?_; clear hb; rintro e w9 ⟨rfl, hb⟩; rw [c3.out])
      | (go_at_call_of 18 (Value.int IntKind.i64 11); refine (from_ (ext_11 B _) hb).mono ?_; clear hb; rintro e w10 ⟨rfl, hb⟩; rw [f1.out])
      | (go_at_call_of 18 (Value.int IntKind.i64 12); refine (from_ (ext_12 H _) hb).mono ?_; clear hb; rintro e w11 ⟨rfl, hb⟩; rw [f2.out])
      | (go_at_call_of 18 (Value.int IntKind.i64 59); refine (from_ (ext_59 v _) hb).mono ?_; clear hb; rintro e w12 ⟨rfl, hb⟩; rw [c3.out])
      | (go_at_call_of 18 (Value.int IntKind.i64 60); refine (from_ (ext_60 v _) hb).mono ?_; clear hb; rintro e w13 ⟨rfl, hb⟩))
    go_ret
    exact ⟨rfl, hb⟩

theorem aluparts_walk (v : Int) (v0 : 0 ≤ v) (v1 : v < 4294967296) (w : World) :
    Calls Try.prog 6 #[.int .u32 v] w fun e w' => e = .returned (.bool true) ∧ Below w.heap.size w w' := by
  have B0 : 0 ≤ v % 256 := by omega
  have B1 : v % 256 < 4294967296 := by omega
  have H0 : 0 ≤ v % 65536 := by omega
  have H1 : v % 65536 < 4294967296 := by omega
  have i1 : (((v % 256 + 128) % 256 - 128) % 4294967296 == v % 256) = decide (v % 256 < 128) := by rw [Bool.eq_iff_iff]; simp only [beq_iff_eq, decide_eq_true_eq]; omega
  have i2 : (((v % 65536 + 32768) % 65536 - 32768) % 4294967296 == v % 65536) = decide (v % 65536 < 32768) := by rw [Bool.eq_iff_iff]; simp only [beq_iff_eq, decide_eq_true_eq]; omega
  exact aluparts_go v (v % 256) (v % 65536) (((v % 256 + 128) % 256 - 128) % 4294967296) (((v % 65536 + 32768) % 65536 - 32768) % 4294967296) w (by omega) (by omega) (by omega) (by omega) (bits8 v v0 v1) (bits16 v v0 v1) (bits32 v v0 v1) (and8 v v0 v1) (and16' v v0 v1)
    ((bits8 _ B0 B1).trans (by omega)) ((bits16 _ H0 H1).trans (by omega)) (sgn8 _ B0 B1) (sgn16 _ H0 H1) ((and8 _ (by omega) (by omega)).trans (by omega)) ((and16' _ (by omega) (by omega)).trans (by omega)) i1 i2

end Go.Proofs.Ytheajilopplchab
