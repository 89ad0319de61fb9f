/- PteKinds where access by 3 leaves -2. -/
import Derived.Test.YtfkbdkalaajkhaaPteD
import Derived.Test.YtfkbdkalaajkhaaPteK
namespace Go.Proofs.Ytfkbdkalaajkhaa
open Go.ChangeShapes Go.WideShapes Go.ChangeAt Go.RowKit
set_option linter.unusedVariables false
set_option linter.unusedSimpArgs false

set_option maxRecDepth 20000 in
set_option maxHeartbeats 6400000 in
theorem kinds_0_false (page a : Int) (p0 : 0 ≤ page) (p1 : page < 4294967296) (ht : a.tmod 3 = -2) (w : World) :
    Calls Try.prog 6 #[.int .u32 page, .int .i64 a, .bool false] w fun x w' => x = .returned (.bool true) ∧ Below w.heap.size w w' := by
  go_enter Try.func6, Try.ntmps6
  go_wp2_with (go_at_call 7; refine (first8_any _).mono ?_; rintro x w1 ⟨rfl, hb1⟩)
  have hb2 : Below w.heap.size w (w1.alloc (.cells #[.int .u32 8, .int .u32 2, .int .u32 4] 22)) := hb1.alloc hb1.size _
  generalize (w1.alloc (.cells #[.int .u32 8, .int .u32 2, .int .u32 4] 22)) = w2 at hb2 ⊢
  clear hb1 ht
  go_loopw [10] (fun i wr => ∃ k : Nat, k ≤ 256 ∧ i = .int .u32 (k : Int) ∧ Below w.heap.size w wr) (fun i _ => 256 - (intOf i).toNat)
  case atStart => exact ⟨0, by decide, rfl, hb2⟩
  case round =>
    clear hb2
    obtain ⟨k, hk, rfl, hbl⟩ := hrel
    by_cases hlt : k < 256
    · have e1 := W.mk_bad page k (by omega) (by omega)
      have e2 := W.mk_leaf page k (by omega) (by omega)
      have e3 := W.mk_may page k 2 3 (by omega) (by omega)
      have hl : W.leaf (k : Int) = (bits .and .u32 (k : Int) 10 != 0) := rfl
      have hbad : W.bad (k : Int) = ((bits .and .u32 (k : Int) 1 == 0) || (((bits .and .u32 (k : Int) 4 != 0) && (bits .and .u32 (k : Int) 2 == 0)) || (!(bits .and .u32 (k : Int) 10 != 0) && (bits .and .u32 (k : Int) 208 != 0)))) := rfl
      have hmay : W.may (k : Int) 2 3 = (W.leaf (k : Int) && (!(W.bad (k : Int)) && ((bits .and .u32 (k : Int) 2 != 0) && (bits .and .u32 (k : Int) 16 == 0)))) := rfl
      have hM := make_one page p0 p1 k hlt
      generalize W.mk page (k : Int) = E at *
      cases h1 : (bits .and .u32 (k : Int) 1 == 0)
      · cases h2 : (bits .and .u32 (k : Int) 4 != 0)
        · cases h5 : (bits .and .u32 (k : Int) 10 != 0)
          · have h6 : (bits .and .u32 (k : Int) 10 == 0) = true := by simpa [bne] using h5
            cases h7 : (bits .and .u32 (k : Int) 208 != 0)
            · simp only [h1, h2, h5, h7, Bool.not_true, Bool.not_false, Bool.and_true, Bool.and_false, Bool.true_and, Bool.false_and, Bool.or_true, Bool.or_false, Bool.true_or, Bool.false_or] at hbad
              rw [hbad] at e1 hmay
              rw [hl] at e2 hmay
              simp only [h1, h2, h5, h7, Bool.not_true, Bool.not_false, Bool.and_true, Bool.and_false, Bool.true_and, Bool.false_and, Bool.or_true, Bool.or_false, Bool.true_or, Bool.false_or] at hmay e2
              rw [hmay] at e3
              clear hbad hl hmay
              go_wp2_with (first
                | (go_at_call 19; refine (hM _ _ rfl).mono ?_; rintro x w3 ⟨rfl, hb3⟩)
                | (go_at_call 8; refine (bad_any _ _).mono ?_; rintro x w' ⟨rfl, rfl⟩)
                | (go_at_call 10; refine (leaf_any _ _).mono ?_; rintro x w' ⟨rfl, rfl⟩)
                | (go_at_call 13; refine (may_any _ _ _ _).mono ?_; rintro x w' ⟨rfl, rfl⟩))
              go_roundw
              case rel => exact ⟨k + 1, by omega, by go_num, hbl.trans (hb3.mono hbl.size)⟩
              case measure => simp [intOf]; omega
            · simp only [h1, h2, h5, h7, Bool.not_true, Bool.not_false, Bool.and_true, Bool.and_false, Bool.true_and, Bool.false_and, Bool.or_true, Bool.or_false, Bool.true_or, Bool.false_or] at hbad
              rw [hbad] at e1 hmay
              rw [hl] at e2 hmay
              simp only [h1, h2, h5, h7, Bool.not_true, Bool.not_false, Bool.and_true, Bool.and_false, Bool.true_and, Bool.false_and, Bool.or_true, Bool.or_false, Bool.true_or, Bool.false_or] at hmay e2
              rw [hmay] at e3
              clear hbad hl hmay
              go_wp2_with (first
                | (go_at_call 19; refine (hM _ _ rfl).mono ?_; rintro x w3 ⟨rfl, hb3⟩)
                | (go_at_call 8; refine (bad_any _ _).mono ?_; rintro x w' ⟨rfl, rfl⟩)
                | (go_at_call 10; refine (leaf_any _ _).mono ?_; rintro x w' ⟨rfl, rfl⟩)
                | (go_at_call 13; refine (may_any _ _ _ _).mono ?_; rintro x w' ⟨rfl, rfl⟩))
              go_roundw
              case rel => exact ⟨k + 1, by omega, by go_num, hbl.trans (hb3.mono hbl.size)⟩
              case measure => simp [intOf]; omega
          · have h6 : (bits .and .u32 (k : Int) 10 == 0) = false := by simpa [bne] using h5
            cases hB : (bits .and .u32 (k : Int) 2 != 0)
            · simp only [h1, h2, h5, hB, Bool.not_true, Bool.not_false, Bool.and_true, Bool.and_false, Bool.true_and, Bool.false_and, Bool.or_true, Bool.or_false, Bool.true_or, Bool.false_or] at hbad
              rw [hbad] at e1 hmay
              rw [hl] at e2 hmay
              simp only [h1, h2, h5, hB, Bool.not_true, Bool.not_false, Bool.and_true, Bool.and_false, Bool.true_and, Bool.false_and, Bool.or_true, Bool.or_false, Bool.true_or, Bool.false_or] at hmay e2
              rw [hmay] at e3
              clear hbad hl hmay
              go_wp2_with (first
                | (go_at_call 19; refine (hM _ _ rfl).mono ?_; rintro x w3 ⟨rfl, hb3⟩)
                | (go_at_call 8; refine (bad_any _ _).mono ?_; rintro x w' ⟨rfl, rfl⟩)
                | (go_at_call 10; refine (leaf_any _ _).mono ?_; rintro x w' ⟨rfl, rfl⟩)
                | (go_at_call 13; refine (may_any _ _ _ _).mono ?_; rintro x w' ⟨rfl, rfl⟩))
              go_roundw
              case rel => exact ⟨k + 1, by omega, by go_num, hbl.trans (hb3.mono hbl.size)⟩
              case measure => simp [intOf]; omega
            · cases h8 : (bits .and .u32 (k : Int) 16 != 0)
              · have h9 : (bits .and .u32 (k : Int) 16 == 0) = true := by simpa [bne] using h8
                simp only [h1, h2, h5, hB, h9, Bool.not_true, Bool.not_false, Bool.and_true, Bool.and_false, Bool.true_and, Bool.false_and, Bool.or_true, Bool.or_false, Bool.true_or, Bool.false_or] at hbad
                rw [hbad] at e1 hmay
                rw [hl] at e2 hmay
                simp only [h1, h2, h5, hB, h9, Bool.not_true, Bool.not_false, Bool.and_true, Bool.and_false, Bool.true_and, Bool.false_and, Bool.or_true, Bool.or_false, Bool.true_or, Bool.false_or] at hmay e2
                rw [hmay] at e3
                clear hbad hl hmay
                go_wp2_with (first
                  | (go_at_call 19; refine (hM _ _ rfl).mono ?_; rintro x w3 ⟨rfl, hb3⟩)
                  | (go_at_call 8; refine (bad_any _ _).mono ?_; rintro x w' ⟨rfl, rfl⟩)
                  | (go_at_call 10; refine (leaf_any _ _).mono ?_; rintro x w' ⟨rfl, rfl⟩)
                  | (go_at_call 13; refine (may_any _ _ _ _).mono ?_; rintro x w' ⟨rfl, rfl⟩))
                go_roundw
                case rel => exact ⟨k + 1, by omega, by go_num, hbl.trans (hb3.mono hbl.size)⟩
                case measure => simp [intOf]; omega
              · have h9 : (bits .and .u32 (k : Int) 16 == 0) = false := by simpa [bne] using h8
                simp only [h1, h2, h5, hB, h9, Bool.not_true, Bool.not_false, Bool.and_true, Bool.and_false, Bool.true_and, Bool.false_and, Bool.or_true, Bool.or_false, Bool.true_or, Bool.false_or] at hbad
                rw [hbad] at e1 hmay
                rw [hl] at e2 hmay
                simp only [h1, h2, h5, hB, h9, Bool.not_true, Bool.not_false, Bool.and_true, Bool.and_false, Bool.true_and, Bool.false_and, Bool.or_true, Bool.or_false, Bool.true_or, Bool.false_or] at hmay e2
                rw [hmay] at e3
                clear hbad hl hmay
                go_wp2_with (first
                  | (go_at_call 19; refine (hM _ _ rfl).mono ?_; rintro x w3 ⟨rfl, hb3⟩)
                  | (go_at_call 8; refine (bad_any _ _).mono ?_; rintro x w' ⟨rfl, rfl⟩)
                  | (go_at_call 10; refine (leaf_any _ _).mono ?_; rintro x w' ⟨rfl, rfl⟩)
                  | (go_at_call 13; refine (may_any _ _ _ _).mono ?_; rintro x w' ⟨rfl, rfl⟩))
                go_roundw
                case rel => exact ⟨k + 1, by omega, by go_num, hbl.trans (hb3.mono hbl.size)⟩
                case measure => simp [intOf]; omega
        · cases h3 : (bits .and .u32 (k : Int) 2 == 0)
          · cases h5 : (bits .and .u32 (k : Int) 10 != 0)
            · have h6 : (bits .and .u32 (k : Int) 10 == 0) = true := by simpa [bne] using h5
              cases h7 : (bits .and .u32 (k : Int) 208 != 0)
              · simp only [h1, h2, h3, h5, h7, Bool.not_true, Bool.not_false, Bool.and_true, Bool.and_false, Bool.true_and, Bool.false_and, Bool.or_true, Bool.or_false, Bool.true_or, Bool.false_or] at hbad
                rw [hbad] at e1 hmay
                rw [hl] at e2 hmay
                simp only [h1, h2, h3, h5, h7, Bool.not_true, Bool.not_false, Bool.and_true, Bool.and_false, Bool.true_and, Bool.false_and, Bool.or_true, Bool.or_false, Bool.true_or, Bool.false_or] at hmay e2
                rw [hmay] at e3
                clear hbad hl hmay
                go_wp2_with (first
                  | (go_at_call 19; refine (hM _ _ rfl).mono ?_; rintro x w3 ⟨rfl, hb3⟩)
                  | (go_at_call 8; refine (bad_any _ _).mono ?_; rintro x w' ⟨rfl, rfl⟩)
                  | (go_at_call 10; refine (leaf_any _ _).mono ?_; rintro x w' ⟨rfl, rfl⟩)
                  | (go_at_call 13; refine (may_any _ _ _ _).mono ?_; rintro x w' ⟨rfl, rfl⟩))
                go_roundw
                case rel => exact ⟨k + 1, by omega, by go_num, hbl.trans (hb3.mono hbl.size)⟩
                case measure => simp [intOf]; omega
              · simp only [h1, h2, h3, h5, h7, Bool.not_true, Bool.not_false, Bool.and_true, Bool.and_false, Bool.true_and, Bool.false_and, Bool.or_true, Bool.or_false, Bool.true_or, Bool.false_or] at hbad
                rw [hbad] at e1 hmay
                rw [hl] at e2 hmay
                simp only [h1, h2, h3, h5, h7, Bool.not_true, Bool.not_false, Bool.and_true, Bool.and_false, Bool.true_and, Bool.false_and, Bool.or_true, Bool.or_false, Bool.true_or, Bool.false_or] at hmay e2
                rw [hmay] at e3
                clear hbad hl hmay
                go_wp2_with (first
                  | (go_at_call 19; refine (hM _ _ rfl).mono ?_; rintro x w3 ⟨rfl, hb3⟩)
                  | (go_at_call 8; refine (bad_any _ _).mono ?_; rintro x w' ⟨rfl, rfl⟩)
                  | (go_at_call 10; refine (leaf_any _ _).mono ?_; rintro x w' ⟨rfl, rfl⟩)
                  | (go_at_call 13; refine (may_any _ _ _ _).mono ?_; rintro x w' ⟨rfl, rfl⟩))
                go_roundw
                case rel => exact ⟨k + 1, by omega, by go_num, hbl.trans (hb3.mono hbl.size)⟩
                case measure => simp [intOf]; omega
            · have h6 : (bits .and .u32 (k : Int) 10 == 0) = false := by simpa [bne] using h5
              cases hB : (bits .and .u32 (k : Int) 2 != 0)
              · simp only [h1, h2, h3, h5, hB, Bool.not_true, Bool.not_false, Bool.and_true, Bool.and_false, Bool.true_and, Bool.false_and, Bool.or_true, Bool.or_false, Bool.true_or, Bool.false_or] at hbad
                rw [hbad] at e1 hmay
                rw [hl] at e2 hmay
                simp only [h1, h2, h3, h5, hB, Bool.not_true, Bool.not_false, Bool.and_true, Bool.and_false, Bool.true_and, Bool.false_and, Bool.or_true, Bool.or_false, Bool.true_or, Bool.false_or] at hmay e2
                rw [hmay] at e3
                clear hbad hl hmay
                go_wp2_with (first
                  | (go_at_call 19; refine (hM _ _ rfl).mono ?_; rintro x w3 ⟨rfl, hb3⟩)
                  | (go_at_call 8; refine (bad_any _ _).mono ?_; rintro x w' ⟨rfl, rfl⟩)
                  | (go_at_call 10; refine (leaf_any _ _).mono ?_; rintro x w' ⟨rfl, rfl⟩)
                  | (go_at_call 13; refine (may_any _ _ _ _).mono ?_; rintro x w' ⟨rfl, rfl⟩))
                go_roundw
                case rel => exact ⟨k + 1, by omega, by go_num, hbl.trans (hb3.mono hbl.size)⟩
                case measure => simp [intOf]; omega
              · cases h8 : (bits .and .u32 (k : Int) 16 != 0)
                · have h9 : (bits .and .u32 (k : Int) 16 == 0) = true := by simpa [bne] using h8
                  simp only [h1, h2, h3, h5, hB, h9, Bool.not_true, Bool.not_false, Bool.and_true, Bool.and_false, Bool.true_and, Bool.false_and, Bool.or_true, Bool.or_false, Bool.true_or, Bool.false_or] at hbad
                  rw [hbad] at e1 hmay
                  rw [hl] at e2 hmay
                  simp only [h1, h2, h3, h5, hB, h9, Bool.not_true, Bool.not_false, Bool.and_true, Bool.and_false, Bool.true_and, Bool.false_and, Bool.or_true, Bool.or_false, Bool.true_or, Bool.false_or] at hmay e2
                  rw [hmay] at e3
                  clear hbad hl hmay
                  go_wp2_with (first
                    | (go_at_call 19; refine (hM _ _ rfl).mono ?_; rintro x w3 ⟨rfl, hb3⟩)
                    | (go_at_call 8; refine (bad_any _ _).mono ?_; rintro x w' ⟨rfl, rfl⟩)
                    | (go_at_call 10; refine (leaf_any _ _).mono ?_; rintro x w' ⟨rfl, rfl⟩)
                    | (go_at_call 13; refine (may_any _ _ _ _).mono ?_; rintro x w' ⟨rfl, rfl⟩))
                  go_roundw
                  case rel => exact ⟨k + 1, by omega, by go_num, hbl.trans (hb3.mono hbl.size)⟩
                  case measure => simp [intOf]; omega
                · have h9 : (bits .and .u32 (k : Int) 16 == 0) = false := by simpa [bne] using h8
                  simp only [h1, h2, h3, h5, hB, h9, Bool.not_true, Bool.not_false, Bool.and_true, Bool.and_false, Bool.true_and, Bool.false_and, Bool.or_true, Bool.or_false, Bool.true_or, Bool.false_or] at hbad
                  rw [hbad] at e1 hmay
                  rw [hl] at e2 hmay
                  simp only [h1, h2, h3, h5, hB, h9, Bool.not_true, Bool.not_false, Bool.and_true, Bool.and_false, Bool.true_and, Bool.false_and, Bool.or_true, Bool.or_false, Bool.true_or, Bool.false_or] at hmay e2
                  rw [hmay] at e3
                  clear hbad hl hmay
                  go_wp2_with (first
                    | (go_at_call 19; refine (hM _ _ rfl).mono ?_; rintro x w3 ⟨rfl, hb3⟩)
                    | (go_at_call 8; refine (bad_any _ _).mono ?_; rintro x w' ⟨rfl, rfl⟩)
                    | (go_at_call 10; refine (leaf_any _ _).mono ?_; rintro x w' ⟨rfl, rfl⟩)
                    | (go_at_call 13; refine (may_any _ _ _ _).mono ?_; rintro x w' ⟨rfl, rfl⟩))
                  go_roundw
                  case rel => exact ⟨k + 1, by omega, by go_num, hbl.trans (hb3.mono hbl.size)⟩
                  case measure => simp [intOf]; omega
          · cases h5 : (bits .and .u32 (k : Int) 10 != 0)
            · simp only [h1, h2, h3, h5, Bool.not_true, Bool.not_false, Bool.and_true, Bool.and_false, Bool.true_and, Bool.false_and, Bool.or_true, Bool.or_false, Bool.true_or, Bool.false_or] at hbad
              rw [hbad] at e1 hmay
              rw [hl] at e2 hmay
              simp only [h1, h2, h3, h5, Bool.not_true, Bool.not_false, Bool.and_true, Bool.and_false, Bool.true_and, Bool.false_and, Bool.or_true, Bool.or_false, Bool.true_or, Bool.false_or] at hmay e2
              rw [hmay] at e3
              clear hbad hl hmay
              go_wp2_with (first
                | (go_at_call 19; refine (hM _ _ rfl).mono ?_; rintro x w3 ⟨rfl, hb3⟩)
                | (go_at_call 8; refine (bad_any _ _).mono ?_; rintro x w' ⟨rfl, rfl⟩)
                | (go_at_call 10; refine (leaf_any _ _).mono ?_; rintro x w' ⟨rfl, rfl⟩)
                | (go_at_call 13; refine (may_any _ _ _ _).mono ?_; rintro x w' ⟨rfl, rfl⟩))
              go_roundw
              case rel => exact ⟨k + 1, by omega, by go_num, hbl.trans (hb3.mono hbl.size)⟩
              case measure => simp [intOf]; omega
            · simp only [h1, h2, h3, h5, Bool.not_true, Bool.not_false, Bool.and_true, Bool.and_false, Bool.true_and, Bool.false_and, Bool.or_true, Bool.or_false, Bool.true_or, Bool.false_or] at hbad
              rw [hbad] at e1 hmay
              rw [hl] at e2 hmay
              simp only [h1, h2, h3, h5, Bool.not_true, Bool.not_false, Bool.and_true, Bool.and_false, Bool.true_and, Bool.false_and, Bool.or_true, Bool.or_false, Bool.true_or, Bool.false_or] at hmay e2
              rw [hmay] at e3
              clear hbad hl hmay
              go_wp2_with (first
                | (go_at_call 19; refine (hM _ _ rfl).mono ?_; rintro x w3 ⟨rfl, hb3⟩)
                | (go_at_call 8; refine (bad_any _ _).mono ?_; rintro x w' ⟨rfl, rfl⟩)
                | (go_at_call 10; refine (leaf_any _ _).mono ?_; rintro x w' ⟨rfl, rfl⟩)
                | (go_at_call 13; refine (may_any _ _ _ _).mono ?_; rintro x w' ⟨rfl, rfl⟩))
              go_roundw
              case rel => exact ⟨k + 1, by omega, by go_num, hbl.trans (hb3.mono hbl.size)⟩
              case measure => simp [intOf]; omega
      · cases h5 : (bits .and .u32 (k : Int) 10 != 0)
        · simp only [h1, h5, Bool.not_true, Bool.not_false, Bool.and_true, Bool.and_false, Bool.true_and, Bool.false_and, Bool.or_true, Bool.or_false, Bool.true_or, Bool.false_or] at hbad
          rw [hbad] at e1 hmay
          rw [hl] at e2 hmay
          simp only [h1, h5, Bool.not_true, Bool.not_false, Bool.and_true, Bool.and_false, Bool.true_and, Bool.false_and, Bool.or_true, Bool.or_false, Bool.true_or, Bool.false_or] at hmay e2
          rw [hmay] at e3
          clear hbad hl hmay
          go_wp2_with (first
            | (go_at_call 19; refine (hM _ _ rfl).mono ?_; rintro x w3 ⟨rfl, hb3⟩)
            | (go_at_call 8; refine (bad_any _ _).mono ?_; rintro x w' ⟨rfl, rfl⟩)
            | (go_at_call 10; refine (leaf_any _ _).mono ?_; rintro x w' ⟨rfl, rfl⟩)
            | (go_at_call 13; refine (may_any _ _ _ _).mono ?_; rintro x w' ⟨rfl, rfl⟩))
          go_roundw
          case rel => exact ⟨k + 1, by omega, by go_num, hbl.trans (hb3.mono hbl.size)⟩
          case measure => simp [intOf]; omega
        · simp only [h1, h5, Bool.not_true, Bool.not_false, Bool.and_true, Bool.and_false, Bool.true_and, Bool.false_and, Bool.or_true, Bool.or_false, Bool.true_or, Bool.false_or] at hbad
          rw [hbad] at e1 hmay
          rw [hl] at e2 hmay
          simp only [h1, h5, Bool.not_true, Bool.not_false, Bool.and_true, Bool.and_false, Bool.true_and, Bool.false_and, Bool.or_true, Bool.or_false, Bool.true_or, Bool.false_or] at hmay e2
          rw [hmay] at e3
          clear hbad hl hmay
          go_wp2_with (first
            | (go_at_call 19; refine (hM _ _ rfl).mono ?_; rintro x w3 ⟨rfl, hb3⟩)
            | (go_at_call 8; refine (bad_any _ _).mono ?_; rintro x w' ⟨rfl, rfl⟩)
            | (go_at_call 10; refine (leaf_any _ _).mono ?_; rintro x w' ⟨rfl, rfl⟩)
            | (go_at_call 13; refine (may_any _ _ _ _).mono ?_; rintro x w' ⟨rfl, rfl⟩))
          go_roundw
          case rel => exact ⟨k + 1, by omega, by go_num, hbl.trans (hb3.mono hbl.size)⟩
          case measure => simp [intOf]; omega
    · go_wp2
      go_ret
      exact ⟨rfl, hbl⟩

set_option maxRecDepth 20000 in
set_option maxHeartbeats 6400000 in
theorem kinds_0_true (page a : Int) (p0 : 0 ≤ page) (p1 : page < 4294967296) (ht : a.tmod 3 = -2) (w : World) :
    Calls Try.prog 6 #[.int .u32 page, .int .i64 a, .bool true] w fun x w' => x = .returned (.bool true) ∧ Below w.heap.size w w' := by
  go_enter Try.func6, Try.ntmps6
  go_wp2_with (go_at_call 7; refine (first8_any _).mono ?_; rintro x w1 ⟨rfl, hb1⟩)
  have hb2 : Below w.heap.size w (w1.alloc (.cells #[.int .u32 8, .int .u32 2, .int .u32 4] 22)) := hb1.alloc hb1.size _
  generalize (w1.alloc (.cells #[.int .u32 8, .int .u32 2, .int .u32 4] 22)) = w2 at hb2 ⊢
  clear hb1 ht
  go_loopw [10] (fun i wr => ∃ k : Nat, k ≤ 256 ∧ i = .int .u32 (k : Int) ∧ Below w.heap.size w wr) (fun i _ => 256 - (intOf i).toNat)
  case atStart => exact ⟨0, by decide, rfl, hb2⟩
  case round =>
    clear hb2
    obtain ⟨k, hk, rfl, hbl⟩ := hrel
    by_cases hlt : k < 256
    · have e1 := W.mk_bad page k (by omega) (by omega)
      have e2 := W.mk_leaf page k (by omega) (by omega)
      have e3 := W.mk_may page k 2 0 (by omega) (by omega)
      have hl : W.leaf (k : Int) = (bits .and .u32 (k : Int) 10 != 0) := rfl
      have hbad : W.bad (k : Int) = ((bits .and .u32 (k : Int) 1 == 0) || (((bits .and .u32 (k : Int) 4 != 0) && (bits .and .u32 (k : Int) 2 == 0)) || (!(bits .and .u32 (k : Int) 10 != 0) && (bits .and .u32 (k : Int) 208 != 0)))) := rfl
      have hmay : W.may (k : Int) 2 0 = (W.leaf (k : Int) && (!(W.bad (k : Int)) && ((bits .and .u32 (k : Int) 2 != 0) && (bits .and .u32 (k : Int) 16 != 0)))) := rfl
      have hM := make_one page p0 p1 k hlt
      generalize W.mk page (k : Int) = E at *
      cases h1 : (bits .and .u32 (k : Int) 1 == 0)
      · cases h2 : (bits .and .u32 (k : Int) 4 != 0)
        · cases h5 : (bits .and .u32 (k : Int) 10 != 0)
          · have h6 : (bits .and .u32 (k : Int) 10 == 0) = true := by simpa [bne] using h5
            cases h7 : (bits .and .u32 (k : Int) 208 != 0)
            · simp only [h1, h2, h5, h7, Bool.not_true, Bool.not_false, Bool.and_true, Bool.and_false, Bool.true_and, Bool.false_and, Bool.or_true, Bool.or_false, Bool.true_or, Bool.false_or] at hbad
              rw [hbad] at e1 hmay
              rw [hl] at e2 hmay
              simp only [h1, h2, h5, h7, Bool.not_true, Bool.not_false, Bool.and_true, Bool.and_false, Bool.true_and, Bool.false_and, Bool.or_true, Bool.or_false, Bool.true_or, Bool.false_or] at hmay e2
              rw [hmay] at e3
              clear hbad hl hmay
              go_wp2_with (first
                | (go_at_call 19; refine (hM _ _ rfl).mono ?_; rintro x w3 ⟨rfl, hb3⟩)
                | (go_at_call 8; refine (bad_any _ _).mono ?_; rintro x w' ⟨rfl, rfl⟩)
                | (go_at_call 10; refine (leaf_any _ _).mono ?_; rintro x w' ⟨rfl, rfl⟩)
                | (go_at_call 13; refine (may_any _ _ _ _).mono ?_; rintro x w' ⟨rfl, rfl⟩))
              go_roundw
              case rel => exact ⟨k + 1, by omega, by go_num, hbl.trans (hb3.mono hbl.size)⟩
              case measure => simp [intOf]; omega
            · simp only [h1, h2, h5, h7, Bool.not_true, Bool.not_false, Bool.and_true, Bool.and_false, Bool.true_and, Bool.false_and, Bool.or_true, Bool.or_false, Bool.true_or, Bool.false_or] at hbad
              rw [hbad] at e1 hmay
              rw [hl] at e2 hmay
              simp only [h1, h2, h5, h7, Bool.not_true, Bool.not_false, Bool.and_true, Bool.and_false, Bool.true_and, Bool.false_and, Bool.or_true, Bool.or_false, Bool.true_or, Bool.false_or] at hmay e2
              rw [hmay] at e3
              clear hbad hl hmay
              go_wp2_with (first
                | (go_at_call 19; refine (hM _ _ rfl).mono ?_; rintro x w3 ⟨rfl, hb3⟩)
                | (go_at_call 8; refine (bad_any _ _).mono ?_; rintro x w' ⟨rfl, rfl⟩)
                | (go_at_call 10; refine (leaf_any _ _).mono ?_; rintro x w' ⟨rfl, rfl⟩)
                | (go_at_call 13; refine (may_any _ _ _ _).mono ?_; rintro x w' ⟨rfl, rfl⟩))
              go_roundw
              case rel => exact ⟨k + 1, by omega, by go_num, hbl.trans (hb3.mono hbl.size)⟩
              case measure => simp [intOf]; omega
          · have h6 : (bits .and .u32 (k : Int) 10 == 0) = false := by simpa [bne] using h5
            cases hB : (bits .and .u32 (k : Int) 2 != 0)
            · simp only [h1, h2, h5, hB, Bool.not_true, Bool.not_false, Bool.and_true, Bool.and_false, Bool.true_and, Bool.false_and, Bool.or_true, Bool.or_false, Bool.true_or, Bool.false_or] at hbad
              rw [hbad] at e1 hmay
              rw [hl] at e2 hmay
              simp only [h1, h2, h5, hB, Bool.not_true, Bool.not_false, Bool.and_true, Bool.and_false, Bool.true_and, Bool.false_and, Bool.or_true, Bool.or_false, Bool.true_or, Bool.false_or] at hmay e2
              rw [hmay] at e3
              clear hbad hl hmay
              go_wp2_with (first
                | (go_at_call 19; refine (hM _ _ rfl).mono ?_; rintro x w3 ⟨rfl, hb3⟩)
                | (go_at_call 8; refine (bad_any _ _).mono ?_; rintro x w' ⟨rfl, rfl⟩)
                | (go_at_call 10; refine (leaf_any _ _).mono ?_; rintro x w' ⟨rfl, rfl⟩)
                | (go_at_call 13; refine (may_any _ _ _ _).mono ?_; rintro x w' ⟨rfl, rfl⟩))
              go_roundw
              case rel => exact ⟨k + 1, by omega, by go_num, hbl.trans (hb3.mono hbl.size)⟩
              case measure => simp [intOf]; omega
            · cases h8 : (bits .and .u32 (k : Int) 16 != 0)
              · have h9 : (bits .and .u32 (k : Int) 16 == 0) = true := by simpa [bne] using h8
                simp only [h1, h2, h5, hB, h8, Bool.not_true, Bool.not_false, Bool.and_true, Bool.and_false, Bool.true_and, Bool.false_and, Bool.or_true, Bool.or_false, Bool.true_or, Bool.false_or] at hbad
                rw [hbad] at e1 hmay
                rw [hl] at e2 hmay
                simp only [h1, h2, h5, hB, h8, Bool.not_true, Bool.not_false, Bool.and_true, Bool.and_false, Bool.true_and, Bool.false_and, Bool.or_true, Bool.or_false, Bool.true_or, Bool.false_or] at hmay e2
                rw [hmay] at e3
                clear hbad hl hmay
                go_wp2_with (first
                  | (go_at_call 19; refine (hM _ _ rfl).mono ?_; rintro x w3 ⟨rfl, hb3⟩)
                  | (go_at_call 8; refine (bad_any _ _).mono ?_; rintro x w' ⟨rfl, rfl⟩)
                  | (go_at_call 10; refine (leaf_any _ _).mono ?_; rintro x w' ⟨rfl, rfl⟩)
                  | (go_at_call 13; refine (may_any _ _ _ _).mono ?_; rintro x w' ⟨rfl, rfl⟩))
                go_roundw
                case rel => exact ⟨k + 1, by omega, by go_num, hbl.trans (hb3.mono hbl.size)⟩
                case measure => simp [intOf]; omega
              · have h9 : (bits .and .u32 (k : Int) 16 == 0) = false := by simpa [bne] using h8
                simp only [h1, h2, h5, hB, h8, Bool.not_true, Bool.not_false, Bool.and_true, Bool.and_false, Bool.true_and, Bool.false_and, Bool.or_true, Bool.or_false, Bool.true_or, Bool.false_or] at hbad
                rw [hbad] at e1 hmay
                rw [hl] at e2 hmay
                simp only [h1, h2, h5, hB, h8, Bool.not_true, Bool.not_false, Bool.and_true, Bool.and_false, Bool.true_and, Bool.false_and, Bool.or_true, Bool.or_false, Bool.true_or, Bool.false_or] at hmay e2
                rw [hmay] at e3
                clear hbad hl hmay
                go_wp2_with (first
                  | (go_at_call 19; refine (hM _ _ rfl).mono ?_; rintro x w3 ⟨rfl, hb3⟩)
                  | (go_at_call 8; refine (bad_any _ _).mono ?_; rintro x w' ⟨rfl, rfl⟩)
                  | (go_at_call 10; refine (leaf_any _ _).mono ?_; rintro x w' ⟨rfl, rfl⟩)
                  | (go_at_call 13; refine (may_any _ _ _ _).mono ?_; rintro x w' ⟨rfl, rfl⟩))
                go_roundw
                case rel => exact ⟨k + 1, by omega, by go_num, hbl.trans (hb3.mono hbl.size)⟩
                case measure => simp [intOf]; omega
        · cases h3 : (bits .and .u32 (k : Int) 2 == 0)
          · cases h5 : (bits .and .u32 (k : Int) 10 != 0)
            · have h6 : (bits .and .u32 (k : Int) 10 == 0) = true := by simpa [bne] using h5
              cases h7 : (bits .and .u32 (k : Int) 208 != 0)
              · simp only [h1, h2, h3, h5, h7, Bool.not_true, Bool.not_false, Bool.and_true, Bool.and_false, Bool.true_and, Bool.false_and, Bool.or_true, Bool.or_false, Bool.true_or, Bool.false_or] at hbad
                rw [hbad] at e1 hmay
                rw [hl] at e2 hmay
                simp only [h1, h2, h3, h5, h7, Bool.not_true, Bool.not_false, Bool.and_true, Bool.and_false, Bool.true_and, Bool.false_and, Bool.or_true, Bool.or_false, Bool.true_or, Bool.false_or] at hmay e2
                rw [hmay] at e3
                clear hbad hl hmay
                go_wp2_with (first
                  | (go_at_call 19; refine (hM _ _ rfl).mono ?_; rintro x w3 ⟨rfl, hb3⟩)
                  | (go_at_call 8; refine (bad_any _ _).mono ?_; rintro x w' ⟨rfl, rfl⟩)
                  | (go_at_call 10; refine (leaf_any _ _).mono ?_; rintro x w' ⟨rfl, rfl⟩)
                  | (go_at_call 13; refine (may_any _ _ _ _).mono ?_; rintro x w' ⟨rfl, rfl⟩))
                go_roundw
                case rel => exact ⟨k + 1, by omega, by go_num, hbl.trans (hb3.mono hbl.size)⟩
                case measure => simp [intOf]; omega
              · simp only [h1, h2, h3, h5, h7, Bool.not_true, Bool.not_false, Bool.and_true, Bool.and_false, Bool.true_and, Bool.false_and, Bool.or_true, Bool.or_false, Bool.true_or, Bool.false_or] at hbad
                rw [hbad] at e1 hmay
                rw [hl] at e2 hmay
                simp only [h1, h2, h3, h5, h7, Bool.not_true, Bool.not_false, Bool.and_true, Bool.and_false, Bool.true_and, Bool.false_and, Bool.or_true, Bool.or_false, Bool.true_or, Bool.false_or] at hmay e2
                rw [hmay] at e3
                clear hbad hl hmay
                go_wp2_with (first
                  | (go_at_call 19; refine (hM _ _ rfl).mono ?_; rintro x w3 ⟨rfl, hb3⟩)
                  | (go_at_call 8; refine (bad_any _ _).mono ?_; rintro x w' ⟨rfl, rfl⟩)
                  | (go_at_call 10; refine (leaf_any _ _).mono ?_; rintro x w' ⟨rfl, rfl⟩)
                  | (go_at_call 13; refine (may_any _ _ _ _).mono ?_; rintro x w' ⟨rfl, rfl⟩))
                go_roundw
                case rel => exact ⟨k + 1, by omega, by go_num, hbl.trans (hb3.mono hbl.size)⟩
                case measure => simp [intOf]; omega
            · have h6 : (bits .and .u32 (k : Int) 10 == 0) = false := by simpa [bne] using h5
              cases hB : (bits .and .u32 (k : Int) 2 != 0)
              · simp only [h1, h2, h3, h5, hB, Bool.not_true, Bool.not_false, Bool.and_true, Bool.and_false, Bool.true_and, Bool.false_and, Bool.or_true, Bool.or_false, Bool.true_or, Bool.false_or] at hbad
                rw [hbad] at e1 hmay
                rw [hl] at e2 hmay
                simp only [h1, h2, h3, h5, hB, Bool.not_true, Bool.not_false, Bool.and_true, Bool.and_false, Bool.true_and, Bool.false_and, Bool.or_true, Bool.or_false, Bool.true_or, Bool.false_or] at hmay e2
                rw [hmay] at e3
                clear hbad hl hmay
                go_wp2_with (first
                  | (go_at_call 19; refine (hM _ _ rfl).mono ?_; rintro x w3 ⟨rfl, hb3⟩)
                  | (go_at_call 8; refine (bad_any _ _).mono ?_; rintro x w' ⟨rfl, rfl⟩)
                  | (go_at_call 10; refine (leaf_any _ _).mono ?_; rintro x w' ⟨rfl, rfl⟩)
                  | (go_at_call 13; refine (may_any _ _ _ _).mono ?_; rintro x w' ⟨rfl, rfl⟩))
                go_roundw
                case rel => exact ⟨k + 1, by omega, by go_num, hbl.trans (hb3.mono hbl.size)⟩
                case measure => simp [intOf]; omega
              · cases h8 : (bits .and .u32 (k : Int) 16 != 0)
                · have h9 : (bits .and .u32 (k : Int) 16 == 0) = true := by simpa [bne] using h8
                  simp only [h1, h2, h3, h5, hB, h8, Bool.not_true, Bool.not_false, Bool.and_true, Bool.and_false, Bool.true_and, Bool.false_and, Bool.or_true, Bool.or_false, Bool.true_or, Bool.false_or] at hbad
                  rw [hbad] at e1 hmay
                  rw [hl] at e2 hmay
                  simp only [h1, h2, h3, h5, hB, h8, Bool.not_true, Bool.not_false, Bool.and_true, Bool.and_false, Bool.true_and, Bool.false_and, Bool.or_true, Bool.or_false, Bool.true_or, Bool.false_or] at hmay e2
                  rw [hmay] at e3
                  clear hbad hl hmay
                  go_wp2_with (first
                    | (go_at_call 19; refine (hM _ _ rfl).mono ?_; rintro x w3 ⟨rfl, hb3⟩)
                    | (go_at_call 8; refine (bad_any _ _).mono ?_; rintro x w' ⟨rfl, rfl⟩)
                    | (go_at_call 10; refine (leaf_any _ _).mono ?_; rintro x w' ⟨rfl, rfl⟩)
                    | (go_at_call 13; refine (may_any _ _ _ _).mono ?_; rintro x w' ⟨rfl, rfl⟩))
                  go_roundw
                  case rel => exact ⟨k + 1, by omega, by go_num, hbl.trans (hb3.mono hbl.size)⟩
                  case measure => simp [intOf]; omega
                · have h9 : (bits .and .u32 (k : Int) 16 == 0) = false := by simpa [bne] using h8
                  simp only [h1, h2, h3, h5, hB, h8, Bool.not_true, Bool.not_false, Bool.and_true, Bool.and_false, Bool.true_and, Bool.false_and, Bool.or_true, Bool.or_false, Bool.true_or, Bool.false_or] at hbad
                  rw [hbad] at e1 hmay
                  rw [hl] at e2 hmay
                  simp only [h1, h2, h3, h5, hB, h8, Bool.not_true, Bool.not_false, Bool.and_true, Bool.and_false, Bool.true_and, Bool.false_and, Bool.or_true, Bool.or_false, Bool.true_or, Bool.false_or] at hmay e2
                  rw [hmay] at e3
                  clear hbad hl hmay
                  go_wp2_with (first
                    | (go_at_call 19; refine (hM _ _ rfl).mono ?_; rintro x w3 ⟨rfl, hb3⟩)
                    | (go_at_call 8; refine (bad_any _ _).mono ?_; rintro x w' ⟨rfl, rfl⟩)
                    | (go_at_call 10; refine (leaf_any _ _).mono ?_; rintro x w' ⟨rfl, rfl⟩)
                    | (go_at_call 13; refine (may_any _ _ _ _).mono ?_; rintro x w' ⟨rfl, rfl⟩))
                  go_roundw
                  case rel => exact ⟨k + 1, by omega, by go_num, hbl.trans (hb3.mono hbl.size)⟩
                  case measure => simp [intOf]; omega
          · cases h5 : (bits .and .u32 (k : Int) 10 != 0)
            · simp only [h1, h2, h3, h5, Bool.not_true, Bool.not_false, Bool.and_true, Bool.and_false, Bool.true_and, Bool.false_and, Bool.or_true, Bool.or_false, Bool.true_or, Bool.false_or] at hbad
              rw [hbad] at e1 hmay
              rw [hl] at e2 hmay
              simp only [h1, h2, h3, h5, Bool.not_true, Bool.not_false, Bool.and_true, Bool.and_false, Bool.true_and, Bool.false_and, Bool.or_true, Bool.or_false, Bool.true_or, Bool.false_or] at hmay e2
              rw [hmay] at e3
              clear hbad hl hmay
              go_wp2_with (first
                | (go_at_call 19; refine (hM _ _ rfl).mono ?_; rintro x w3 ⟨rfl, hb3⟩)
                | (go_at_call 8; refine (bad_any _ _).mono ?_; rintro x w' ⟨rfl, rfl⟩)
                | (go_at_call 10; refine (leaf_any _ _).mono ?_; rintro x w' ⟨rfl, rfl⟩)
                | (go_at_call 13; refine (may_any _ _ _ _).mono ?_; rintro x w' ⟨rfl, rfl⟩))
              go_roundw
              case rel => exact ⟨k + 1, by omega, by go_num, hbl.trans (hb3.mono hbl.size)⟩
              case measure => simp [intOf]; omega
            · simp only [h1, h2, h3, h5, Bool.not_true, Bool.not_false, Bool.and_true, Bool.and_false, Bool.true_and, Bool.false_and, Bool.or_true, Bool.or_false, Bool.true_or, Bool.false_or] at hbad
              rw [hbad] at e1 hmay
              rw [hl] at e2 hmay
              simp only [h1, h2, h3, h5, Bool.not_true, Bool.not_false, Bool.and_true, Bool.and_false, Bool.true_and, Bool.false_and, Bool.or_true, Bool.or_false, Bool.true_or, Bool.false_or] at hmay e2
              rw [hmay] at e3
              clear hbad hl hmay
              go_wp2_with (first
                | (go_at_call 19; refine (hM _ _ rfl).mono ?_; rintro x w3 ⟨rfl, hb3⟩)
                | (go_at_call 8; refine (bad_any _ _).mono ?_; rintro x w' ⟨rfl, rfl⟩)
                | (go_at_call 10; refine (leaf_any _ _).mono ?_; rintro x w' ⟨rfl, rfl⟩)
                | (go_at_call 13; refine (may_any _ _ _ _).mono ?_; rintro x w' ⟨rfl, rfl⟩))
              go_roundw
              case rel => exact ⟨k + 1, by omega, by go_num, hbl.trans (hb3.mono hbl.size)⟩
              case measure => simp [intOf]; omega
      · cases h5 : (bits .and .u32 (k : Int) 10 != 0)
        · simp only [h1, h5, Bool.not_true, Bool.not_false, Bool.and_true, Bool.and_false, Bool.true_and, Bool.false_and, Bool.or_true, Bool.or_false, Bool.true_or, Bool.false_or] at hbad
          rw [hbad] at e1 hmay
          rw [hl] at e2 hmay
          simp only [h1, h5, Bool.not_true, Bool.not_false, Bool.and_true, Bool.and_false, Bool.true_and, Bool.false_and, Bool.or_true, Bool.or_false, Bool.true_or, Bool.false_or] at hmay e2
          rw [hmay] at e3
          clear hbad hl hmay
          go_wp2_with (first
            | (go_at_call 19; refine (hM _ _ rfl).mono ?_; rintro x w3 ⟨rfl, hb3⟩)
            | (go_at_call 8; refine (bad_any _ _).mono ?_; rintro x w' ⟨rfl, rfl⟩)
            | (go_at_call 10; refine (leaf_any _ _).mono ?_; rintro x w' ⟨rfl, rfl⟩)
            | (go_at_call 13; refine (may_any _ _ _ _).mono ?_; rintro x w' ⟨rfl, rfl⟩))
          go_roundw
          case rel => exact ⟨k + 1, by omega, by go_num, hbl.trans (hb3.mono hbl.size)⟩
          case measure => simp [intOf]; omega
        · simp only [h1, h5, Bool.not_true, Bool.not_false, Bool.and_true, Bool.and_false, Bool.true_and, Bool.false_and, Bool.or_true, Bool.or_false, Bool.true_or, Bool.false_or] at hbad
          rw [hbad] at e1 hmay
          rw [hl] at e2 hmay
          simp only [h1, h5, Bool.not_true, Bool.not_false, Bool.and_true, Bool.and_false, Bool.true_and, Bool.false_and, Bool.or_true, Bool.or_false, Bool.true_or, Bool.false_or] at hmay e2
          rw [hmay] at e3
          clear hbad hl hmay
          go_wp2_with (first
            | (go_at_call 19; refine (hM _ _ rfl).mono ?_; rintro x w3 ⟨rfl, hb3⟩)
            | (go_at_call 8; refine (bad_any _ _).mono ?_; rintro x w' ⟨rfl, rfl⟩)
            | (go_at_call 10; refine (leaf_any _ _).mono ?_; rintro x w' ⟨rfl, rfl⟩)
            | (go_at_call 13; refine (may_any _ _ _ _).mono ?_; rintro x w' ⟨rfl, rfl⟩))
          go_roundw
          case rel => exact ⟨k + 1, by omega, by go_num, hbl.trans (hb3.mono hbl.size)⟩
          case measure => simp [intOf]; omega
    · go_wp2
      go_ret
      exact ⟨rfl, hbl⟩

end Go.Proofs.Ytfkbdkalaajkhaa
