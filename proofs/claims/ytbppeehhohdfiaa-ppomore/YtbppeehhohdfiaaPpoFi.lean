/- fit, and the document's Ops. -/
import Derived.Test.YtbppeehhohdfiaaPpoIs
namespace Go.Proofs.Ytbppeehhohdfiaa
open Go.ChangeShapes Go.WideShapes Go.ChangeAt Go.RowKit
set_option linter.unusedVariables false
set_option linter.unusedSimpArgs false

attribute [local go_sem ↓] ldO_eq
set_option maxHeartbeats 1600000 in
theorem wops_any (a : Option Addr) (n c : Nat) (o : Nat → W.Opr) (S : Nat → S3) (A D C : Nat → Nat → Int) (hb : Nat) (w : World) (h : Rs a n c o S A D C w) (hl : hb < w.heap.size) (hc : w.cell? ⟨hb, 0, none⟩ = some (.slice a n c)) :
    Calls Try.prog 14 #[.slice (some ⟨hb, 0, none⟩) 1 1, .int .i64 40] w fun e w' => (e = .returned (.bool false) ∨ e = .returned (.bool true) ∧ Few n S) ∧ Below w.heap.size w w' := by
  have hm : n ≤ maxLen := Nat.le_trans h.nc h.cm
  unfold maxLen at hm
  have HH : Hid _ := h
  clear h
  go_enter Try.func14, Try.ntmps14
  go_wp2
  go_loopw [5, 6] (fun s t wr => Below w.heap.size w wr ∧ ((s = .int .i64 0 ∧ t = .int .i64 0) ∨ (s = .int .i64 (n : Int) ∧ t = .int .i64 1 ∧ ∀ j, j < n → j ≤ 40 → (S j).a.n ≤ 40 ∧ (S j).d.n ≤ 40 ∧ (S j).c.n ≤ 40))) (fun _ t _ => 1 - (intOf t).toNat)
  case atStart => exact ⟨Below.refl _ _, Or.inl ⟨rfl, rfl⟩⟩
  case round =>
    rename_i wx _
    obtain ⟨bx, hrel⟩ := hrel
    rcases hrel with ⟨rfl, rfl⟩ | ⟨rfl, rfl, hL⟩
    · have hcx := (bx.cell (p := ⟨hb, 0, none⟩) hl).trans hc
      have hlx := Nat.lt_of_lt_of_le hl bx.size
      go_wp2
      go_loopw [7] (fun t wr => Below w.heap.size w wr ∧ ∃ j : Nat, j ≤ n ∧ j ≤ 41 ∧ t = .int .i64 (j : Int) ∧ ∀ q, q < j → (S q).a.n ≤ 40 ∧ (S q).d.n ≤ 40 ∧ (S q).c.n ≤ 40) (fun t _ => 41 - (intOf t).toNat)
      case atStart => exact ⟨bx, 0, by omega, by omega, rfl, fun q hq => absurd hq (by omega)⟩
      case round =>
        clear hcx hlx bx
        obtain ⟨bz, j, hj1, hj2, rfl, hL⟩ := hrel
        have hcx := (bz.cell (p := ⟨hb, 0, none⟩) hl).trans hc
        have hlx := Nat.lt_of_lt_of_le hl bz.size
        by_cases hjn : j < n
        · have hjn' : (j : Int) < (n : Int) := by omega
          by_cases hj4 : j ≤ 40
          · have hj4' : (j : Int) ≤ 40 := by omega
            obtain ⟨g, off, rfl, hg, hx⟩ := (HH.out.below bz).at_ (by omega)
            have ld := ldO_any (o j) (S j) (hx j hjn).c
            have la := (hx j hjn).a.nc
            have la2 := (hx j hjn).a.cm
            have ld1 := (hx j hjn).d.nc
            have ld2 := (hx j hjn).d.cm
            have lc1 := (hx j hjn).e.nc
            have lc2 := (hx j hjn).e.cm
            clear hx
            have hL' : (S j).a.n ≤ 40 → (S j).d.n ≤ 40 → (S j).c.n ≤ 40 → ∀ q, q < j + 1 → (S q).a.n ≤ 40 ∧ (S q).d.n ≤ 40 ∧ (S q).c.n ≤ 40 := fun a b c q hq => by
              by_cases e : q < j
              · exact hL q e
              · obtain rfl : q = j := by omega
                exact ⟨a, b, c⟩
            have HL : Hid (_ ∧ _) := ⟨hL', bz⟩
            clear hL hL' bz
            generalize S j = s at *
            obtain ⟨⟨aa, an, ac⟩, ⟨da, dn, dc⟩, ⟨ca, cn, cc⟩⟩ := s
            dsimp only at *
            unfold maxLen at la2 ld2 lc2
            unfold opC at ld
            by_cases ha : an ≤ 40
            · have ha' : ¬ (40 : Int) < (an : Int) := by omega
              by_cases hd : dn ≤ 40
              · have hd' : ¬ (40 : Int) < (dn : Int) := by omega
                by_cases hcc : cn ≤ 40
                · have hc' : ¬ (40 : Int) < (cn : Int) := by omega
                  go_wp2
                  go_roundw
                  case rel => exact ⟨HL.out.2.alloc HL.out.2.size _, j + 1, by omega, by omega, by go_num, HL.out.1 ha hd hcc⟩
                  case measure => simp [intOf]; omega
                · have hc' : (40 : Int) < (cn : Int) := by omega
                  go_wp2
                  go_ret
                  exact ⟨Or.inl rfl, HL.out.2.alloc HL.out.2.size _⟩
              · have hd' : (40 : Int) < (dn : Int) := by omega
                go_wp2
                go_ret
                exact ⟨Or.inl rfl, HL.out.2.alloc HL.out.2.size _⟩
            · have ha' : (40 : Int) < (an : Int) := by omega
              go_wp2
              go_ret
              exact ⟨Or.inl rfl, HL.out.2.alloc HL.out.2.size _⟩
          · have hj4' : ¬ (j : Int) ≤ 40 := by omega
            have HL : Hid (_ ∧ _) := ⟨hL, bz⟩
            clear hL bz
            go_wp2
            go_roundw
            case rel => exact ⟨HL.out.2, Or.inr ⟨by go_num, rfl, fun q hq hq4 => HL.out.1 q (by omega)⟩⟩
            case measure => simp [intOf]
        · have hjn' : ¬ (j : Int) < (n : Int) := by omega
          have HL : Hid (_ ∧ _) := ⟨hL, bz⟩
          clear hL bz
          go_wp2
          go_roundw
          case rel => exact ⟨HL.out.2, Or.inr ⟨by go_num, rfl, fun q hq hq4 => HL.out.1 q (by omega)⟩⟩
          case measure => simp [intOf]
    · have HL : Hid (_ ∧ _) := ⟨hL, bx⟩
      clear hL bx
      by_cases hn4 : n ≤ 40
      · have hn' : (n : Int) ≤ 40 := by omega
        go_wp2
        go_ret
        exact ⟨Or.inr ⟨rfl, hn4, fun j hj => HL.out.1 j hj (by omega)⟩, HL.out.2⟩
      · have hn' : ¬ (n : Int) ≤ 40 := by omega
        go_wp2
        go_ret
        exact ⟨Or.inl rfl, HL.out.2⟩
set_option maxHeartbeats 1600000 in
theorem fit_any (a : Option Addr) (n c : Nat) (o : Nat → W.Opr) (S : Nat → S3) (A D C : Nat → Nat → Int) (w : World) (h : Rs a n c o S A D C w) :
    Calls Try.prog 9 #[.slice a n c] w fun e w' => (e = .returned (.bool false) ∨ e = .returned (.bool true) ∧ Few n S) ∧ Below w.heap.size w w' := by
  have hm : n ≤ maxLen := Nat.le_trans h.nc h.cm
  unfold maxLen at hm
  have HH : Hid _ := h
  clear h
  go_enter Try.func9, Try.ntmps9
  go_wp2
  go_loopw [3] (fun t wr => wr = w ∧ ∃ j : Nat, j ≤ n ∧ t = .int .i64 (j : Int)) (fun t _ => n - (intOf t).toNat)
  case atStart => exact ⟨rfl, 0, by omega, rfl⟩
  case round =>
    obtain ⟨rfl, j, hj, rfl⟩ := hrel
    by_cases hjn : j < n
    · have hjn' : (j : Int) < (n : Int) := by omega
      obtain ⟨g, off, rfl, hg, hx⟩ := HH.out.at_ (by omega)
      have c0 := (hx j hjn).c 0 (by decide)
      have c1 := (hx j hjn).c 1 (by decide)
      clear hx
      simp only [opF, W.oz0, Nat.add_zero] at c0 c1
      generalize (o j).k = K at *
      generalize (o j).sz = Z at *
      by_cases k4 : K = 4
      · have r : (K != 4) = false := by simp [k4]
        clear k4
        go_wp2
        go_roundw
        case rel => exact ⟨trivial, j + 1, by omega, by go_num⟩
        case measure => simp [intOf]; omega
      · have r : (K != 4) = true := by simp [k4]
        clear k4
        by_cases z1 : Z = 1
        · subst z1
          go_wp2
          go_roundw
          case rel => exact ⟨trivial, j + 1, by omega, by go_num⟩
          case measure => simp [intOf]; omega
        · have r1 : (Z != 1) = true := by simp [z1]
          clear z1
          by_cases z2 : Z = 2
          · subst z2
            go_wp2
            go_roundw
            case rel => exact ⟨trivial, j + 1, by omega, by go_num⟩
            case measure => simp [intOf]; omega
          · have r2 : (Z != 2) = true := by simp [z2]
            clear z2
            by_cases z4 : Z = 4
            · subst z4
              go_wp2
              go_roundw
              case rel => exact ⟨trivial, j + 1, by omega, by go_num⟩
              case measure => simp [intOf]; omega
            · have r4 : (Z != 4) = true := by simp [z4]
              clear z4
              go_wp2
              go_ret
              exact ⟨Or.inl rfl, Below.refl _ _⟩
    · have hjn' : ¬ (j : Int) < (n : Int) := by omega
      have hW := wops_any a n c o S A D C wr.heap.size (wr.alloc (.cells #[.slice a n c] 22)) (HH.out.below ((Below.refl _ _).alloc (Nat.le_refl _) _)) (by simp) ((cell_of_row _ _ 0 _ _ (0, 0) (heap_alloc_last wr _)).trans rfl)
      have bw : Below wr.heap.size wr (wr.alloc (.cells #[.slice a n c] 22)) := (Below.refl _ _).alloc (Nat.le_refl _) _
      have HW : Hid (Calls _ _ _ _ _ ∧ _) := ⟨hW, bw⟩
      clear hW bw
      go_wp2_with (fail)
      refine HW.out.1.mono ?_
      rintro e w2 ⟨he, b2⟩
      have b3 := HW.out.2.trans (b2.mono HW.out.2.size)
      clear b2 HW
      rcases he with rfl | ⟨rfl, hF⟩
      · go_wp2
        go_ret
        exact ⟨Or.inl rfl, b3⟩
      · have HF : Hid _ := hF
        clear hF
        go_wp2
        go_ret
        exact ⟨Or.inr ⟨rfl, HF.out⟩, b3⟩
end Go.Proofs.Ytbppeehhohdfiaa
