/- Bytes held against one another. -/
import Derived.Test.YtjdiepklgcdamaaDoorMemW
import Derived.Test.YtjdiepklgcdamaaDoorMemX
import Derived.Test.YtjdiepklgcdamaaDoorMemR
namespace Go.Proofs.YtjdiepklgcdamaaDoor
open Go.ChangeShapes Go.WideShapes Go.ChangeAt Go.RowKit
set_option linter.unusedVariables false
set_option linter.unusedSimpArgs false

theorem word_bytes (x y : Int) (j : Nat) (x0 : 0 ≤ x) (x1 : x < 4294967296) (y0 : 0 ≤ y) (y1 : y < 4294967296) (h : ∀ k, k < 4 → W.pt x (4 * j + k : Nat) 1 = W.pt y (4 * j + k : Nat) 1) : x = y := by
  have h0 := h 0 (by decide)
  have h1 := h 1 (by decide)
  have h2 := h 2 (by decide)
  have h3 := h 3 (by decide)
  rw [byte_eq _ _ x0 x1, byte_eq _ _ y0 y1] at h0 h1 h2 h3
  rw [(cc_at (4 * j + 0)).1 (by omega)] at h0
  rw [(cc_at (4 * j + 1)).2.1 (by omega)] at h1
  rw [(cc_at (4 * j + 2)).2.2.1 (by omega)] at h2
  rw [(cc_at (4 * j + 3)).2.2.2 (by omega)] at h3
  omega
theorem sameW_bytes (n : Nat) (f g : Nat → Int) (hf : ∀ j, 0 ≤ f j ∧ f j < 4294967296) (hg : ∀ j, 0 ≤ g j ∧ g j < 4294967296) : W.sameW n f g = (List.range (16 * n)).all fun a => W.byte f a == W.byte g a := by
  cases h : (List.range (16 * n)).all fun a => W.byte f a == W.byte g a
  · cases h2 : W.sameW n f g
    · rfl
    · rw [sameW_iff] at h2
      have : ((List.range (16 * n)).all fun a => W.byte f a == W.byte g a) = true := by
        rw [List.all_eq_true]
        intro a ha
        simp at ha
        unfold W.byte
        rw [h2 (a / 4) (by omega)]
        simp
      rw [this] at h; cases h
  · rw [sameW_iff]
    intro j hj
    refine word_bytes _ _ j (hf j).1 (hf j).2 (hg j).1 (hg j).2 fun k hk => ?_
    have := List.all_eq_true.1 h (4 * j + k) (by simp; omega)
    simp only [beq_iff_eq, W.byte] at this
    rw [show (4 * j + k) / 4 = j by omega] at this
    exact this

set_option maxHeartbeats 800000 in
theorem sameBytes_yes (c c2 m : Nat) (f g : Nat → Int) (w : World) (n2 : m ≤ 65536)
    (hf : ∀ a, a < m → w.cell? ⟨c, a, none⟩ = some (.int .u8 (f a))) (hg : ∀ a, a < m → w.cell? ⟨c2, a, none⟩ = some (.int .u8 (g a))) (he : ∀ a, a < m → f a = g a) : Calls Tryd.prog 25 #[.slice (some ⟨c, 0, none⟩) m m, .slice (some ⟨c2, 0, none⟩) m m] w fun e w' => e = .returned (.bool true) ∧ Below w.heap.size w w' := by
  have hfg : Hid (∀ a, a < m → w.cell? ⟨c, a, none⟩ = some (.int .u8 (f a))) := hf
  have hgg : Hid (∀ a, a < m → w.cell? ⟨c2, a, none⟩ = some (.int .u8 (g a))) := hg
  have heg : Hid (∀ a, a < m → f a = g a) := he
  clear hf hg he
  go_enter Tryd.func25, Tryd.ntmps25
  go_wp2
  go_loopw [5] (fun i wr => ∃ j : Nat, j ≤ m ∧ i = .int .i64 j ∧ ∃ d, wr = w.drewN d) (fun i _ => m - (intOf i).toNat)
  case atStart => exact ⟨0, Nat.zero_le _, rfl, 0, rfl⟩
  case round =>
    obtain ⟨j, hj, rfl, d, rfl⟩ := hrel
    by_cases hlt : j < m
    · have l0 := hfg.out j hlt
      have m0 := hgg.out j hlt
      rw [← heg.out j hlt] at m0
      go_wp2
      go_quiet (fail)
      go_wp2
      go_roundw
      case rel => exact ⟨j + 1, by omega, by go_num, _, rfl⟩
      case measure => simp [intOf]; omega
    · have hk' : m = j := by omega
      subst hk'
      go_wp2
      go_ret
      exact ⟨rfl, below_drewN (Below.refl _ _) _⟩

set_option maxHeartbeats 800000 in
theorem sameBytes_no (c c2 m d : Nat) (f g : Nat → Int) (w : World) (n2 : m ≤ 65536) (hd : d < m)
    (hf : ∀ a, a < m → w.cell? ⟨c, a, none⟩ = some (.int .u8 (f a))) (hg : ∀ a, a < m → w.cell? ⟨c2, a, none⟩ = some (.int .u8 (g a))) (he : ∀ a, a < d → f a = g a) (hn : (f d == g d) = false) : Calls Tryd.prog 25 #[.slice (some ⟨c, 0, none⟩) m m, .slice (some ⟨c2, 0, none⟩) m m] w fun e w' => e = .returned (.bool false) ∧ Below w.heap.size w w' := by
  have hfg : Hid (∀ a, a < m → w.cell? ⟨c, a, none⟩ = some (.int .u8 (f a))) := hf
  have hgg : Hid (∀ a, a < m → w.cell? ⟨c2, a, none⟩ = some (.int .u8 (g a))) := hg
  have heg : Hid (∀ a, a < d → f a = g a) := he
  clear hf hg he
  go_enter Tryd.func25, Tryd.ntmps25
  go_wp2
  go_loopw [5] (fun i wr => ∃ j : Nat, j ≤ d ∧ i = .int .i64 j ∧ ∃ q, wr = w.drewN q) (fun i _ => d - (intOf i).toNat)
  case atStart => exact ⟨0, Nat.zero_le _, rfl, 0, rfl⟩
  case round =>
    obtain ⟨j, hj, rfl, q, rfl⟩ := hrel
    have hjm : j < m := by omega
    have l0 := hfg.out j hjm
    have m0 := hgg.out j hjm
    by_cases hlt : j < d
    · rw [← heg.out j hlt] at m0
      go_wp2
      go_quiet (fail)
      go_wp2
      go_roundw
      case rel => exact ⟨j + 1, by omega, by go_num, _, rfl⟩
      case measure => simp [intOf]; omega
    · have hk' : d = j := by omega
      subst hk'
      go_wp2
      go_quiet (fail)
      go_wp2
      go_ret
      exact ⟨rfl, below_drewN (Below.refl _ _) _⟩

theorem sameBytes_any (b c b2 c2 n : Nat) (f g : Nat → Int) (w : World) (h1 : RAt b c n f w) (h2 : RAt b2 c2 n g w) : Calls Tryd.prog 25 #[.slice (some ⟨c, 0, none⟩) (16 * n) (16 * n), .slice (some ⟨c2, 0, none⟩) (16 * n) (16 * n)] w fun e w' => e = .returned (.bool (W.sameW n f g)) ∧ Below w.heap.size w w' := by
  have n2 := h1.n2
  rw [sameW_bytes n f g h1.rg h2.rg]
  cases h : (List.range (16 * n)).all fun a => W.byte f a == W.byte g a
  · have hx : ∃ j, j < 16 * n ∧ (W.byte f j == W.byte g j) = false := by
      apply Classical.byContradiction
      intro hn
      have : ((List.range (16 * n)).all fun a => W.byte f a == W.byte g a) = true := by
        rw [List.all_eq_true]
        intro a ha
        cases hp : (W.byte f a == W.byte g a)
        · exact absurd ⟨a, by simpa using ha, hp⟩ hn
        · rfl
      rw [this] at h; cases h
    obtain ⟨d, k1, k2, k3⟩ := first_diff _ _ hx
    exact sameBytes_no c c2 (16 * n) d (W.byte f) (W.byte g) w (by omega) k1 h1.byte h2.byte (fun a ha => by simpa using k3 a ha) k2
  · exact sameBytes_yes c c2 (16 * n) (W.byte f) (W.byte g) w (by omega) h1.byte h2.byte (fun a ha => by simpa using List.all_eq_true.1 h a (by simpa using ha))
end Go.Proofs.YtjdiepklgcdamaaDoor
