/- Texts in one: Pack. -/
import Derived.WalkSmall
import Derived.Test.YteilpehekabccabGreatDoorJ01
/- What word.Pack returns for whatever fields lie in memory. -/
namespace Go.Proofs.YteilpehekabccabGreatDoor
open Go.ChangeShapes Go.WideShapes Go.ChangeAt Go.RowKit

theorem pack_any (b off len cap : Nat) (L N V : Nat → Int) (w : World) (hl : len ≤ 4611686018427387904) (hbB : b < w.heap.size)
    (hc0 : ∀ j, j < len → w.cell? ⟨b, off + j * 3, none⟩ = some (.int .i64 (L j)))
    (hc1 : ∀ j, j < len → w.cell? ⟨b, off + j * 3 + 1, none⟩ = some (.int .i64 (N j)))
    (hc2 : ∀ j, j < len → w.cell? ⟨b, off + j * 3 + 2, none⟩ = some (.int .u32 (V j))) :
    Calls Tryz.prog 82 #[.slice (some ⟨b, off, none⟩) len cap] w fun e w' => e = .returned (.int .u32 (W.pack L N V len)) ∧ Below w.heap.size w w' := by
  go_enter Tryz.func82, Tryz.ntmps82
  go_wp2
  go_loopw [3, 8] (fun t i wr => ∃ k : Nat, k ≤ len ∧ i = .int .i64 k ∧ t = .int .u32 (W.pack L N V k) ∧ Below w.heap.size w wr) (fun _ i _ => len - (intOf i).toNat)
  case atStart => exact ⟨0, Nat.zero_le _, rfl, rfl, Below.refl _ _⟩
  case round =>
    obtain ⟨k, hk, rfl, rfl, hbl⟩ := hrel
    by_cases hlt : k < len
    · have g0 : wr.cell? ⟨b, off + k * 3, none⟩ = some (.int .i64 (L k)) := (hbl.cell (by exact hbB)).trans (hc0 k hlt)
      have g1 : wr.cell? ⟨b, off + k * 3 + 1, none⟩ = some (.int .i64 (N k)) := (hbl.cell (by exact hbB)).trans (hc1 k hlt)
      have g2 : wr.cell? ⟨b, off + k * 3 + 2, none⟩ = some (.int .u32 (V k)) := (hbl.cell (by exact hbB)).trans (hc2 k hlt)
      clear hc0 hc1 hc2
      cases hw : W.within (L k) (N k)
      · have hp : Hid (W.pack L N V (k + 1) = W.pack L N V k) := by
          have : W.pack L N V (k + 1) = W.pack L N V k := by rw [W.pack, hw]; rfl
          exact this
        go_wp2_with (go_at_call 57; refine (within_any _ _ _).mono ?_; rintro e w' ⟨rfl, rfl⟩)
        go_roundw
        case rel => exact ⟨k + 1, by omega, by go_num, by rw [hp.out], hbl.alloc (by have := hbl.size; omega) _⟩
        case measure => simp [intOf]; omega
      · have hp : Hid (W.pack L N V (k + 1) = bits .or .u32 (W.pack L N V k) (W.place (V k) (L k) (N k))) := by
          have : W.pack L N V (k + 1) = bits .or .u32 (W.pack L N V k) (W.place (V k) (L k) (N k)) := by rw [W.pack, hw]; rfl
          exact this
        have h1 : 0 ≤ L k ∧ L k ≤ 31 ∧ 1 ≤ N k := by simpa [W.within] using hw
        obtain ⟨h1, h2, h3⟩ := h1
        go_wp2_with (go_at_call 57; refine (within_any _ _ _).mono ?_; rintro e w' ⟨rfl, rfl⟩)
        go_quiet ((go_at_call 58; exact Calls.quiet_of_same (lowest_any _ h3 _)))
        go_wp2
        go_roundw
        case rel => exact ⟨k + 1, by omega, by go_num, by rw [hp.out]; rfl, below_drewN (hbl.alloc (by have := hbl.size; omega) _) _⟩
        case measure => simp [intOf]; omega
    · go_wp2
      go_ret
      have : k = len := by omega
      subst this
      exact ⟨rfl, hbl⟩

theorem ex_cells (w : World) : (∀ j, j < 2 → (w.alloc (.cells #[.int .i64 0, .int .i64 7, .int .u32 19, .int .i64 7, .int .i64 5, .int .u32 1] 133)).cell? ⟨w.heap.size, 0 + j * 3, none⟩ = some (.int .i64 (W.exL j)))
    ∧ (∀ j, j < 2 → (w.alloc (.cells #[.int .i64 0, .int .i64 7, .int .u32 19, .int .i64 7, .int .i64 5, .int .u32 1] 133)).cell? ⟨w.heap.size, 0 + j * 3 + 1, none⟩ = some (.int .i64 (W.exN j)))
    ∧ (∀ j, j < 2 → (w.alloc (.cells #[.int .i64 0, .int .i64 7, .int .u32 19, .int .i64 7, .int .i64 5, .int .u32 1] 133)).cell? ⟨w.heap.size, 0 + j * 3 + 2, none⟩ = some (.int .u32 (W.exV j))) := by
  refine ⟨?_, ?_, ?_⟩
  all_goals
    intro j hj
    match j, hj with
    | 0, _ => simp [go_sem, W.exL, W.exN, W.exV]
    | 1, _ => simp [go_sem, W.exL, W.exN, W.exV]

end Go.Proofs.YteilpehekabccabGreatDoor
