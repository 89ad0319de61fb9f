/- Texts in one: Word, Pack. -/
import Derived.Test.YtpgegcboaicnaaaGreatDoorRows
import Derived.WalkKit
import Derived.ProofKit
import Derived.OpenShut
import Derived.Deep.QuietTactic
import Derived.BigQuiet
import Derived.WalkSmall
import Derived.Test.YtpgegcboaicnaaaGreatDoorJ01
/- What each function of package word returns, as a plain function of its numbers: a contract a function. -/
namespace Go.Proofs.YtpgegcboaicnaaaGreatDoor
open Go.ChangeShapes Go.WideShapes Go.ChangeAt Go.RowKit

theorem ret_int {k : IntKind} {a b : Int} (h : a = b) : Ending.returned (.int k a) = .returned (.int k b) := by rw [h]

theorem wide_any (a : Int) (s : Bool) (w : World) :
    Calls Tryz.prog 98 #[.int .u32 a, .bool s] w fun e w' => e = .returned (.int .i64 (W.wide a s)) ∧ w' = w := by
  cases s
  all_goals
    go_enter Tryz.func98, Tryz.ntmps98
    go_wp2
    go_ret
    exact ⟨rfl, rfl⟩

theorem less_any (a b : Int) (s : Bool) (w : World) :
    Calls Tryz.prog 65 #[.int .u32 a, .int .u32 b, .bool s] w fun e w' => e = .returned (.bool (W.less a b s)) ∧ w = w' := by
  go_enter Tryz.func65, Tryz.ntmps65
  go_wp2_with (go_at_call 98; refine (wide_any _ _ _).mono ?_; rintro e w' ⟨rfl, rfl⟩)
  go_ret
  exact ⟨rfl, rfl⟩

theorem right_any (a n : Int) (s : Bool) (w : World) :
    Calls Tryz.prog 66 #[.int .u32 a, .int .i64 n, .bool s] w fun e w' => e = .returned (.int .u32 (W.right a n s)) ∧ w = w' := by
  have hb := W.and31 n
  go_enter Tryz.func66, Tryz.ntmps66
  go_wp2_with (go_at_call 98; refine (wide_any _ _ _).mono ?_; rintro e w' ⟨rfl, rfl⟩)
  go_ret
  exact ⟨rfl, rfl⟩

theorem left_any (a n : Int) (w : World) :
    Calls Tryz.prog 63 #[.int .u32 a, .int .i64 n] w fun e w' => e = .returned (.int .u32 (W.left a n)) ∧ w = w' := by
  have hb := W.and31 n
  go_enter Tryz.func63, Tryz.ntmps63
  go_wp2
  go_ret
  exact ⟨rfl, rfl⟩

theorem sgn_any (a n : Int) (w : World) :
    Calls Tryz.prog 70 #[.int .u32 a, .int .i64 n] w fun e w' => e = .returned (.int .u32 (W.sgn a n)) ∧ w = w' := by
  by_cases h1 : n < 1
  · go_enter Tryz.func70, Tryz.ntmps70
    go_wp2
    go_ret
    exact ⟨ret_int (by rw [W.sgn, if_pos h1]), rfl⟩
  · by_cases h2 : 31 < n
    · go_enter Tryz.func70, Tryz.ntmps70
      go_wp2
      go_ret
      exact ⟨ret_int (by rw [W.sgn, if_neg (by omega), if_pos (by omega)]), rfl⟩
    · go_enter Tryz.func70, Tryz.ntmps70
      go_wp2
      go_ret
      exact ⟨ret_int (by rw [W.sgn, if_neg (by omega), if_neg (by omega)]), rfl⟩

theorem within_any (low n : Int) (w : World) :
    Calls Tryz.prog 132 #[.int .i64 low, .int .i64 n] w fun e w' => e = .returned (.bool (W.within low n)) ∧ w' = w := by
  by_cases h1 : 0 ≤ low
  · by_cases h2 : low ≤ 31
    · go_enter Tryz.func132, Tryz.ntmps132
      go_wp2
      go_ret
      exact ⟨by simp [W.within, h1, h2], rfl⟩
    · go_enter Tryz.func132, Tryz.ntmps132
      go_wp2
      go_ret
      exact ⟨by simp [W.within]; omega, rfl⟩
  · go_enter Tryz.func132, Tryz.ntmps132
    go_wp2
    go_ret
    exact ⟨by simp [W.within]; omega, rfl⟩

theorem lowest_any (n : Int) (h : 1 ≤ n) (w : World) :
    Calls Tryz.prog 133 #[.int .i64 n] w fun e w' => e = .returned (.int .u32 (W.lowest n)) ∧ w' = w := by
  by_cases h2 : 31 < n
  · go_enter Tryz.func133, Tryz.ntmps133
    go_wp2
    go_ret
    exact ⟨ret_int (by rw [W.lowest, if_pos h2]), rfl⟩
  · go_enter Tryz.func133, Tryz.ntmps133
    go_wp2
    go_ret
    exact ⟨ret_int (by rw [W.lowest, if_neg (by omega)]; simp), rfl⟩

theorem bits_any (x low n : Int) (w : World) :
    Calls Tryz.prog 104 #[.int .u32 x, .int .i64 low, .int .i64 n] w fun e w' => e = .returned (.int .u32 (W.bitsOf x low n)) ∧ ∃ k, w' = w.drewN k := by
  cases hw : W.within low n
  · have hb : W.bitsOf x low n = 0 := by rw [W.bitsOf, hw]; rfl
    go_enter Tryz.func104, Tryz.ntmps104
    go_wp2_with (go_at_call 132; refine (within_any _ _ _).mono ?_; rintro e w' ⟨rfl, rfl⟩)
    go_ret
    exact ⟨ret_int hb.symm, 0, rfl⟩
  · have h1 : 0 ≤ low ∧ low ≤ 31 ∧ 1 ≤ n := by simpa [W.within] using hw
    obtain ⟨h1, h2, h3⟩ := h1
    have hb : Hid (W.bitsOf x low n = bits .and .u32 (x / 2 ^ low.toNat) (W.lowest n)) := by
      have : W.bitsOf x low n = bits .and .u32 (x / 2 ^ low.toNat) (W.lowest n) := by rw [W.bitsOf, hw]; rfl
      exact this
    go_enter Tryz.func104, Tryz.ntmps104
    go_wp2_with (go_at_call 132; refine (within_any _ _ _).mono ?_; rintro e w' ⟨rfl, rfl⟩)
    go_quiet ((go_at_call 133; exact Calls.quiet_of_same (lowest_any _ h3 _)))
    go_wp2
    go_ret
    exact ⟨ret_int hb.out.symm, _, rfl⟩

theorem high_any (a b : Int) (s t : Bool) (w : World) :
    Calls Tryz.prog 99 #[.int .u32 a, .int .u32 b, .bool s, .bool t] w fun e w' => e = .returned (.int .u32 (W.high a b s t)) ∧ w = w' := by
  go_enter Tryz.func99, Tryz.ntmps99
  go_wp2_with (go_at_call 98; refine (wide_any _ _ _).mono ?_; rintro e w' ⟨rfl, rfl⟩)
  go_ret
  exact ⟨rfl, rfl⟩

theorem div_any (a b : Int) (s : Bool) (h0 : 0 ≤ b) (h1 : b < 4294967296) (w : World) :
    Calls Tryz.prog 100 #[.int .u32 a, .int .u32 b, .bool s] w fun e w' => e = .returned (.int .u32 (W.div a b s)) ∧ w = w' := by
  by_cases hb : b = 0
  · have hd : Hid (W.div a b s = 4294967295) := if_pos hb
    subst hb
    go_enter Tryz.func100, Tryz.ntmps100
    go_wp2
    go_ret
    exact ⟨ret_int hd.out.symm, rfl⟩
  · have hw := W.wide_ne b s h0 h1 hb
    have hd : Hid (W.div a b s = wrap64 ((W.wide a s).tdiv (W.wide b s)) % 4294967296) := if_neg hb
    have h : (b == 0) = false := by simpa using hb
    clear hb h0 h1
    go_enter Tryz.func100, Tryz.ntmps100
    go_wp2_with (go_at_call 98; refine (wide_any _ _ _).mono ?_; rintro e w' ⟨rfl, rfl⟩)
    go_ret
    exact ⟨ret_int hd.out.symm, rfl⟩

theorem rem_any (a b : Int) (s : Bool) (h0 : 0 ≤ b) (h1 : b < 4294967296) (w : World) :
    Calls Tryz.prog 101 #[.int .u32 a, .int .u32 b, .bool s] w fun e w' => e = .returned (.int .u32 (W.rem a b s)) ∧ w = w' := by
  by_cases hb : b = 0
  · have hd : Hid (W.rem a b s = a) := if_pos hb
    subst hb
    go_enter Tryz.func101, Tryz.ntmps101
    go_wp2
    go_ret
    exact ⟨ret_int hd.out.symm, rfl⟩
  · have hw := W.wide_ne b s h0 h1 hb
    have hd : Hid (W.rem a b s = (W.wide a s).tmod (W.wide b s) % 4294967296) := if_neg hb
    have h : (b == 0) = false := by simpa using hb
    clear hb h0 h1
    go_enter Tryz.func101, Tryz.ntmps101
    go_wp2_with (go_at_call 98; refine (wide_any _ _ _).mono ?_; rintro e w' ⟨rfl, rfl⟩)
    go_ret
    exact ⟨ret_int hd.out.symm, rfl⟩
end Go.Proofs.YtpgegcboaicnaaaGreatDoor

/- What word.Pack returns for whatever fields lie in memory. -/
namespace Go.Proofs.YtpgegcboaicnaaaGreatDoor
open Go.ChangeShapes Go.WideShapes Go.ChangeAt Go.RowKit

theorem pack_any (b off len cap : Nat) (L N V : Nat → Int) (w : World) (hl : len ≤ 4611686018427387904) (hbB : b < w.heap.size)
    (hc0 : ∀ j, j < len → w.cell? ⟨b, off + j * 3, none⟩ = some (.int .i64 (L j)))
    (hc1 : ∀ j, j < len → w.cell? ⟨b, off + j * 3 + 1, none⟩ = some (.int .i64 (N j)))
    (hc2 : ∀ j, j < len → w.cell? ⟨b, off + j * 3 + 2, none⟩ = some (.int .u32 (V j))) :
    Calls Tryz.prog 163 #[.slice (some ⟨b, off, none⟩) len cap] w fun e w' => e = .returned (.int .u32 (W.pack L N V len)) ∧ Below w.heap.size w w' := by
  go_enter Tryz.func163, Tryz.ntmps163
  go_wp2
  go_loopw [3, 8] (fun t i wr => ∃ k : Nat, k ≤ len ∧ i = .int .i64 k ∧ t = .int .u32 (W.pack L N V k) ∧ Below w.heap.size w wr) (fun _ i _ => len - (intOf i).toNat)
  case atStart => exact ⟨0, Nat.zero_le _, rfl, rfl, Below.refl _ _⟩
  case round =>
    obtain ⟨k, hk, rfl, rfl, hbl⟩ := hrel
    by_cases hlt : k < len
    · have g0 : wr.cell? ⟨b, off + k * 3, none⟩ = some (.int .i64 (L k)) := (hbl.cell (by exact hbB)).trans (hc0 k hlt)
      have g1 : wr.cell? ⟨b, off + k * 3 + 1, none⟩ = some (.int .i64 (N k)) := (hbl.cell (by exact hbB)).trans (hc1 k hlt)
      have g2 : wr.cell? ⟨b, off + k * 3 + 2, none⟩ = some (.int .u32 (V k)) := (hbl.cell (by exact hbB)).trans (hc2 k hlt)
      clear hc0 hc1 hc2
      cases hw : W.within (L k) (N k)
      · have hp : Hid (W.pack L N V (k + 1) = W.pack L N V k) := by
          have : W.pack L N V (k + 1) = W.pack L N V k := by rw [W.pack, hw]; rfl
          exact this
        go_wp2_with (go_at_call 132; refine (within_any _ _ _).mono ?_; rintro e w' ⟨rfl, rfl⟩)
        go_roundw
        case rel => exact ⟨k + 1, by omega, by go_num, by rw [hp.out], hbl.alloc (by have := hbl.size; omega) _⟩
        case measure => simp [intOf]; omega
      · have hp : Hid (W.pack L N V (k + 1) = bits .or .u32 (W.pack L N V k) (W.place (V k) (L k) (N k))) := by
          have : W.pack L N V (k + 1) = bits .or .u32 (W.pack L N V k) (W.place (V k) (L k) (N k)) := by rw [W.pack, hw]; rfl
          exact this
        have h1 : 0 ≤ L k ∧ L k ≤ 31 ∧ 1 ≤ N k := by simpa [W.within] using hw
        obtain ⟨h1, h2, h3⟩ := h1
        go_wp2_with (go_at_call 132; refine (within_any _ _ _).mono ?_; rintro e w' ⟨rfl, rfl⟩)
        go_quiet ((go_at_call 133; exact Calls.quiet_of_same (lowest_any _ h3 _)))
        go_wp2
        go_roundw
        case rel => exact ⟨k + 1, by omega, by go_num, by rw [hp.out]; rfl, below_drewN (hbl.alloc (by have := hbl.size; omega) _) _⟩
        case measure => simp [intOf]; omega
    · go_wp2
      go_ret
      have : k = len := by omega
      subst this
      exact ⟨rfl, hbl⟩

theorem ex_cells (w : World) : (∀ j, j < 2 → (w.alloc (.cells #[.int .i64 0, .int .i64 7, .int .u32 19, .int .i64 7, .int .i64 5, .int .u32 1] 187)).cell? ⟨w.heap.size, 0 + j * 3, none⟩ = some (.int .i64 (W.exL j)))
    ∧ (∀ j, j < 2 → (w.alloc (.cells #[.int .i64 0, .int .i64 7, .int .u32 19, .int .i64 7, .int .i64 5, .int .u32 1] 187)).cell? ⟨w.heap.size, 0 + j * 3 + 1, none⟩ = some (.int .i64 (W.exN j)))
    ∧ (∀ j, j < 2 → (w.alloc (.cells #[.int .i64 0, .int .i64 7, .int .u32 19, .int .i64 7, .int .i64 5, .int .u32 1] 187)).cell? ⟨w.heap.size, 0 + j * 3 + 2, none⟩ = some (.int .u32 (W.exV j))) := by
  refine ⟨?_, ?_, ?_⟩
  all_goals
    intro j hj
    match j, hj with
    | 0, _ => simp [go_sem, W.exL, W.exN, W.exV]
    | 1, _ => simp [go_sem, W.exL, W.exN, W.exV]

end Go.Proofs.YtpgegcboaicnaaaGreatDoor
