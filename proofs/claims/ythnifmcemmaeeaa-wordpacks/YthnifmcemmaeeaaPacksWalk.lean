/- WordPacks, walked: it returns true, whatever fields lie in the slice. -/
import Derived.Test.YthnifmcemmaeeaaPack
import Derived.Test.YthnifmcemmaeeaaRef
import Derived.Test.YthnifmcemmaeeaaMath6
import Derived.WalkSpells
namespace Go.Proofs.Ythnifmcemmaeeaa
open Go.ChangeShapes Go.WideShapes Go.ChangeAt Go.RowKit
set_option linter.unusedVariables false

theorem same_of {P : Program} {f : FuncId} {args : Array Value} {w : World} {v : Value} (h : Calls P f args w fun e w' => e = .returned v ∧ w = w') : Calls P f args w fun e w' => e = .returned v ∧ w' = w :=
  h.mono fun _ _ ⟨a, b⟩ => ⟨a, b.symm⟩

theorem place_any (v low n : Int) (w : World) (v0 : 0 ≤ v) (v1 : v < 4294967296) :
    Calls Try.prog 26 #[.int .u32 v, .int .i64 low, .int .i64 n] w fun e w' => e = .returned (.int .u32 (W.placed v low n)) ∧ w = w' := by
  cases hw : W.within low n
  · have hr : Hid (W.placed v low n = 0) := by
      have : W.placed v low n = 0 := by unfold W.placed; rw [hw]; rfl
      exact this
    have hn : low < 0 ∨ 31 < low ∨ n < 1 := by
      have h3 : ¬ (0 ≤ low ∧ low ≤ 31 ∧ 1 ≤ n) := by
        intro h; simp [W.within, h] at hw
      omega
    clear hw
    rcases hn with h | h | h
    · go_enter Try.func26, Try.ntmps26
      go_wp2
      go_ret
      exact ⟨ret_int hr.out.symm, rfl⟩
    · go_enter Try.func26, Try.ntmps26
      go_wp2
      all_goals
        go_ret
        exact ⟨ret_int hr.out.symm, rfl⟩
    · go_enter Try.func26, Try.ntmps26
      go_wp2
      all_goals
        go_ret
        exact ⟨ret_int hr.out.symm, rfl⟩
  · have hr : Hid (W.bitsOf v 0 n * 2 ^ low.toNat % 4294967296 = W.placed v low n) := W.placed_ref v low n v0 v1 hw
    have h3 : 0 ≤ low ∧ low ≤ 31 ∧ 1 ≤ n := by simpa [W.within] using hw
    obtain ⟨h1, h2, h3⟩ := h3
    clear hw
    go_enter Try.func26, Try.ntmps26
    go_wp2_with (go_at_call 13; refine (rbits_any _ _ _ _ v0 v1).mono ?_; rintro e w' ⟨rfl, rfl⟩)
    go_ret
    exact ⟨ret_int hr.out, rfl⟩

theorem pack_empty (a : Option Addr) (cap : Nat) (w : World) : Calls Try.prog 25 #[.slice a 0 cap] w fun e w' => e = .returned (.int .u32 0) ∧ w = w' := by
  go_enter Try.func25, Try.ntmps25
  go_wp2
  refine wp_loop_rounds 1 ?_
  rw [rounds_succ]
  go_wp2
  go_ret
  exact ⟨rfl, rfl⟩

theorem packs_long (a : Option Addr) (len cap : Nat) (h : 40 < len) (hm : len ≤ maxLen) (w : World) :
    Calls Try.prog 4 #[.slice a len cap] w fun e w' => e = .returned (.bool true) ∧ Below w.heap.size w w' := by
  unfold maxLen at hm
  go_enter Try.func4, Try.ntmps4
  go_wp2_with (go_at_call 9; refine (first_any _).mono ?_; rintro e w1 ⟨rfl, hw1⟩)
  go_ret
  exact ⟨rfl, hw1⟩

theorem packs_empty (a : Option Addr) (cap : Nat) (w : World) :
    Calls Try.prog 4 #[.slice a 0 cap] w fun e w' => e = .returned (.bool true) ∧ Below w.heap.size w w' := by
  go_enter Try.func4, Try.ntmps4
  go_wp2_with (first | (go_at_call 9; refine (first_any _).mono ?_; rintro e w1 ⟨rfl, hw1⟩) | (go_at_call 25; refine (pack_empty _ _ _).mono ?_; rintro e w' ⟨rfl, rfl⟩))
  refine wp_loop_rounds 1 ?_
  rw [rounds_succ]
  go_wp2
  refine wp_loop_rounds 1 ?_
  rw [rounds_succ]
  go_wp2
  go_ret
  exact ⟨rfl, hw1⟩

set_option maxHeartbeats 1600000 in
set_option maxRecDepth 100000 in
theorem packs_some (b off len cap : Nat) (L N V : Nat → Int) (w : World) (hl : len ≤ 40) (hbB : b < w.heap.size)
    (hV : ∀ j, j < len → 0 ≤ V j ∧ V j < 4294967296)
    (hc0 : ∀ j, j < len → w.cell? ⟨b, off + j * 3, none⟩ = some (.int .i64 (L j)))
    (hc1 : ∀ j, j < len → w.cell? ⟨b, off + j * 3 + 1, none⟩ = some (.int .i64 (N j)))
    (hc2 : ∀ j, j < len → w.cell? ⟨b, off + j * 3 + 2, none⟩ = some (.int .u32 (V j))) :
    Calls Try.prog 4 #[.slice (some ⟨b, off, none⟩) len cap] w fun e w' => e = .returned (.bool true) ∧ Below w.heap.size w w' := by
  go_enter Try.func4, Try.ntmps4
  go_wp2_with (go_at_call 9; refine (first_any _).mono ?_; rintro e w1 ⟨rfl, hw1⟩)
  have d0 : ∀ j, j < len → w1.cell? ⟨b, off + j * 3, none⟩ = some (.int .i64 (L j)) := fun j hj => (hw1.cell (by exact hbB)).trans (hc0 j hj)
  have d1 : ∀ j, j < len → w1.cell? ⟨b, off + j * 3 + 1, none⟩ = some (.int .i64 (N j)) := fun j hj => (hw1.cell (by exact hbB)).trans (hc1 j hj)
  have d2 : ∀ j, j < len → w1.cell? ⟨b, off + j * 3 + 2, none⟩ = some (.int .u32 (V j)) := fun j hj => (hw1.cell (by exact hbB)).trans (hc2 j hj)
  refine (pack_any b off len cap L N V w1 (by omega) (by have := hw1.size; omega) d0 d1 d2).mono ?_
  clear d0 d1 d2
  rintro e w2 ⟨rfl, hb2⟩
  have hw2 : Below w.heap.size w w2 := hw1.trans (hb2.mono hw1.size)
  clear hb2 hw1
  go_wp2
  go_loopw [5, 6] (fun t i wr => ∃ k : Nat, k ≤ len ∧ i = .int .i64 k ∧ t = .int .u32 (W.pack L N V k) ∧ Below w.heap.size w wr) (fun _ i _ => len - (intOf i).toNat)
  case atStart => exact ⟨0, Nat.zero_le _, rfl, rfl, hw2⟩
  case round =>
    clear hw2
    obtain ⟨k, hk, rfl, rfl, hbl⟩ := hrel
    by_cases hlt : k < len
    · have g0 : wr.cell? ⟨b, off + k * 3, none⟩ = some (.int .i64 (L k)) := (hbl.cell (by exact hbB)).trans (hc0 k hlt)
      have g1 : wr.cell? ⟨b, off + k * 3 + 1, none⟩ = some (.int .i64 (N k)) := (hbl.cell (by exact hbB)).trans (hc1 k hlt)
      have g2 : wr.cell? ⟨b, off + k * 3 + 2, none⟩ = some (.int .u32 (V k)) := (hbl.cell (by exact hbB)).trans (hc2 k hlt)
      have hVk := hV k hlt
      have hp := W.pack_lt L N V k
      have hs : Hid (bits .or .u32 (W.pack L N V k) (W.placed (V k) (L k) (N k)) = W.pack L N V (k + 1)) := W.pack_succ L N V k hp.1 hp.2
      clear hp
      go_wp2
      go_quiet ((go_at_call 26; exact Calls.quiet_of_same (same_of (place_any _ _ _ _ hVk.1 hVk.2))))
      go_wp2
      go_roundw
      case rel => exact ⟨k + 1, by omega, by go_num, by rw [hs.out], below_drewN hbl _⟩
      case measure => simp [intOf]; omega
    · have hk' : len = k := by omega
      subst hk'
      go_wp2
      go_loopw [7] (fun i wo => ∃ k : Nat, k ≤ len ∧ i = .int .i64 k ∧ Below w.heap.size w wo) (fun i _ => len - (intOf i).toNat)
      case atStart => exact ⟨0, Nat.zero_le _, rfl, hbl⟩
      case round =>
        clear hbl hk hlt
        obtain ⟨k, hk, rfl, hbl⟩ := hrel
        rename World => wo
        by_cases hlk : k < len
        · have k0 : wo.cell? ⟨b, off + k * 3, none⟩ = some (.int .i64 (L k)) := (hbl.cell (by exact hbB)).trans (hc0 k hlk)
          have k1 : wo.cell? ⟨b, off + k * 3 + 1, none⟩ = some (.int .i64 (N k)) := (hbl.cell (by exact hbB)).trans (hc1 k hlk)
          have k2 : wo.cell? ⟨b, off + k * 3 + 2, none⟩ = some (.int .u32 (V k)) := (hbl.cell (by exact hbB)).trans (hc2 k hlk)
          by_cases f1 : 0 ≤ L k
          · by_cases f2 : L k ≤ 31
            · by_cases f3 : 1 ≤ N k
              · by_cases f4 : N k ≤ 32
                · go_wp2
                  go_loopw [9, 10] (fun f j w3 => ∃ (q : Nat) (fb : Bool), q ≤ len ∧ j = .int .i64 q ∧ f = .bool fb ∧ (fb = true → ∀ p, p < q → p ≠ k → bits .and .u32 (W.placed 4294967295 (L p) (N p)) (W.placed 4294967295 (L k) (N k)) = 0) ∧ Below (wo.heap.size + 1) (wo.alloc (.cells #[.int .i64 (L k), .int .i64 (N k), .int .u32 (V k)] 35)) w3) (fun _ j _ => len - (intOf j).toNat)
                  case atStart => exact ⟨0, true, Nat.zero_le _, rfl, rfl, fun _ p hp => by omega, Below.refl _ _⟩
                  case round =>
                    obtain ⟨q, fb, hq, rfl, rfl, hfree, hb3⟩ := hrel
                    have m0 : wr.cell? ⟨wo.heap.size, 0, none⟩ = some (.int .i64 (L k)) := (hb3.cell (p := ⟨wo.heap.size, 0, none⟩) (Nat.lt_succ_self _)).trans (by simp [go_sem])
                    have m1 : wr.cell? ⟨wo.heap.size, 1, none⟩ = some (.int .i64 (N k)) := (hb3.cell (p := ⟨wo.heap.size, 1, none⟩) (Nat.lt_succ_self _)).trans (by simp [go_sem])
                    have m2 : wr.cell? ⟨wo.heap.size, 2, none⟩ = some (.int .u32 (V k)) := (hb3.cell (p := ⟨wo.heap.size, 2, none⟩) (Nat.lt_succ_self _)).trans (by simp [go_sem])
                    have hz : wo.heap.size + 1 ≤ wr.heap.size := by have := hb3.size; simpa using this
                    have hw3 : Below w.heap.size w wr := (hbl.alloc hbl.size _).trans (hb3.mono (by have := hbl.size; omega))
                    have HF : Hid (fb = true → ∀ p, p < q → p ≠ k → bits .and .u32 (W.placed 4294967295 (L p) (N p)) (W.placed 4294967295 (L k) (N k)) = 0) := hfree
                    clear hfree
                    by_cases hlq : q < len
                    ·
                      have g0 : wr.cell? ⟨b, off + q * 3, none⟩ = some (.int .i64 (L q)) := (hw3.cell (by exact hbB)).trans (hc0 q hlq)
                      have g1 : wr.cell? ⟨b, off + q * 3 + 1, none⟩ = some (.int .i64 (N q)) := (hw3.cell (by exact hbB)).trans (hc1 q hlq)
                      have g2 : wr.cell? ⟨b, off + q * 3 + 2, none⟩ = some (.int .u32 (V q)) := (hw3.cell (by exact hbB)).trans (hc2 q hlq)
                      have hB : Below (wo.heap.size + 1) (wo.alloc (.cells #[.int .i64 (L k), .int .i64 (N k), .int .u32 (V k)] 35)) (wr.alloc (.cells #[.int .i64 (L q), .int .i64 (N q), .int .u32 (V q)] 35)) := hb3.alloc hz _
                      have hne : ∀ o, (wr.alloc (.cells #[.int .i64 (L q), .int .i64 (N q), .int .u32 (V q)] 35)).cell? ⟨wo.heap.size, o, none⟩ = wr.cell? ⟨wo.heap.size, o, none⟩ := fun o => World.cell?_alloc_past _ _ _ hz
                      clear hc0 hc1 hc2 hbl hw3 hV
                      cases fb
                      · go_wp2
                        go_quiet (fail)
                        go_wp2
                        go_roundw
                        case rel => exact ⟨q + 1, false, by omega, by go_num, rfl, (fun h => by cases h), below_drewN hB _⟩
                        case measure => simp [intOf]; omega
                      · by_cases hqk : q = k
                        · have hqb : ((q : Int) == (k : Int)) = true := by simp [hqk]
                          have HK : Hid (q = k) := hqk
                          clear hqk
                          go_wp2
                          go_quiet (fail)
                          go_wp2
                          go_roundw
                          case rel => exact ⟨q + 1, true, by omega, by go_num, rfl, fun _ p hp hpk => HF.out (by trivial) p (by have := HK.out; omega) hpk, below_drewN hB _⟩
                          case measure => simp [intOf]; omega
                        · have hqb : ((q : Int) == (k : Int)) = false := by simp; omega
                          have HK : Hid (¬ q = k) := hqk
                          clear hqk
                          go_wp2
                          go_quiet ((go_at_call 26; exact Calls.quiet_of_same (same_of (place_any _ _ _ _ (by decide) (by decide)))))
                          go_wp2
                          go_roundw
                          case rel =>
                            refine ⟨q + 1, _, by omega, by go_num, rfl, fun h p hp hpk => ?_, below_drewN hB _⟩
                            by_cases e : p = q
                            · subst e; simpa using h
                            · exact HF.out (by trivial) p (by omega) hpk
                          case measure => simp [intOf]; omega
                    · cases fb
                      · clear hc0 hc1 hc2 hV
                        go_wp2
                        go_quiet (fail)
                        go_wp2
                        go_roundw
                        case rel => exact ⟨k + 1, by omega, by go_num, below_drewN hw3 _⟩
                        case measure => simp [intOf]; omega
                      · have e : (W.bitsOf (W.pack L N V len) (L k) (N k) != W.bitsOf (W.left (V k) (L k)) (L k) (N k)) = false := by
                          rw [W.read_back L N V len k hlk hV f1 f2 f3 f4 (fun p hp hpk => HF.out (by trivial) p (by omega) hpk)]; simp
                        clear hc0 hc1 hc2 hV HF
                        go_wp2
                        go_quiet (first | (go_at_call 12; exact Calls.quiet_of (bits_any _ _ _ _)) | (go_at_call 24; exact Calls.quiet_of_same (same_of (left_any _ _ _))))
                        go_wp2
                        go_roundw
                        case rel => exact ⟨k + 1, by omega, by go_num, below_drewN hw3 _⟩
                        case measure => simp [intOf]; omega
                · go_wp2
                  go_loopw [9, 10] (fun f j w3 => ∃ q : Nat, q ≤ len ∧ j = .int .i64 q ∧ f = .bool false ∧ Below (wo.heap.size + 1) (wo.alloc (.cells #[.int .i64 (L k), .int .i64 (N k), .int .u32 (V k)] 35)) w3) (fun _ j _ => len - (intOf j).toNat)
                  case atStart => exact ⟨0, Nat.zero_le _, rfl, rfl, Below.refl _ _⟩
                  case round =>
                    obtain ⟨q, hq, rfl, rfl, hb3⟩ := hrel
                    have m0 : wr.cell? ⟨wo.heap.size, 0, none⟩ = some (.int .i64 (L k)) := (hb3.cell (p := ⟨wo.heap.size, 0, none⟩) (Nat.lt_succ_self _)).trans (by simp [go_sem])
                    have m1 : wr.cell? ⟨wo.heap.size, 1, none⟩ = some (.int .i64 (N k)) := (hb3.cell (p := ⟨wo.heap.size, 1, none⟩) (Nat.lt_succ_self _)).trans (by simp [go_sem])
                    have m2 : wr.cell? ⟨wo.heap.size, 2, none⟩ = some (.int .u32 (V k)) := (hb3.cell (p := ⟨wo.heap.size, 2, none⟩) (Nat.lt_succ_self _)).trans (by simp [go_sem])
                    have hz : wo.heap.size + 1 ≤ wr.heap.size := by have := hb3.size; simpa using this
                    have hw3 : Below w.heap.size w wr := (hbl.alloc hbl.size _).trans (hb3.mono (by have := hbl.size; omega))
                    by_cases hlq : q < len
                    ·
                      have g0 : wr.cell? ⟨b, off + q * 3, none⟩ = some (.int .i64 (L q)) := (hw3.cell (by exact hbB)).trans (hc0 q hlq)
                      have g1 : wr.cell? ⟨b, off + q * 3 + 1, none⟩ = some (.int .i64 (N q)) := (hw3.cell (by exact hbB)).trans (hc1 q hlq)
                      have g2 : wr.cell? ⟨b, off + q * 3 + 2, none⟩ = some (.int .u32 (V q)) := (hw3.cell (by exact hbB)).trans (hc2 q hlq)
                      have hB : Below (wo.heap.size + 1) (wo.alloc (.cells #[.int .i64 (L k), .int .i64 (N k), .int .u32 (V k)] 35)) (wr.alloc (.cells #[.int .i64 (L q), .int .i64 (N q), .int .u32 (V q)] 35)) := hb3.alloc hz _
                      have hne : ∀ o, (wr.alloc (.cells #[.int .i64 (L q), .int .i64 (N q), .int .u32 (V q)] 35)).cell? ⟨wo.heap.size, o, none⟩ = wr.cell? ⟨wo.heap.size, o, none⟩ := fun o => World.cell?_alloc_past _ _ _ hz
                      clear hc0 hc1 hc2 hbl hw3 hV
                      go_wp2
                      go_quiet (fail)
                      go_wp2
                      go_roundw
                      case rel => exact ⟨q + 1, by omega, by go_num, rfl, below_drewN hB _⟩
                      case measure => simp [intOf]; omega
                    · clear hc0 hc1 hc2 hV
                      go_wp2
                      go_quiet (fail)
                      go_wp2
                      go_roundw
                      case rel => exact ⟨k + 1, by omega, by go_num, below_drewN hw3 _⟩
                      case measure => simp [intOf]; omega
              · go_wp2
                go_loopw [9, 10] (fun f j w3 => ∃ q : Nat, q ≤ len ∧ j = .int .i64 q ∧ f = .bool false ∧ Below (wo.heap.size + 1) (wo.alloc (.cells #[.int .i64 (L k), .int .i64 (N k), .int .u32 (V k)] 35)) w3) (fun _ j _ => len - (intOf j).toNat)
                case atStart => exact ⟨0, Nat.zero_le _, rfl, rfl, Below.refl _ _⟩
                case round =>
                  obtain ⟨q, hq, rfl, rfl, hb3⟩ := hrel
                  have m0 : wr.cell? ⟨wo.heap.size, 0, none⟩ = some (.int .i64 (L k)) := (hb3.cell (p := ⟨wo.heap.size, 0, none⟩) (Nat.lt_succ_self _)).trans (by simp [go_sem])
                  have m1 : wr.cell? ⟨wo.heap.size, 1, none⟩ = some (.int .i64 (N k)) := (hb3.cell (p := ⟨wo.heap.size, 1, none⟩) (Nat.lt_succ_self _)).trans (by simp [go_sem])
                  have m2 : wr.cell? ⟨wo.heap.size, 2, none⟩ = some (.int .u32 (V k)) := (hb3.cell (p := ⟨wo.heap.size, 2, none⟩) (Nat.lt_succ_self _)).trans (by simp [go_sem])
                  have hz : wo.heap.size + 1 ≤ wr.heap.size := by have := hb3.size; simpa using this
                  have hw3 : Below w.heap.size w wr := (hbl.alloc hbl.size _).trans (hb3.mono (by have := hbl.size; omega))
                  by_cases hlq : q < len
                  ·
                    have g0 : wr.cell? ⟨b, off + q * 3, none⟩ = some (.int .i64 (L q)) := (hw3.cell (by exact hbB)).trans (hc0 q hlq)
                    have g1 : wr.cell? ⟨b, off + q * 3 + 1, none⟩ = some (.int .i64 (N q)) := (hw3.cell (by exact hbB)).trans (hc1 q hlq)
                    have g2 : wr.cell? ⟨b, off + q * 3 + 2, none⟩ = some (.int .u32 (V q)) := (hw3.cell (by exact hbB)).trans (hc2 q hlq)
                    have hB : Below (wo.heap.size + 1) (wo.alloc (.cells #[.int .i64 (L k), .int .i64 (N k), .int .u32 (V k)] 35)) (wr.alloc (.cells #[.int .i64 (L q), .int .i64 (N q), .int .u32 (V q)] 35)) := hb3.alloc hz _
                    have hne : ∀ o, (wr.alloc (.cells #[.int .i64 (L q), .int .i64 (N q), .int .u32 (V q)] 35)).cell? ⟨wo.heap.size, o, none⟩ = wr.cell? ⟨wo.heap.size, o, none⟩ := fun o => World.cell?_alloc_past _ _ _ hz
                    clear hc0 hc1 hc2 hbl hw3 hV
                    go_wp2
                    go_quiet (fail)
                    go_wp2
                    go_roundw
                    case rel => exact ⟨q + 1, by omega, by go_num, rfl, below_drewN hB _⟩
                    case measure => simp [intOf]; omega
                  · clear hc0 hc1 hc2 hV
                    go_wp2
                    go_quiet (fail)
                    go_wp2
                    go_roundw
                    case rel => exact ⟨k + 1, by omega, by go_num, below_drewN hw3 _⟩
                    case measure => simp [intOf]; omega
            · go_wp2
              go_loopw [9, 10] (fun f j w3 => ∃ q : Nat, q ≤ len ∧ j = .int .i64 q ∧ f = .bool false ∧ Below (wo.heap.size + 1) (wo.alloc (.cells #[.int .i64 (L k), .int .i64 (N k), .int .u32 (V k)] 35)) w3) (fun _ j _ => len - (intOf j).toNat)
              case atStart => exact ⟨0, Nat.zero_le _, rfl, rfl, Below.refl _ _⟩
              case round =>
                obtain ⟨q, hq, rfl, rfl, hb3⟩ := hrel
                have m0 : wr.cell? ⟨wo.heap.size, 0, none⟩ = some (.int .i64 (L k)) := (hb3.cell (p := ⟨wo.heap.size, 0, none⟩) (Nat.lt_succ_self _)).trans (by simp [go_sem])
                have m1 : wr.cell? ⟨wo.heap.size, 1, none⟩ = some (.int .i64 (N k)) := (hb3.cell (p := ⟨wo.heap.size, 1, none⟩) (Nat.lt_succ_self _)).trans (by simp [go_sem])
                have m2 : wr.cell? ⟨wo.heap.size, 2, none⟩ = some (.int .u32 (V k)) := (hb3.cell (p := ⟨wo.heap.size, 2, none⟩) (Nat.lt_succ_self _)).trans (by simp [go_sem])
                have hz : wo.heap.size + 1 ≤ wr.heap.size := by have := hb3.size; simpa using this
                have hw3 : Below w.heap.size w wr := (hbl.alloc hbl.size _).trans (hb3.mono (by have := hbl.size; omega))
                by_cases hlq : q < len
                ·
                  have g0 : wr.cell? ⟨b, off + q * 3, none⟩ = some (.int .i64 (L q)) := (hw3.cell (by exact hbB)).trans (hc0 q hlq)
                  have g1 : wr.cell? ⟨b, off + q * 3 + 1, none⟩ = some (.int .i64 (N q)) := (hw3.cell (by exact hbB)).trans (hc1 q hlq)
                  have g2 : wr.cell? ⟨b, off + q * 3 + 2, none⟩ = some (.int .u32 (V q)) := (hw3.cell (by exact hbB)).trans (hc2 q hlq)
                  have hB : Below (wo.heap.size + 1) (wo.alloc (.cells #[.int .i64 (L k), .int .i64 (N k), .int .u32 (V k)] 35)) (wr.alloc (.cells #[.int .i64 (L q), .int .i64 (N q), .int .u32 (V q)] 35)) := hb3.alloc hz _
                  have hne : ∀ o, (wr.alloc (.cells #[.int .i64 (L q), .int .i64 (N q), .int .u32 (V q)] 35)).cell? ⟨wo.heap.size, o, none⟩ = wr.cell? ⟨wo.heap.size, o, none⟩ := fun o => World.cell?_alloc_past _ _ _ hz
                  clear hc0 hc1 hc2 hbl hw3 hV
                  go_wp2
                  go_quiet (fail)
                  go_wp2
                  go_roundw
                  case rel => exact ⟨q + 1, by omega, by go_num, rfl, below_drewN hB _⟩
                  case measure => simp [intOf]; omega
                · clear hc0 hc1 hc2 hV
                  go_wp2
                  go_quiet (fail)
                  go_wp2
                  go_roundw
                  case rel => exact ⟨k + 1, by omega, by go_num, below_drewN hw3 _⟩
                  case measure => simp [intOf]; omega
          · go_wp2
            go_loopw [9, 10] (fun f j w3 => ∃ q : Nat, q ≤ len ∧ j = .int .i64 q ∧ f = .bool false ∧ Below (wo.heap.size + 1) (wo.alloc (.cells #[.int .i64 (L k), .int .i64 (N k), .int .u32 (V k)] 35)) w3) (fun _ j _ => len - (intOf j).toNat)
            case atStart => exact ⟨0, Nat.zero_le _, rfl, rfl, Below.refl _ _⟩
            case round =>
              obtain ⟨q, hq, rfl, rfl, hb3⟩ := hrel
              have m0 : wr.cell? ⟨wo.heap.size, 0, none⟩ = some (.int .i64 (L k)) := (hb3.cell (p := ⟨wo.heap.size, 0, none⟩) (Nat.lt_succ_self _)).trans (by simp [go_sem])
              have m1 : wr.cell? ⟨wo.heap.size, 1, none⟩ = some (.int .i64 (N k)) := (hb3.cell (p := ⟨wo.heap.size, 1, none⟩) (Nat.lt_succ_self _)).trans (by simp [go_sem])
              have m2 : wr.cell? ⟨wo.heap.size, 2, none⟩ = some (.int .u32 (V k)) := (hb3.cell (p := ⟨wo.heap.size, 2, none⟩) (Nat.lt_succ_self _)).trans (by simp [go_sem])
              have hz : wo.heap.size + 1 ≤ wr.heap.size := by have := hb3.size; simpa using this
              have hw3 : Below w.heap.size w wr := (hbl.alloc hbl.size _).trans (hb3.mono (by have := hbl.size; omega))
              by_cases hlq : q < len
              ·
                have g0 : wr.cell? ⟨b, off + q * 3, none⟩ = some (.int .i64 (L q)) := (hw3.cell (by exact hbB)).trans (hc0 q hlq)
                have g1 : wr.cell? ⟨b, off + q * 3 + 1, none⟩ = some (.int .i64 (N q)) := (hw3.cell (by exact hbB)).trans (hc1 q hlq)
                have g2 : wr.cell? ⟨b, off + q * 3 + 2, none⟩ = some (.int .u32 (V q)) := (hw3.cell (by exact hbB)).trans (hc2 q hlq)
                have hB : Below (wo.heap.size + 1) (wo.alloc (.cells #[.int .i64 (L k), .int .i64 (N k), .int .u32 (V k)] 35)) (wr.alloc (.cells #[.int .i64 (L q), .int .i64 (N q), .int .u32 (V q)] 35)) := hb3.alloc hz _
                have hne : ∀ o, (wr.alloc (.cells #[.int .i64 (L q), .int .i64 (N q), .int .u32 (V q)] 35)).cell? ⟨wo.heap.size, o, none⟩ = wr.cell? ⟨wo.heap.size, o, none⟩ := fun o => World.cell?_alloc_past _ _ _ hz
                clear hc0 hc1 hc2 hbl hw3 hV
                go_wp2
                go_quiet (fail)
                go_wp2
                go_roundw
                case rel => exact ⟨q + 1, by omega, by go_num, rfl, below_drewN hB _⟩
                case measure => simp [intOf]; omega
              · clear hc0 hc1 hc2 hV
                go_wp2
                go_quiet (fail)
                go_wp2
                go_roundw
                case rel => exact ⟨k + 1, by omega, by go_num, below_drewN hw3 _⟩
                case measure => simp [intOf]; omega
        · have hk' : len = k := by omega
          subst hk'
          go_wp2
          go_ret
          exact ⟨rfl, hbl⟩
end Go.Proofs.Ythnifmcemmaeeaa
