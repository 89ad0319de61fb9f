/- NewMemory of the document. -/
import Derived.Test.YtjdiepklgcdamaaDoorMemV
namespace Go.Proofs.YtjdiepklgcdamaaDoor
open Go.ChangeShapes Go.WideShapes Go.ChangeAt Go.RowKit
set_option linter.unusedVariables false
set_option linter.unusedSimpArgs false

theorem make_bytes (m : Nat) (hn : m ≤ 65536) (w : World) : (Instr.makeSlice 49 (.int .i64 (m : Int)) (.int .i64 (m : Int))).run Tryd.prog w = .ok (.slice (some ⟨w.heap.size, 0, none⟩) m m) (w.alloc (.cells (madeCells #[.int .u8 0] m) 5)) := by
  obtain ⟨i, hi, hzz⟩ := Option.map_eq_some_iff.1 (show (Tryd.prog.info? 5).map (fun i => (i.zero, i.size, i.bytes)) = some (some (.int .u8 0), 1, 1) by kernel_rfl)
  simp only [Prod.mk.injEq] at hzz
  obtain ⟨hz, hs, hb⟩ := hzz
  have hr := run_make (P := Tryd.prog) w 49 5 i _ Tryd.underlying49 hi hz .i64 .i64 m m (by omega) (Int.le_refl _) (by rw [hb]; omega) (by omega)
  simp only [Int.toNat_natCast, hs, Nat.mul_one] at hr
  exact hr
theorem byte_zero (a : Nat) : W.byte (fun _ => 0) a = 0 := by
  unfold W.byte
  rw [byte_eq 0 a (by decide) (by decide)]
  simp
theorem RAt.made (n m : Nat) (w : World) (n1 : 1 ≤ n) (n2 : n ≤ 4096) (hm : 16 * n = m) : RAt (w.heap.size + 1) w.heap.size n (fun _ => 0) ((w.alloc (.cells (madeCells #[.int .u8 0] m) 5)).alloc (.cells #[.slice (some ⟨w.heap.size, 0, none⟩) m m] 51)) := by
  subst hm
  refine ⟨heap_at _ _ _ (by simp), ⟨_, (((Below.refl (w.heap.size + 1) _).alloc (by simp) _).block w.heap.size (by omega)).trans (heap_alloc_new w _), size_madeCells _ _, fun a ha => ?_⟩, by omega, n1, n2, fun _ => by decide⟩
  rw [byte_zero]
  simp only [madeCells]
  rw [Array.getElem?_map, Array.getElem?_range]
  simp [ha, Nat.mod_one]
theorem store_at (n k : Nat) (f : Nat → Int) (v : Int) (hr : ∀ j, 0 ≤ f j ∧ f j < 4294967296) (v0 : 0 ≤ v) (v1 : v < 4294967296) (hk : k < 4 * n) : W.stored n f (4 * k) 4 v = fun j => if j = k then v else f j := by
  have := store_word n (k / 4) (k % 4) f v hr v0 v1 (by omega) (by omega)
  rw [show k / 4 * 16 + 4 * (k % 4) = 4 * k by omega, show k / 4 * 4 + k % 4 = k by omega] at this
  exact this
theorem init_next (n k : Nat) (u : Nat → Int) (hu : ∀ j, 0 ≤ u j ∧ u j < 4294967296) (hk : k < 4 * n) : W.stored n (W.init k u) (4 * k) 4 (u k) = W.init (k + 1) u := by
  rw [store_at n k _ _ (init_rg hu k) (hu k).1 (hu k).2 hk]
  funext j
  exact (init_succ k u j (Nat.lt_succ_self j)).symm

theorem rnew_range (bytes : Int) (a : Option Addr) (k cap : Nat) (w : World) (h : bytes < 16 ∨ 65536 < bytes ∨ ¬ bytes % 16 = 0) : Calls Tryd.prog 10 #[.int .i64 bytes, .slice a k cap] w fun e w' => e = .returned (.tuple #[.pointer none, .int .i64 106]) ∧ w = w' := by
  by_cases h1 : bytes < 16
  · clear h
    go_enter Tryd.func10, Tryd.ntmps10
    go_wp2
    exact bodyPost_ret (v := .tuple #[.pointer none, .int .i64 106]) (by simp [results, Tryd.results10, go_sem]) rfl ⟨rfl, rfl⟩
  by_cases h2 : 65536 < bytes
  · clear h
    go_enter Tryd.func10, Tryd.ntmps10
    go_wp2
    exact bodyPost_ret (v := .tuple #[.pointer none, .int .i64 106]) (by simp [results, Tryd.results10, go_sem]) rfl ⟨rfl, rfl⟩
  have h3 : (bytes % 16 == 0) = false := by
    have : ¬ bytes % 16 = 0 := by omega
    simpa using this
  have h4 : (bytes % 16 != 0) = true := by
    have : ¬ bytes % 16 = 0 := by omega
    simpa using this
  have h5 : bytes.tmod 16 = bytes % 16 := Int.tmod_eq_emod_of_nonneg (by omega)
  clear h
  go_enter Tryd.func10, Tryd.ntmps10
  go_wp2
  exact bodyPost_ret (v := .tuple #[.pointer none, .int .i64 106]) (by simp [results, Tryd.results10, go_sem]) rfl ⟨rfl, rfl⟩
theorem rnew_many (n : Nat) (bytes : Int) (a : Option Addr) (k cap : Nat) (w : World) (hb : bytes = 16 * n) (n1 : 1 ≤ n) (n2 : n ≤ 4096) (hk : 4 * n < k) (hk2 : k ≤ 2000) : Calls Tryd.prog 10 #[.int .i64 bytes, .slice a k cap] w fun e w' => e = .returned (.tuple #[.pointer none, .int .i64 101]) ∧ w = w' := by
  have e1 : bytes % 16 = 0 := by omega
  have e3 : bytes / 4 = 4 * n := by omega
  have e4 : ¬ bytes < 16 := by omega
  have e5 : ¬ 65536 < bytes := by omega
  have e6 : (4 * n : Int) < k := by omega
  go_enter Tryd.func10, Tryd.ntmps10
  go_wp2
  exact bodyPost_ret (v := .tuple #[.pointer none, .int .i64 101]) (by simp [results, Tryd.results10, go_sem]) rfl ⟨rfl, rfl⟩

set_option maxHeartbeats 1600000 in
theorem rnew_k (n m : Nat) (ba off k cap : Nat) (a : Option Addr) (u : Nat → Int) (w : World) (hm : 16 * n = m) (n1 : 1 ≤ n) (n2 : n ≤ 4096) (hk : k ≤ 4 * n) (ha : 0 < k → a = some ⟨ba, off, none⟩ ∧ ba < w.heap.size) (hu : ∀ j, j < k → w.cell? ⟨ba, off + j, none⟩ = some (.int .u32 (u j))) (hur : ∀ j, 0 ≤ u j ∧ u j < 4294967296) : Calls Tryd.prog 10 #[.int .i64 (m : Int), .slice a k cap] w fun e w' => e = .returned (.tuple #[.pointer (some ⟨w.heap.size + 1, 0, none⟩), .int .i64 0]) ∧ RAt (w.heap.size + 1) w.heap.size n (W.init k u) w' ∧ Below w.heap.size w w' := by
  have hmk := make_bytes m (by omega)
  have e1 : (m : Int) % 16 = 0 := by omega
  have e3 : (m : Int) / 4 = 4 * n := by omega
  have e4 : ¬ (m : Int) < 16 := by omega
  have e5 : ¬ 65536 < (m : Int) := by omega
  have e6 : ¬ (4 * n : Int) < k := by omega
  have z1 : decide ((m : Int) < 16) = false := by simp; omega
  have z2 : decide (65536 < (m : Int)) = false := by simp; omega
  have z3 : decide ((4 * n : Int) < k) = false := by simp; omega
  have hM := RAt.made n m w n1 n2 hm
  have bM : Below w.heap.size w ((w.alloc (.cells (madeCells #[.int .u8 0] m) 5)).alloc (.cells #[.slice (some ⟨w.heap.size, 0, none⟩) m m] 51)) := ((Below.refl _ _).alloc (Nat.le_refl _) _).alloc (by simp) _
  go_enter Tryd.func10, Tryd.ntmps10
  go_wp2
  generalize hW : World.alloc (World.alloc w _) _ = W1 at *
  clear hW
  go_loopw [7] (fun i wr => ∃ j : Nat, j ≤ k ∧ i = .int .i64 j ∧ RAt (w.heap.size + 1) w.heap.size n (W.init j u) wr ∧ Below w.heap.size w wr) (fun i _ => k - (intOf i).toNat)
  case atStart => exact ⟨0, Nat.zero_le _, rfl, hM, bM⟩
  case round =>
    clear hM bM
    obtain ⟨j, hj, rfl, hM, hB⟩ := hrel
    by_cases hlt : j < k
    · obtain ⟨rfl, hba⟩ := ha (by omega)
      have hc := (hB.cell (p := ⟨ba, off + j, none⟩) hba).trans (hu j hlt)
      go_wp2_with fail
      refine (rstore_l hM _ (4 * j) _ _ true (hur j).1 (hur j).2 (by omega) (by omega) (W.has_in n _ 4 (W.al_4 _ (by omega)) (by omega))).mono ?_
      rintro e w' ⟨rfl, r4, r5⟩
      go_wp2
      go_roundw
      case rel => exact ⟨j + 1, by omega, by go_num, by rw [← init_next n j u hur (by omega)]; exact r4, hB.grown r5 hB.size (fun x hx => by cases hx; exact Nat.le_refl _)⟩
      case measure => simp [intOf]; omega
    · have hk' : k = j := by omega
      subst hk'
      go_wp2
      exact bodyPost_ret (v := .tuple #[.pointer (some ⟨w.heap.size + 1, 0, none⟩), .int .i64 0]) (by simp [results, Tryd.results10, go_sem]) rfl ⟨rfl, hM, hB⟩
end Go.Proofs.YtjdiepklgcdamaaDoor
