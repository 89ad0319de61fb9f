/- New of package mem, where it makes one. -/
import Derived.Test.YtjdiepklgcdamaaDoorMemF
namespace Go.Proofs.YtjdiepklgcdamaaDoor
open Go.ChangeShapes Go.WideShapes Go.ChangeAt Go.RowKit
set_option linter.unusedVariables false
set_option linter.unusedSimpArgs false

theorem make_lines (n : Nat) (hn : n ≤ 4096) (w : World) : (Instr.makeSlice 63 (.int .i64 (n : Int)) (.int .i64 (n : Int))).run Tryd.prog w = .ok (.slice (some ⟨w.heap.size, 0, none⟩) n n) (w.alloc (.cells (madeCells #[.int .u32 0, .int .u32 0, .int .u32 0, .int .u32 0] (n * 4)) 38)) := by
  obtain ⟨i, hi, hzz⟩ := Option.map_eq_some_iff.1 (show (Tryd.prog.info? 38).map (fun i => (i.zero, i.size, i.bytes)) = some (some (.agg #[.int .u32 0, .int .u32 0, .int .u32 0, .int .u32 0]), 4, 16) by kernel_rfl)
  simp only [Prod.mk.injEq] at hzz
  obtain ⟨hz, hs, hb⟩ := hzz
  have hr := run_make (P := Tryd.prog) w 63 38 i _ Tryd.underlying63 hi hz .i64 .i64 n n (by omega) (Int.le_refl _) (by rw [hb]; omega) (by omega)
  simp only [Int.toNat_natCast, hs] at hr
  exact hr

theorem made_at (n j : Nat) (hj : j < n * 4) : (madeCells #[.int .u32 0, .int .u32 0, .int .u32 0, .int .u32 0] (n * 4))[j]? = some (Value.int .u32 0) := by
  have h4 : j % 4 = 0 ∨ j % 4 = 1 ∨ j % 4 = 2 ∨ j % 4 = 3 := by omega
  simp only [madeCells]
  rw [Array.getElem?_map, Array.getElem?_range]
  rcases h4 with e | e | e | e <;> simp [hj, e]
theorem MAt.made (n : Nat) (w : World) (n1 : 1 ≤ n) (n2 : n ≤ 4096) : MAt (w.heap.size + 1) w.heap.size n n (fun _ => 0) ((w.alloc (.cells (madeCells #[.int .u32 0, .int .u32 0, .int .u32 0, .int .u32 0] (n * 4)) 38)).alloc (.cells #[.slice (some ⟨w.heap.size, 0, none⟩) n n] 65)) := by
  refine ⟨heap_at _ _ _ (by simp), ⟨_, (((Below.refl (w.heap.size + 1) _).alloc (by simp) _).block w.heap.size (by omega)).trans (heap_alloc_new w _), by rw [size_madeCells]; exact Nat.le_refl _, fun j hj => made_at n j hj⟩, by omega, n1, n2, fun _ => by decide⟩

def W.init (k : Nat) (u : Nat → Int) : Nat → Int := fun j => if j < k then u j else 0

theorem init_succ (j : Nat) (u : Nat → Int) (x : Nat) {m : Nat} (hx : x < m) : W.init (j + 1) u x = if x = j then u j else W.init j u x := by
  unfold W.init
  by_cases e : x = j
  · rw [if_pos e, if_pos (by omega), e]
  · rw [if_neg e]
    by_cases e2 : x < j
    · rw [if_pos e2, if_pos (by omega)]
    · rw [if_neg e2, if_neg (by omega)]
theorem init_rg {u : Nat → Int} (hur : ∀ j, 0 ≤ u j ∧ u j < 4294967296) (k x : Nat) : 0 ≤ W.init k u x ∧ W.init k u x < 4294967296 := by
  unfold W.init
  split
  · exact hur x
  · decide

theorem new_0 (n : Nat) (bytes : Int) (a : Option Addr) (cap : Nat) (w : World) (hb : bytes = 16 * n) (n1 : 1 ≤ n) (n2 : n ≤ 4096) : Calls Tryd.prog 9 #[.int .i64 bytes, .slice a 0 cap] w fun e w' => e = .returned (.tuple #[.pointer (some ⟨w.heap.size + 1, 0, none⟩), .nilIface]) ∧ MAt (w.heap.size + 1) w.heap.size n n (fun _ => 0) w' ∧ Below w.heap.size w w' := by
  have hmk := make_lines n n2
  have e1 : bytes % 16 = 0 := by omega
  have e2 : bytes / 16 = n := by omega
  have e3 : bytes / 4 = 4 * n := by omega
  have e4 : ¬ bytes < 16 := by omega
  have e5 : ¬ 65536 < bytes := by omega
  have hM := MAt.made n w n1 n2
  go_enter Tryd.func9, Tryd.ntmps9
  go_wp2
  refine wp_loop_rounds 1 ?_
  rw [rounds_succ]
  go_wp2
  exact bodyPost_ret (v := .tuple #[.pointer (some ⟨w.heap.size + 1, 0, none⟩), .nilIface]) (by simp [results, Tryd.results9, go_sem]) rfl ⟨rfl, hM, ((Below.refl _ _).alloc (Nat.le_refl _) _).alloc (by simp) _⟩

set_option maxHeartbeats 1600000 in
theorem new_k (n : Nat) (bytes : Int) (ba off k cap : Nat) (u : Nat → Int) (w : World) (hb : bytes = 16 * n) (n1 : 1 ≤ n) (n2 : n ≤ 4096) (hk : k ≤ 4 * n) (hba : ba < w.heap.size) (hu : ∀ j, j < k → w.cell? ⟨ba, off + j, none⟩ = some (.int .u32 (u j))) (hur : ∀ j, 0 ≤ u j ∧ u j < 4294967296) : Calls Tryd.prog 9 #[.int .i64 bytes, .slice (some ⟨ba, off, none⟩) k cap] w fun e w' => e = .returned (.tuple #[.pointer (some ⟨w.heap.size + 1, 0, none⟩), .nilIface]) ∧ MAt (w.heap.size + 1) w.heap.size n n (W.init k u) w' ∧ Below w.heap.size w w' := by
  have hmk := make_lines n n2
  have e1 : bytes % 16 = 0 := by omega
  have e2 : bytes / 16 = n := by omega
  have e3 : bytes / 4 = 4 * n := by omega
  have e4 : ¬ bytes < 16 := by omega
  have e5 : ¬ 65536 < bytes := by omega
  have e6 : ¬ (4 * n : Int) < k := by omega
  have hM := MAt.made n w n1 n2
  go_enter Tryd.func9, Tryd.ntmps9
  go_wp2
  have bM : Below w.heap.size w ((w.alloc (.cells (madeCells #[.int .u32 0, .int .u32 0, .int .u32 0, .int .u32 0] (n * 4)) 38)).alloc (.cells #[.slice (some ⟨w.heap.size, 0, none⟩) n n] 65)) := ((Below.refl _ _).alloc (Nat.le_refl _) _).alloc (by simp) _
  generalize hW : World.alloc (World.alloc w _) _ = W1 at *
  clear hW
  go_loopw [34] (fun i wr => ∃ j : Nat, j ≤ k ∧ i = .int .i64 j ∧ MAt (w.heap.size + 1) w.heap.size n n (W.init j u) wr ∧ Below w.heap.size w wr) (fun i _ => k - (intOf i).toNat)
  case atStart => exact ⟨0, Nat.zero_le _, rfl, hM, bM⟩
  case round =>
    clear hM bM
    obtain ⟨j, hj, rfl, hM, hB⟩ := hrel
    by_cases hlt : j < k
    · obtain ⟨p, hp⟩ : ∃ p, j / 4 = p := ⟨_, rfl⟩
      obtain ⟨q, hq⟩ : ∃ q, j % 4 = q := ⟨_, rfl⟩
      have hpz : (j : Int) / 4 = p := by omega
      have hqz : (j : Int) % 4 = q := by omega
      have hjp : p * 4 + q = j := by omega
      have hpn : p < n := by omega
      have hq4 : q < 4 := by omega
      have hd := hM.head
      have hw := hM.word j (by omega)
      have hz := hM.frz j
      have hc := (hB.cell (p := ⟨ba, off + j, none⟩) hba).trans (hu j hlt)
      go_wp2
      go_roundw
      case rel => exact ⟨j + 1, by omega, by go_num, (hM.set1 j (u j) (hur j).1 (hur j).2 (by omega)).congr (fun x hx => init_succ j u x hx) (init_rg hur (j + 1)), hB.setCell (p := ⟨w.heap.size, _, none⟩) (Nat.le_refl _) _⟩
      case measure => simp [intOf]; omega
    · have hk' : k = j := by omega
      subst hk'
      go_wp2
      exact bodyPost_ret (v := .tuple #[.pointer (some ⟨w.heap.size + 1, 0, none⟩), .nilIface]) (by simp [results, Tryd.results9, go_sem]) rfl ⟨rfl, hM, hB⟩
end Go.Proofs.YtjdiepklgcdamaaDoor
