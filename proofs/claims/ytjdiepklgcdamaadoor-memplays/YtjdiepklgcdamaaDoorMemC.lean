/- Parts of a line. -/
import Derived.Test.YtjdiepklgcdamaaDoorMemB
namespace Go.Proofs.YtjdiepklgcdamaaDoor
open Go.ChangeShapes Go.WideShapes Go.ChangeAt Go.RowKit
set_option linter.unusedVariables false
set_option linter.unusedSimpArgs false

def W.part (L : Nat → Int) (A : Nat) (s : Int) : Int := bif W.al A s then W.pt (L (A % 16 / 4)) A s else 0
theorem al_size {A : Nat} {s : Int} (h : W.al A s = true) : 1 ≤ s ∧ s ≤ 4 := by
  rcases W.al_cases A s h with h | h | h | h | h | h | h <;> omega

theorem part_k (L : Nat → Int) (A k : Nat) (s : Int) (w : World) (hA : A < 4294967296) (ha : W.al A s = true) (hk : A % 16 / 4 = k) (hk4 : k = 0 ∨ k = 1 ∨ k = 2 ∨ k = 3) : Calls Tryd.prog 26 #[lineV L, .int .u32 (A : Int), .int .i64 s] w fun e w' => e = .returned (.int .u32 (W.part L A s)) ∧ Below w.heap.size w w' := by
  have hr : Hid (W.part L A s = W.bitsOf (L k) (A % 4 * 8 : Int) (s * 8)) := by
    have : W.part L A s = W.bitsOf (L k) (A % 4 * 8 : Int) (s * 8) := by simp [W.part, ha, hk, W.pt]
    exact this
  obtain ⟨s1, s2⟩ := al_size ha
  unfold lineV
  rcases hk4 with rfl | rfl | rfl | rfl
  all_goals
    go_enter Tryd.func26, Tryd.ntmps26
    go_wp2_with (first
      | (go_at_call 36; refine (aligned_any _ _ _ hA).mono ?_; rw [ha]; rintro e w' ⟨rfl, rfl⟩)
      | (go_at_call 38; refine (mplace_any _ _ _ hA hk).mono ?_; rintro e w' ⟨rfl, rfl⟩)
      | (go_at_call 39; refine (bits_any _ _ _ _).mono ?_; rintro e w' ⟨rfl, k, rfl⟩))
    go_ret
    exact ⟨ret_int hr.out.symm, below_drewN ((Below.refl _ _).alloc (Nat.le_refl _) _) _⟩
theorem part_no (L : Nat → Int) (A : Nat) (s : Int) (w : World) (hA : A < 4294967296) (ha : W.al A s = false) : Calls Tryd.prog 26 #[lineV L, .int .u32 (A : Int), .int .i64 s] w fun e w' => e = .returned (.int .u32 (W.part L A s)) ∧ Below w.heap.size w w' := by
  have hr : Hid (W.part L A s = 0) := by
    have : W.part L A s = 0 := by simp [W.part, ha]
    exact this
  unfold lineV
  go_enter Tryd.func26, Tryd.ntmps26
  go_wp2_with (go_at_call 36; refine (aligned_any _ _ _ hA).mono ?_; rw [ha]; rintro e w' ⟨rfl, rfl⟩)
  go_ret
  exact ⟨ret_int hr.out.symm, ((Below.refl _ _).alloc (Nat.le_refl _) _)⟩
theorem part_any (L : Nat → Int) (A : Nat) (s : Int) (w : World) (hA : A < 4294967296) : Calls Tryd.prog 26 #[lineV L, .int .u32 (A : Int), .int .i64 s] w fun e w' => e = .returned (.int .u32 (W.part L A s)) ∧ Below w.heap.size w w' := by
  cases ha : W.al A s
  · exact part_no L A s w hA ha
  · exact part_k L A _ s w hA ha rfl (by omega)

def W.wl (L : Nat → Int) (A : Nat) (s v : Int) : Nat → Int := fun j => bif W.al A s then (if j = A % 16 / 4 then W.wr (L j) A s v else L j) else L j

theorem pack1 (low n v : Int) : W.pack (fun _ => low) (fun _ => n) (fun _ => v) 1 = W.placed v low n := by
  have h := W.pack_succ (fun _ => low) (fun _ => n) (fun _ => v) 0 (by simp [W.pack]) (by simp [W.pack])
  rw [← h]
  have hp := W.placed_lt v low n
  show bits .or .u32 0 _ = _
  rw [u32_or 0 _ (by decide) (by decide) hp.1 hp.2]
  simp
  omega
theorem pack1_any (low n v : Int) (b : Nat) (w : World) (hq : w.heap[b]? = some (.cells #[.int .i64 low, .int .i64 n, .int .u32 v] 77)) : Calls Tryd.prog 40 #[.slice (some ⟨b, 0, none⟩) 1 1] w fun e w' => e = .returned (.int .u32 (W.placed v low n)) ∧ Below w.heap.size w w' := by
  rw [← pack1]
  refine pack_any b 0 1 1 (fun _ => low) (fun _ => n) (fun _ => v) _ (by decide) ((Array.getElem?_eq_some_iff.1 hq).1) ?_ ?_ ?_
  all_goals
    intro j hj
    match j, hj with
    | 0, _ => simp [World.cell?, hq]

/-- A line of its own in block b. -/
structure Ln (b : Nat) (L : Nat → Int) (w : World) : Prop where
  out : w.heap[b]? = some (.cells #[.int .u32 (L 0), .int .u32 (L 1), .int .u32 (L 2), .int .u32 (L 3)] 38)
theorem Ln.lt {b : Nat} {L : Nat → Int} {w : World} (h : Ln b L w) : b < w.heap.size := (Array.getElem?_eq_some_iff.1 h.out).1
theorem Ln.cells {b : Nat} {L : Nat → Int} {w : World} (h : Ln b L w) : w.cell? ⟨b, 0, none⟩ = some (.int .u32 (L 0)) ∧ w.cell? ⟨b, 1, none⟩ = some (.int .u32 (L 1)) ∧ w.cell? ⟨b, 2, none⟩ = some (.int .u32 (L 2)) ∧ w.cell? ⟨b, 3, none⟩ = some (.int .u32 (L 3)) ∧ ∀ j, w.frozen? ⟨b, j, none⟩ = false := by
  have e := h.out
  simp only [World.cell?, World.frozen?, e]
  simp
theorem Ln.below {b : Nat} {L : Nat → Int} {w w' : World} (h : Ln b L w) (hb : Below w.heap.size w w') : Ln b L w' := ⟨(hb.block b h.lt).trans h.out⟩
theorem Ln.kept {b d : Nat} {L : Nat → Int} {w w' : World} (h : Ln b L w) (hg : w.grownBy w' (some d)) (hne : b ≠ d) : Ln b L w' := ⟨(hg.block b h.lt (by simpa using hne)).trans h.out⟩
theorem Ln.new (L : Nat → Int) (w : World) : Ln w.heap.size L (w.alloc (.cells #[.int .u32 (L 0), .int .u32 (L 1), .int .u32 (L 2), .int .u32 (L 3)] 38)) := ⟨heap_alloc_new w _⟩
theorem Ln.alloc {b : Nat} {L : Nat → Int} {w : World} (h : Ln b L w) (o : Obj) : Ln b L (w.alloc o) := h.below ((Below.refl _ _).alloc (Nat.le_refl _) _)

theorem heap_at (w : World) (o : Obj) (b : Nat) (hb : b = w.heap.size) : (w.alloc o).heap[b]? = some o := by
  subst hb
  exact heap_alloc_new w o
theorem heap_atd (w : World) (o : Obj) (b : Nat) (hb : b = w.heap.size) : (w.alloc o).drew.heap[b]? = some o := heap_at w o b hb
theorem da_below {w2 w3 : World} {o : Obj} (b3 : Below (w2.alloc o).drew.heap.size (w2.alloc o).drew w3) : Below w2.heap.size w2 w3 :=
  ((Below.refl w2.heap.size w2).alloc (Nat.le_refl _) o).drew.trans (b3.mono (by show _ ≤ (w2.alloc o).heap.size; simp))

theorem with_no (L : Nat → Int) (A : Nat) (s v : Int) (w : World) (hA : A < 4294967296) (ha : W.al A s = false) : Calls Tryd.prog 27 #[lineV L, .int .u32 (A : Int), .int .i64 s, .int .u32 v] w fun e w' => e = .returned (lineV (W.wl L A s v)) ∧ Below w.heap.size w w' := by
  have hr : Hid (W.wl L A s v = L) := by
    have : W.wl L A s v = L := by funext j; simp [W.wl, ha]
    exact this
  unfold lineV
  go_enter Tryd.func27, Tryd.ntmps27
  go_wp2_with (go_at_call 36; refine (aligned_any _ _ _ hA).mono ?_; rw [ha]; rintro e w' ⟨rfl, rfl⟩)
  exact bodyPost_ret (v := lineV L) (by simp [results, Tryd.results27, go_sem, lineV]) rfl ⟨by rw [hr.out]; rfl, ((Below.refl _ _).alloc (Nat.le_refl _) _).alloc (by simp) _⟩

end Go.Proofs.YtjdiepklgcdamaaDoor
