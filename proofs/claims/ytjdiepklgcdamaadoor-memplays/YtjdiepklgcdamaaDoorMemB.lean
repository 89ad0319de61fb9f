/- A memory: where it lies; what the calls that only look answer. -/
import Derived.Test.YtjdiepklgcdamaaDoorMemA
namespace Go.Proofs.YtjdiepklgcdamaaDoor
open Go.ChangeShapes Go.WideShapes Go.ChangeAt Go.RowKit
set_option linter.unusedVariables false
set_option linter.unusedSimpArgs false

def W.has (n : Nat) (A : Nat) (s : Int) : Bool := W.al A s && decide (A < 16 * n)

/-- The memory of n lines with the words f: its head lies in block b, its lines in block c. -/
structure MAt (b c n cap : Nat) (f : Nat → Int) (w : World) : Prop where
  hd : w.heap[b]? = some (.cells #[.slice (some ⟨c, 0, none⟩) n cap] 65)
  row : ∃ cs : Array Value, w.heap[c]? = some (.cells cs 38) ∧ n * 4 ≤ cs.size ∧ ∀ j, j < n * 4 → cs[j]? = some (.int .u32 (f j))
  ne : b ≠ c
  n1 : 1 ≤ n
  n2 : n ≤ 4096
  rg : ∀ j, 0 ≤ f j ∧ f j < 4294967296

theorem MAt.lt {b c n cap : Nat} {f : Nat → Int} {w : World} (h : MAt b c n cap f w) : b < w.heap.size ∧ c < w.heap.size := by
  obtain ⟨cs, h1, _⟩ := h.row
  exact ⟨(Array.getElem?_eq_some_iff.1 h.hd).1, (Array.getElem?_eq_some_iff.1 h1).1⟩
theorem MAt.head {b c n cap : Nat} {f : Nat → Int} {w : World} (h : MAt b c n cap f w) : w.cell? ⟨b, 0, none⟩ = some (.slice (some ⟨c, 0, none⟩) n cap) := by
  simp [World.cell?, h.hd]
theorem MAt.word {b c n cap : Nat} {f : Nat → Int} {w : World} (h : MAt b c n cap f w) (j : Nat) (hj : j < n * 4) : w.cell? ⟨c, j, none⟩ = some (.int .u32 (f j)) := by
  obtain ⟨cs, h1, h2, h3⟩ := h.row
  simp [World.cell?, h1, h3 j hj]
theorem MAt.frz {b c n cap : Nat} {f : Nat → Int} {w : World} (h : MAt b c n cap f w) (j : Nat) : w.frozen? ⟨c, j, none⟩ = false := by
  obtain ⟨cs, h1, h2, h3⟩ := h.row
  simp [World.frozen?, h1]
theorem MAt.line {b c n cap : Nat} {f : Nat → Int} {w : World} (h : MAt b c n cap f w) (i : Nat) (hi : i < n) :
    w.cell? ⟨c, i * 4, none⟩ = some (.int .u32 (f (i * 4))) ∧ w.cell? ⟨c, i * 4 + 1, none⟩ = some (.int .u32 (f (i * 4 + 1))) ∧ w.cell? ⟨c, i * 4 + 2, none⟩ = some (.int .u32 (f (i * 4 + 2))) ∧ w.cell? ⟨c, i * 4 + 3, none⟩ = some (.int .u32 (f (i * 4 + 3))) := by
  exact ⟨h.word _ (by omega), h.word _ (by omega), h.word _ (by omega), h.word _ (by omega)⟩
theorem MAt.below {b c n cap : Nat} {f : Nat → Int} {w w' : World} (h : MAt b c n cap f w) (hb : Below w.heap.size w w') : MAt b c n cap f w' := by
  obtain ⟨cs, h1, h2, h3⟩ := h.row
  exact ⟨(hb.block b h.lt.1).trans h.hd, ⟨cs, (hb.block c h.lt.2).trans h1, h2, h3⟩, h.ne, h.n1, h.n2, h.rg⟩
theorem MAt.kept {b c n cap d : Nat} {f : Nat → Int} {w w' : World} (h : MAt b c n cap f w) (hg : w.grownBy w' (some d)) (h1 : b ≠ d) (h2 : c ≠ d) : MAt b c n cap f w' := by
  obtain ⟨cs, h3, h4, h5⟩ := h.row
  exact ⟨(hg.block b h.lt.1 (by simpa using h1)).trans h.hd, ⟨cs, (hg.block c h.lt.2 (by simpa using h2)).trans h3, h4, h5⟩, h.ne, h.n1, h.n2, h.rg⟩
theorem MAt.congr {b c n cap : Nat} {f g : Nat → Int} {w : World} (h : MAt b c n cap f w) (e : ∀ j, j < n * 4 → g j = f j) (hr : ∀ j, 0 ≤ g j ∧ g j < 4294967296) : MAt b c n cap g w := by
  obtain ⟨cs, h1, h2, h3⟩ := h.row
  exact ⟨h.hd, ⟨cs, h1, h2, fun j hj => by rw [e j hj]; exact h3 j hj⟩, h.ne, h.n1, h.n2, hr⟩

theorem bytes_any (b c n cap : Nat) (f : Nat → Int) (w : World) (h : MAt b c n cap f w) : Calls Tryd.prog 12 #[.pointer (some ⟨b, 0, none⟩)] w fun e w' => e = .returned (.int .i64 ((16 * n : Nat) : Int)) ∧ w = w' := by
  have hh := h.head
  have n2 := h.n2
  go_enter Tryd.func12, Tryd.ntmps12
  go_wp2
  go_ret
  exact ⟨ret_int (by omega), rfl⟩

theorem has_any (b c n cap : Nat) (f : Nat → Int) (A : Nat) (s : Int) (w : World) (hA : A < 4294967296) (h : MAt b c n cap f w) : Calls Tryd.prog 22 #[.pointer (some ⟨b, 0, none⟩), .int .u32 (A : Int), .int .i64 s] w fun e w' => e = .returned (.bool (W.has n A s)) ∧ w = w' := by
  have n2 := h.n2
  cases ha : W.al A s
  · have hr : Hid (W.has n A s = false) := by
      have : W.has n A s = false := by simp [W.has, ha]
      exact this
    go_enter Tryd.func22, Tryd.ntmps22
    go_wp2_with (go_at_call 36; refine (aligned_any _ _ _ hA).mono ?_; rw [ha]; rintro e w' ⟨rfl, rfl⟩)
    go_ret
    exact ⟨ret_bool hr.out.symm, rfl⟩
  · have hr : Hid (W.has n A s = decide ((A : Int) < ((16 * n : Nat) : Int))) := by
      have : W.has n A s = decide ((A : Int) < ((16 * n : Nat) : Int)) := by simp [W.has, ha]; omega
      exact this
    go_enter Tryd.func22, Tryd.ntmps22
    go_wp2_with (first
      | (go_at_call 36; refine (aligned_any _ _ _ hA).mono ?_; rw [ha]; rintro e w' ⟨rfl, rfl⟩)
      | (go_at_call 12; refine (bytes_any _ _ _ _ _ _ h).mono ?_; rintro e w' ⟨rfl, rfl⟩))
    go_ret
    exact ⟨ret_bool hr.out.symm, rfl⟩

theorem hasLine_any (b c n cap : Nat) (f : Nat → Int) (i : Int) (w : World) (h : MAt b c n cap f w) : Calls Tryd.prog 35 #[.pointer (some ⟨b, 0, none⟩), .int .i64 i] w fun e w' => e = .returned (.bool (decide (0 ≤ i ∧ i < n))) ∧ w = w' := by
  have hh := h.head
  have n2 := h.n2
  by_cases h0 : 0 ≤ i
  · go_enter Tryd.func35, Tryd.ntmps35
    go_wp2
    go_ret
    exact ⟨ret_bool (by simp [h0]), rfl⟩
  · go_enter Tryd.func35, Tryd.ntmps35
    go_wp2
    go_ret
    exact ⟨ret_bool (by simp; omega), rfl⟩

def lineV (L : Nat → Int) : Value := .agg #[.int .u32 (L 0), .int .u32 (L 1), .int .u32 (L 2), .int .u32 (L 3)]

theorem gset (w : World) (b o : Nat) (v : Value) : w.grownBy (w.setCell ⟨b, o, none⟩ v) (some b) :=
  ⟨rfl, rfl, rfl, by simp [World.setCell], fun k _ hne => Below.heap_setCell _ _ _ _ (by simpa using hne)⟩
theorem gtrans {a b c : World} {r : Option Nat} (h : a.grownBy b r) (k : b.grownBy c r) : a.grownBy c r :=
  ⟨k.os.trans h.os, k.tape.trans h.tape, k.output.trans h.output, Nat.le_trans h.size k.size, fun i hi hne => (k.block i (Nat.lt_of_lt_of_le hi h.size) hne).trans (h.block i hi hne)⟩
theorem gbelow {a b : World} {r : Option Nat} (h : Below a.heap.size a b) : a.grownBy b r := ⟨h.os, h.tape, h.output, h.size, fun k hk _ => h.block k hk⟩
theorem bset {B : Nat} {w0 w : World} (h : Below B w0 w) (hB : B ≤ w.heap.size) {b o : Nat} (v : Value) (hb : B ≤ b) : Below B w0 (w.setCell ⟨b, o, none⟩ v) :=
  h.grown (gset _ _ _ _) hB (fun k hk => by cases hk; exact hb)

theorem fresh4 (w : World) : (∀ j, j < 4 → (w.alloc (.cells #[.int .u32 0, .int .u32 0, .int .u32 0, .int .u32 0] 38)).cell? ⟨w.heap.size, j, none⟩ = some (.int .u32 0)) ∧ ∀ j, (w.alloc (.cells #[.int .u32 0, .int .u32 0, .int .u32 0, .int .u32 0] 38)).frozen? ⟨w.heap.size, j, none⟩ = false := by
  refine ⟨fun j hj => ?_, fun j => ?_⟩
  · match j, hj with
    | 0, _ => simp [go_sem]
    | 1, _ => simp [go_sem]
    | 2, _ => simp [go_sem]
    | 3, _ => simp [go_sem]
  · have e : (w.alloc (.cells #[.int .u32 0, .int .u32 0, .int .u32 0, .int .u32 0] 38)).heap[w.heap.size]? = some (.cells #[.int .u32 0, .int .u32 0, .int .u32 0, .int .u32 0] 38) := heap_alloc_new w _
    simp only [World.frozen?, e]
    simp

theorem line_in (b c n cap : Nat) (f : Nat → Int) (i : Nat) (w : World) (h : MAt b c n cap f w) (hi : i < n) : Calls Tryd.prog 20 #[.pointer (some ⟨b, 0, none⟩), .int .i64 (i : Int)] w fun e w' => e = .returned (.tuple #[lineV (fun j => f (i * 4 + j)), .bool true]) ∧ Below w.heap.size w w' := by
  have n2 := h.n2
  have e0 : decide (0 ≤ (i : Int) ∧ (i : Int) < n) = true := by simp; omega
  have hf := fresh4 w
  go_enter Tryd.func20, Tryd.ntmps20
  go_wp2_with (fail)
  generalize hW : World.alloc w _ = W1 at *
  have b1 : Below w.heap.size w W1 := by rw [← hW]; exact (Below.refl _ _).alloc (Nat.le_refl _) _
  have h1 := h.below b1
  have r0 := hf.1 0 (by decide)
  have r1 := hf.1 1 (by decide)
  have r2 := hf.1 2 (by decide)
  have r3 := hf.1 3 (by decide)
  have rz := hf.2
  have hh := h1.head
  obtain ⟨l0, l1, l2, l3⟩ := h1.line i hi
  have hl := h1.lt
  have hl2 := h.lt
  go_wp2_with (go_at_call 35; refine (hasLine_any _ _ _ _ _ _ _ h1).mono ?_; rw [e0]; rintro e w' ⟨rfl, rfl⟩)
  have hs : w.heap.size ≤ W1.heap.size := b1.size
  exact bodyPost_ret (v := .tuple #[lineV (fun j => f (i * 4 + j)), .bool true]) (by simp [results, Tryd.results20, go_sem, lineV, r0, r1, r2, r3]) rfl ⟨rfl, bset (bset (bset (bset b1 hs _ (Nat.le_refl _)) (by simpa [World.setCell] using hs) _ (Nat.le_refl _)) (by simpa [World.setCell] using hs) _ (Nat.le_refl _)) (by simpa [World.setCell] using hs) _ (Nat.le_refl _)⟩

theorem line_out (b c n cap : Nat) (f : Nat → Int) (i : Int) (w : World) (h : MAt b c n cap f w) (hi : ¬ (0 ≤ i ∧ i < n)) : Calls Tryd.prog 20 #[.pointer (some ⟨b, 0, none⟩), .int .i64 i] w fun e w' => e = .returned (.tuple #[lineV (fun _ => 0), .bool false]) ∧ Below w.heap.size w w' := by
  have n2 := h.n2
  have e0 : decide (0 ≤ i ∧ i < n) = false := by simpa using hi
  have h1 := h.below ((Below.refl _ _).alloc (Nat.le_refl _) (.cells #[.int .u32 0, .int .u32 0, .int .u32 0, .int .u32 0] 38))
  go_enter Tryd.func20, Tryd.ntmps20
  go_wp2_with (go_at_call 35; refine (hasLine_any _ _ _ _ _ _ _ h1).mono ?_; rw [e0]; rintro e w' ⟨rfl, rfl⟩)
  exact bodyPost_ret (v := .tuple #[lineV (fun _ => 0), .bool false]) (by simp [results, Tryd.results20, go_sem, lineV]) rfl ⟨rfl, (Below.refl _ _).alloc (Nat.le_refl _) _⟩
end Go.Proofs.YtjdiepklgcdamaaDoor
