/- Texts in one: RowsB, Ref. -/
import Derived.Test.YtopehmpjfndgjaaJ01
import Derived.Test.YtopehmpjfndgjaaJ03
import Derived.Test.YtopehmpjfndgjaaJ08
import Derived.Test.YtopehmpjfndgjaaJ30
/- The document's table in memory. -/
namespace Go.Proofs.Ytopehmpjfndgjaa
open Go.ChangeShapes Go.WideShapes Go.ChangeAt Go.RowKit
set_option linter.unusedVariables false
set_option linter.unusedSimpArgs false

namespace W
def ocL : List Int := [55, 23, 111, 103, 99, 99, 99, 99, 99, 99, 3, 3, 3, 3, 3, 35, 35, 35, 19, 19, 19, 19, 19, 19, 19, 19, 19, 51, 51, 51, 51, 51, 51, 51, 51, 51, 51, 15, 0, 0, 0, 0, 0, 115, 115, 115, 115, 115, 115, 115, 51, 51, 51, 51, 51, 51, 51, 51, 47, 47, 47, 47, 47, 47, 47, 47, 47, 47, 47]
def f3L : List Int := [0, 0, 0, 0, 0, 1, 4, 5, 6, 7, 0, 1, 2, 4, 5, 0, 1, 2, 0, 2, 3, 4, 6, 7, 1, 5, 5, 0, 0, 1, 2, 3, 4, 5, 5, 6, 7, 0, 0, 0, 0, 0, 0, 0, 1, 2, 3, 5, 6, 7, 0, 1, 2, 3, 4, 5, 6, 7, 2, 2, 2, 2, 2, 2, 2, 2, 2, 2, 2]
def f7L : List Int := [0, 0, 0, 0, 0, 0, 0, 0, 0, 0, 0, 0, 0, 0, 0, 0, 0, 0, 0, 0, 0, 0, 0, 0, 0, 0, 32, 0, 32, 0, 0, 0, 0, 0, 32, 0, 0, 0, 0, 0, 0, 0, 0, 9, 0, 0, 0, 0, 0, 0, 1, 1, 1, 1, 1, 1, 1, 1, 2, 3, 1, 0, 4, 12, 8, 16, 20, 24, 28]
def h3L : List Bool := [false, false, false, true, true, true, true, true, true, true, true, true, true, true, true, true, true, true, true, true, true, true, true, true, true, true, true, true, true, true, true, true, true, true, true, true, true, true, false, false, false, false, false, true, true, true, true, true, true, true, true, true, true, true, true, true, true, true, true, true, true, true, true, true, true, true, true, true, true]
def h7L : List Bool := [false, false, false, false, false, false, false, false, false, false, false, false, false, false, false, false, false, false, false, false, false, false, false, false, true, true, true, true, true, true, true, true, true, true, true, true, true, false, false, false, false, false, false, true, false, false, false, false, false, false, true, true, true, true, true, true, true, true, true, true, true, true, true, true, true, true, true, true, true]
def fmL : List Int := [85, 85, 74, 73, 66, 66, 66, 66, 66, 66, 73, 73, 73, 73, 73, 83, 83, 83, 73, 73, 73, 73, 73, 73, 90, 90, 90, 0, 0, 0, 0, 0, 0, 0, 0, 0, 0, 70, 0, 0, 0, 0, 0, 0, 0, 0, 0, 67, 67, 67, 0, 0, 0, 0, 0, 0, 0, 0, 0, 0, 0, 0, 0, 0, 0, 0, 0, 0, 0]
def whL : List Int := [0, 0, 0, 0, 0, 0, 0, 0, 0, 0, 0, 0, 0, 0, 0, 0, 0, 0, 0, 0, 0, 0, 0, 0, 0, 0, 0, 0, 0, 0, 0, 0, 0, 0, 0, 0, 0, 0, 4111, 115, 1048691, 807403635, 273678451, 0, 0, 0, 0, 0, 0, 0, 0, 0, 0, 0, 0, 0, 0, 0, 0, 0, 0, 0, 0, 0, 0, 0, 0, 0, 0]
/-- A row of the document's table. -/
structure Rw where
  op : Int
  name : List UInt8
  oc : Int
  f3 : Int
  f7 : Int
  h3 : Bool
  h7 : Bool
  fm : Int
  rd : Bool
  rs1 : Bool
  rs2 : Bool
  csr : Bool
  wh : Int
  pair : Bool
def rw (k : Nat) : Rw := ⟨(k : Int) + 1, nameAt (k + 1), ocL.getD k 0, f3L.getD k 0, f7L.getD k 0, h3L.getD k false, h7L.getD k false, fmL.getD k 0, (shp ((k : Int) + 1)).rd, (shp ((k : Int) + 1)).rs1, (shp ((k : Int) + 1)).rs2, (shp ((k : Int) + 1)).csr, whL.getD k 0, (shp ((k : Int) + 1)).ord⟩
end W
def rwA (r : W.Rw) : Array Value := #[.int .i64 r.op, .string ⟨r.name.toArray⟩, .int .u32 r.oc, .int .u32 r.f3, .int .u32 r.f7, .bool r.h3, .bool r.h7, .int .u8 r.fm, .bool r.rd, .bool r.rs1, .bool r.rs2, .bool r.csr, .int .u32 r.wh, .bool r.pair]
def rwV (r : W.Rw) : Value := .agg (rwA r)
theorem rowVals_eq : rowVals = (List.range 69).map fun k => rwV (W.rw k) := by kernel_rfl

/-- The table lies in block g. -/
structure Tb (g : Nat) (wc : World) : Prop where
  lt : g < wc.heap.size
  cells : ∀ k j, k < 69 → j < 14 → wc.cell? ⟨g, k * 14 + j, none⟩ = (rwA (W.rw k))[j]?
theorem Tb.below {g : Nat} {a b : World} (h : Tb g a) (hm : Below a.heap.size a b) : Tb g b :=
  ⟨Nat.lt_of_lt_of_le h.lt hm.size, fun k j hk hj => (hm.cell h.lt).trans (h.cells k j hk hj)⟩
theorem Tb.start (w : World) (t : TypeId) : Tb w.heap.size (w.alloc (.cells (rowVals.flatMap fun v => v.cells.toList).toArray t)) := by
  refine ⟨by simp, fun k j hk hj => ?_⟩
  have hs : ∀ v ∈ rowVals, v.cells.size = 14 := by
    have h : (rowVals.all fun v => v.cells.size == 14) = true := by kernel_rfl
    exact fun v hv => by simpa using List.all_eq_true.1 h v hv
  have e1 := Great.flat_get (s := 14) (by decide) rowVals hs (k * 14 + j)
  rw [show (k * 14 + j) / 14 = k by omega, show (k * 14 + j) % 14 = j by omega] at e1
  have e2 := cell_of_row _ _ (k * 14 + j) (rowVals.flatMap fun v => v.cells.toList).toArray t (0, 0) (heap_alloc_last w _)
  rw [e2, List.getElem?_toArray, e1, rowVals_eq]
  simp [hk]
  rfl
theorem rows_tb (w : World) : Calls Try.prog 42 #[] w fun e w' => ∃ g, e = .returned (.slice (some ⟨g, 0, none⟩) 69 69) ∧ Tb g w' ∧ Below w.heap.size w w' :=
  (rows_any w).mono fun e w' ⟨w1, hb, he, hw⟩ => ⟨w1.heap.size, he, by rw [hw]; exact Tb.start w1 _, by rw [hw]; exact hb.alloc hb.size _⟩

set_option maxRecDepth 100000 in
set_option maxHeartbeats 1600000 in
theorem of_none (op : Int) (h : ¬ (1 ≤ op ∧ op ≤ 69)) (w : World) : Calls Try.prog 31 #[.int .i64 op] w fun e w' => e = .returned (.tuple #[.agg #[.int .i64 0, .string ⟨#[]⟩, .int .u32 0, .int .u32 0, .int .u32 0, .bool false, .bool false, .int .u8 0, .bool false, .bool false, .bool false, .bool false, .int .u32 0, .bool false], .bool false]) ∧ Below w.heap.size w w' := by
  have hb : Below w.heap.size w w := Below.refl _ _
  by_cases h1 : op < 1
  · go_enter Try.func31, Try.ntmps31
    go_wp2
    exact bodyPost_ret (v := .tuple #[.agg #[.int .i64 0, .string ⟨#[]⟩, .int .u32 0, .int .u32 0, .int .u32 0, .bool false, .bool false, .int .u8 0, .bool false, .bool false, .bool false, .bool false, .int .u32 0, .bool false], .bool false]) (by simp [results, Try.results31, go_sem]) rfl ⟨rfl, by repeat (first | exact hb | exact hb.alloc hb.size _)⟩
  · have h2 : 69 < op := by omega
    clear h
    go_enter Try.func31, Try.ntmps31
    go_wp2
    exact bodyPost_ret (v := .tuple #[.agg #[.int .i64 0, .string ⟨#[]⟩, .int .u32 0, .int .u32 0, .int .u32 0, .bool false, .bool false, .int .u8 0, .bool false, .bool false, .bool false, .bool false, .int .u32 0, .bool false], .bool false]) (by simp [results, Try.results31, go_sem]) rfl ⟨rfl, by repeat (first | exact hb | exact hb.alloc hb.size _)⟩

theorem Tb.at {g : Nat} {wc : World} (h : Tb g wc) (j : Nat) (hj : j < 69) : ∃ r : W.Rw, W.rw j = r ∧ r.op = (j : Int) + 1 ∧ wc.cell? ⟨g, j * 14, none⟩ = some (.int .i64 r.op) ∧ wc.cell? ⟨g, j * 14 + 1, none⟩ = some (.string ⟨r.name.toArray⟩) ∧ wc.cell? ⟨g, j * 14 + 2, none⟩ = some (.int .u32 r.oc) ∧ wc.cell? ⟨g, j * 14 + 3, none⟩ = some (.int .u32 r.f3) ∧ wc.cell? ⟨g, j * 14 + 4, none⟩ = some (.int .u32 r.f7) ∧ wc.cell? ⟨g, j * 14 + 5, none⟩ = some (.bool r.h3) ∧ wc.cell? ⟨g, j * 14 + 6, none⟩ = some (.bool r.h7) ∧ wc.cell? ⟨g, j * 14 + 7, none⟩ = some (.int .u8 r.fm) ∧ wc.cell? ⟨g, j * 14 + 8, none⟩ = some (.bool r.rd) ∧ wc.cell? ⟨g, j * 14 + 9, none⟩ = some (.bool r.rs1) ∧ wc.cell? ⟨g, j * 14 + 10, none⟩ = some (.bool r.rs2) ∧ wc.cell? ⟨g, j * 14 + 11, none⟩ = some (.bool r.csr) ∧ wc.cell? ⟨g, j * 14 + 12, none⟩ = some (.int .u32 r.wh) ∧ wc.cell? ⟨g, j * 14 + 13, none⟩ = some (.bool r.pair) := by
  refine ⟨W.rw j, rfl, rfl, ?_⟩
  have c : ∀ i, i < 14 → wc.cell? ⟨g, j * 14 + i, none⟩ = (rwA (W.rw j))[i]? := fun i hi => h.cells j i hj hi
  exact ⟨c 0 (by decide), c 1 (by decide), c 2 (by decide), c 3 (by decide), c 4 (by decide), c 5 (by decide), c 6 (by decide), c 7 (by decide), c 8 (by decide), c 9 (by decide), c 10 (by decide), c 11 (by decide), c 12 (by decide), c 13 (by decide)⟩

set_option maxRecDepth 100000 in
set_option maxHeartbeats 6400000 in
theorem of_some (op : Int) (h1 : 1 ≤ op) (h2 : op ≤ 69) (w : World) : Calls Try.prog 31 #[.int .i64 op] w fun e w' => e = .returned (.tuple #[rwV (W.rw (op.toNat - 1)), .bool true]) ∧ Below w.heap.size w w' := by
  have hb : Below w.heap.size w w := Below.refl _ _
  go_enter Try.func31, Try.ntmps31
  go_wp2_with (go_at_call 42; refine (rows_tb _).mono ?_; rintro e w1 ⟨g, rfl, hT, hm⟩; have HT : Hid (Tb g w1) := hT; have HB : Hid (Below w.heap.size w w1) := (hb.alloc hb.size _).trans (hm.mono (by simp))
               have hlw : w.heap.size < w1.heap.size := by have := hm.size; simp at this; omega
               have z0 : w1.cell? ⟨w.heap.size, 0, none⟩ = some (.int .i64 0) := (hm.cell (by simp)).trans (by simp [go_sem])
               have z1 : w1.cell? ⟨w.heap.size, 1, none⟩ = some (.string ⟨#[]⟩) := (hm.cell (by simp)).trans (by simp [go_sem])
               have z2 : w1.cell? ⟨w.heap.size, 2, none⟩ = some (.int .u32 0) := (hm.cell (by simp)).trans (by simp [go_sem])
               have z3 : w1.cell? ⟨w.heap.size, 3, none⟩ = some (.int .u32 0) := (hm.cell (by simp)).trans (by simp [go_sem])
               have z4 : w1.cell? ⟨w.heap.size, 4, none⟩ = some (.int .u32 0) := (hm.cell (by simp)).trans (by simp [go_sem])
               have z5 : w1.cell? ⟨w.heap.size, 5, none⟩ = some (.bool false) := (hm.cell (by simp)).trans (by simp [go_sem])
               have z6 : w1.cell? ⟨w.heap.size, 6, none⟩ = some (.bool false) := (hm.cell (by simp)).trans (by simp [go_sem])
               have z7 : w1.cell? ⟨w.heap.size, 7, none⟩ = some (.int .u8 0) := (hm.cell (by simp)).trans (by simp [go_sem])
               have z8 : w1.cell? ⟨w.heap.size, 8, none⟩ = some (.bool false) := (hm.cell (by simp)).trans (by simp [go_sem])
               have z9 : w1.cell? ⟨w.heap.size, 9, none⟩ = some (.bool false) := (hm.cell (by simp)).trans (by simp [go_sem])
               have z10 : w1.cell? ⟨w.heap.size, 10, none⟩ = some (.bool false) := (hm.cell (by simp)).trans (by simp [go_sem])
               have z11 : w1.cell? ⟨w.heap.size, 11, none⟩ = some (.bool false) := (hm.cell (by simp)).trans (by simp [go_sem])
               have z12 : w1.cell? ⟨w.heap.size, 12, none⟩ = some (.int .u32 0) := (hm.cell (by simp)).trans (by simp [go_sem])
               have z13 : w1.cell? ⟨w.heap.size, 13, none⟩ = some (.bool false) := (hm.cell (by simp)).trans (by simp [go_sem])
               have hfz : ∀ j, w1.frozen? ⟨w.heap.size, j, none⟩ = false := fun j => by have e := (hm.block w.heap.size (by simp)).trans (heap_alloc_last w _); simp [World.frozen?, e]
               have hgl := hT.lt
               clear hm hT)
  go_loopw [5] (fun i wr => ∃ j : Nat, (j : Int) < op ∧ i = .int .i64 j ∧ wr = w1) (fun i _ => (69 - intOf i).toNat)
  case atStart => exact ⟨0, by omega, rfl, rfl⟩
  case round =>
    obtain ⟨j, hj, rfl, rfl⟩ := hrel
    have hj0 : (0 : Int) ≤ (j : Int) := by omega
    have hj1 : (j : Int) < 69 := by omega
    obtain ⟨r, hr, ho, c0, c1, c2, c3, c4, c5, c6, c7, c8, c9, c10, c11, c12, c13⟩ := HT.out.at j (by omega)
    have HR : Hid (W.rw j = r) := hr
    clear hr
    by_cases he : (j : Int) + 1 = op
    · have hop : Hid (op.toNat - 1 = j) := (by omega : op.toNat - 1 = j)
      have ho' : (r.op == op) = true := by rw [ho, he]; simp
      clear ho
      go_wp2
      have hB : Hid (Below w.heap.size w ((((((((((((((wr.setCell ⟨w.heap.size, 0, none⟩ (.int .i64 r.op)).setCell ⟨w.heap.size, 1, none⟩ (.string ⟨r.name.toArray⟩)).setCell ⟨w.heap.size, 2, none⟩ (.int .u32 r.oc)).setCell ⟨w.heap.size, 3, none⟩ (.int .u32 r.f3)).setCell ⟨w.heap.size, 4, none⟩ (.int .u32 r.f7)).setCell ⟨w.heap.size, 5, none⟩ (.bool r.h3)).setCell ⟨w.heap.size, 6, none⟩ (.bool r.h7)).setCell ⟨w.heap.size, 7, none⟩ (.int .u8 r.fm)).setCell ⟨w.heap.size, 8, none⟩ (.bool r.rd)).setCell ⟨w.heap.size, 9, none⟩ (.bool r.rs1)).setCell ⟨w.heap.size, 10, none⟩ (.bool r.rs2)).setCell ⟨w.heap.size, 11, none⟩ (.bool r.csr)).setCell ⟨w.heap.size, 12, none⟩ (.int .u32 r.wh)).setCell ⟨w.heap.size, 13, none⟩ (.bool r.pair))) :=
        ((((((((((((((HB.out.setCell (Nat.le_refl _) _).setCell (Nat.le_refl _) _).setCell (Nat.le_refl _) _).setCell (Nat.le_refl _) _).setCell (Nat.le_refl _) _).setCell (Nat.le_refl _) _).setCell (Nat.le_refl _) _).setCell (Nat.le_refl _) _).setCell (Nat.le_refl _) _).setCell (Nat.le_refl _) _).setCell (Nat.le_refl _) _).setCell (Nat.le_refl _) _).setCell (Nat.le_refl _) _).setCell (Nat.le_refl _) _)
      exact bodyPost_ret (v := .tuple #[rwV r, .bool true]) (by simp [results, Try.results31, go_sem, z0, z1, z2, z3, z4, z5, z6, z7, z8, z9, z10, z11, z12, z13, rwV, rwA]) rfl ⟨by rw [hop.out, HR.out], hB.out⟩
    · have ho' : (r.op == op) = false := by rw [ho]; simpa using he
      clear ho
      go_wp2
      go_roundw
      case rel => exact ⟨j + 1, by omega, by go_num, trivial⟩
      case measure => simp [intOf]; omega
end Go.Proofs.Ytopehmpjfndgjaa

/- What each of the document's own answers of chapter 1 returns: the same as the plain mirrors, for every word. -/
namespace Go.Proofs.Ytopehmpjfndgjaa
open Go.ChangeShapes Go.WideShapes Go.ChangeAt Go.RowKit
set_option linter.unusedVariables false

theorem ret_bool {a b : Bool} (h : a = b) : Ending.returned (.bool a) = .returned (.bool b) := by rw [h]

theorem rsign_any (a n : Int) (w : World) (a0 : 0 ≤ a) (a1 : a < 4294967296) :
    Calls Try.prog 57 #[.int .u32 a, .int .i64 n] w fun e w' => e = .returned (.int .u32 (W.sgn a n)) ∧ w = w' := by
  by_cases h1 : n < 1
  · go_enter Try.func57, Try.ntmps57
    go_wp2
    go_ret
    exact ⟨ret_int (by rw [W.sgn, if_pos h1]), rfl⟩
  · by_cases h2 : 31 < n
    · go_enter Try.func57, Try.ntmps57
      go_wp2
      go_ret
      exact ⟨ret_int (by rw [W.sgn, if_neg (by omega), if_pos (by omega)]), rfl⟩
    · have hA := W.and_low a n a0 a1 (by omega) (by omega)
      cases hT : (W.low a n / 2 ^ (n.toNat - 1) == 1)
      · have hR : Hid (W.low a n = W.sgn a n) := W.ref_sgn0 a n a0 a1 (by omega) (by omega) hT
        go_enter Try.func57, Try.ntmps57
        go_wp2
        all_goals
          go_ret
          exact ⟨ret_int hR.out, rfl⟩
      · have hR : Hid (bits .or .u32 (W.low a n) (bits .xor .u32 IntKind.u32.max ((2 ^ n.toNat - 1) % 4294967296)) = W.sgn a n) := W.ref_sgn1 a n a0 a1 (by omega) (by omega) hT
        go_enter Try.func57, Try.ntmps57
        go_wp2
        all_goals
          go_ret
          exact ⟨ret_int hR.out, rfl⟩

theorem rbits_any (a low n : Int) (w : World) (a0 : 0 ≤ a) (a1 : a < 4294967296) :
    Calls Try.prog 56 #[.int .u32 a, .int .i64 low, .int .i64 n] w fun e w' => e = .returned (.int .u32 (W.bitsOf a low n)) ∧ w = w' := by
  by_cases l0 : low < 0
  · go_enter Try.func56, Try.ntmps56
    go_wp2
    go_ret
    exact ⟨ret_int (W.bitsOf_out a low n (by omega)).symm, rfl⟩
  · by_cases l1 : 31 < low
    · go_enter Try.func56, Try.ntmps56
      go_wp2
      go_ret
      exact ⟨ret_int (W.bitsOf_out a low n (by omega)).symm, rfl⟩
    · by_cases n0 : n < 1
      · go_enter Try.func56, Try.ntmps56
        go_wp2
        go_ret
        exact ⟨ret_int (W.bitsOf_out a low n (by omega)).symm, rfl⟩
      · by_cases n1 : 32 ≤ n
        · go_enter Try.func56, Try.ntmps56
          go_wp2
          go_ret
          exact ⟨ret_int (W.bits_big a low n a0 a1 (by omega) (by omega) n1), rfl⟩
        · go_enter Try.func56, Try.ntmps56
          go_wp2
          go_ret
          exact ⟨ret_int (W.bits_small a low n a0 a1 (by omega) (by omega) (by omega) (by omega)), rfl⟩

end Go.Proofs.Ytopehmpjfndgjaa
