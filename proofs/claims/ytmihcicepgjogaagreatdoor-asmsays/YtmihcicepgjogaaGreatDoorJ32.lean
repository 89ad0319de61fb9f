/- Texts in one: Re08, Re09, Re11, Re17. -/
import Derived.Test.YtmihcicepgjogaaGreatDoorJ30
/- The document's read, class 08. -/
namespace Go.Proofs.YtmihcicepgjogaaGreatDoor
open Go.ChangeShapes Go.WideShapes Go.ChangeAt Go.RowKit
set_option linter.unusedVariables false
set_option linter.unusedSimpArgs false

set_option maxRecDepth 100000 in
set_option maxHeartbeats 1600000 in
theorem read_08 (op : Int) (v : Value) (N : List Int) (A B C : Int) (base : Nat) (o1 : 25 ≤ op) (o2 : op ≤ 27) (hN : N.length ≤ 1000) (hA : Hid (N.getD 0 0 = A)) (hB : Hid (N.getD 1 0 = B)) (hC : Hid (N.getD 2 0 = C)) (w : World) (hown : w.ownsRow base 3 1 v N.length (N.map iV)) (hbase : base ≤ w.heap.size) :
    Calls Tryz.prog 37 #[.int .i64 op, v] w fun e w' => e = .returned (inV ⟨op, A, B, 0, 0, (C % 4294967296), false, false⟩) ∧ Below w.heap.size w w' := by
  have e1 : (op == 1) = false := by simp; omega
  have e2 : (op == 2) = false := by simp; omega
  have e3 : (op == 3) = false := by simp; omega
  have e4 : (op == 4) = false := by simp; omega
  have e38 : (op == 38) = false := by simp; omega
  have e44 : (op == 44) = false := by simp; omega
  have e59 : (op == 59) = false := by simp; omega
  have g11 : decide (11 ≤ op) = true := by simp; omega
  have g16 : decide (16 ≤ op) = true := by simp; omega
  have g5 : decide (5 ≤ op) = true := by simp; omega
  have g19 : decide (19 ≤ op) = true := by simp; omega
  have g28 : decide (28 ≤ op) = false := by simp; omega
  have g51 : decide (51 ≤ op) = false := by simp; omega
  have g45 : decide (45 ≤ op) = false := by simp; omega
  have g48 : decide (48 ≤ op) = false := by simp; omega
  have g60 : decide (60 ≤ op) = false := by simp; omega
  have l15 : decide (op ≤ 15) = false := by simp; omega
  have l18 : decide (op ≤ 18) = false := by simp; omega
  have l10 : decide (op ≤ 10) = false := by simp; omega
  have l27 : decide (op ≤ 27) = true := by simp; omega
  have l37 : decide (op ≤ 37) = true := by simp; omega
  have l58 : decide (op ≤ 58) = true := by simp; omega
  have l47 : decide (op ≤ 47) = true := by simp; omega
  have l50 : decide (op ≤ 50) = true := by simp; omega
  have l69 : decide (op ≤ 69) = true := by simp; omega
  obtain ⟨i0, hi, hz0, hz1, hz2⟩ := info_parts infoI64
  clear o1 o2
  go_enter Tryz.func37, Tryz.ntmps37
  go_wp2
  have hW0 : Below (w.heap.size + 1) (w.alloc (.cells #[.int .i64 0, .int .i64 0, .int .i64 0, .int .i64 0, .int .i64 0, .int .u32 0, .bool false, .bool false] 24)) (w.alloc (.cells #[.int .i64 0, .int .i64 0, .int .i64 0, .int .i64 0, .int .i64 0, .int .u32 0, .bool false, .bool false] 24)) := Below.refl _ _
  have hb0 : Below w.heap.size w (w.alloc (.cells #[.int .i64 0, .int .i64 0, .int .i64 0, .int .i64 0, .int .i64 0, .int .u32 0, .bool false, .bool false] 24)) := (Below.refl _ _).alloc (Nat.le_refl _) _
  have hr0 : (w.alloc (.cells #[.int .i64 0, .int .i64 0, .int .i64 0, .int .i64 0, .int .i64 0, .int .u32 0, .bool false, .bool false] 24)).heap[w.heap.size]? = some (.cells #[.int .i64 0, .int .i64 0, .int .i64 0, .int .i64 0, .int .i64 0, .int .u32 0, .bool false, .bool false] 24) := heap_alloc_new _ _
  have hown0 := hown.alloc (.cells #[.int .i64 0, .int .i64 0, .int .i64 0, .int .i64 0, .int .i64 0, .int .u32 0, .bool false, .bool false] 24)
  generalize hW1 : World.alloc w (.cells #[.int .i64 0, .int .i64 0, .int .i64 0, .int .i64 0, .int .i64 0, .int .u32 0, .bool false, .bool false] 24) = w1 at *
  have hs1 : w1.heap.size = w.heap.size + 1 := by rw [← hW1]; simp
  clear hW1 hown
  go_loopw [1] (fun v1 wr => ∃ (N1 : List Int) (b1 : Nat), Hid (∀ k, N1.getD k 0 = N.getD k 0) ∧ N1.length ≤ 1000 ∧ b1 ≤ wr.heap.size ∧ wr.ownsRow b1 3 1 v1 N1.length (N1.map iV) ∧ Below w1.heap.size w1 wr) (fun v1 _ => 3 - vlen v1)
  case atStart => exact ⟨N, base, fun _ => rfl, hN, by omega, hown0, Below.refl _ _⟩
  case round =>
    obtain ⟨N1, b1, hg, hn1, hb1, hown1, hbl⟩ := hrel
    have hone : ∀ u, u ∈ [iV 0] → u.oneCell' = true := by
      intro u hu; simp at hu; subst hu; rfl
    by_cases hlt : N1.length < 3
    · rcases hown1.2 with ⟨rfl, h0⟩ | ⟨g, cp, cur, rfl, hgb, hh, hnc, hcm, hcs, htk⟩
      · obtain rfl : N1 = [] := List.length_eq_zero_iff.1 h0
        go_wp2_with (first | (at_make; refine wpList_make_own _ rfl _ _ 47 rfl wr.heap.size 3 i0 (.int .i64 0) 1 Tryz.underlying47 hi hz0 hz1 .i64 .i64 _ 4 rfl rfl rfl (by rw [hz2]; omega) (by unfold maxLen; omega) (Nat.le_refl _) ?_; intro w5 hown5 hg5) | (have _q := hown5; at_builtin; refine wpList_append_own_spare _ rfl _ _ 47 rfl wr.heap.size 3 i0 1 Tryz.underlying47 hi hz1 wr.heap.size 0 4 [] rfl (hown5.alloc _) ⟨w5.heap.size, 0, none⟩ 1 1 [iV 0] rfl rfl (one_new w5 _ _) hone (by omega) ?_; intro w7 hown7 hg7))
        have hb5 : Below w1.heap.size w1 w5 := hbl.grown hg5 hbl.size (by intro k hk; cases hk)
        have hb7 : Below w1.heap.size w1 w7 := (hb5.alloc hb5.size _).grown hg7 (by have := hb5.size; simp; omega) (by intro k hk; cases hk; exact hbl.size)
        have hl7 := hown7.lt wr.heap.size rfl
        go_roundw
        case rel => exact ⟨[0], wr.heap.size, fun k => by rw [← hg.out k]; cases k <;> simp, by simp, by omega, hown7, hb7⟩
        case measure => simp [vlen]
      · have hcl := hown1.cells (g := g) rfl
        have hcl5 : ∀ w5, wr.grownBy w5 none → ∀ j u, (N1.map iV)[j]? = some u → w5.cell? ((⟨g, 0, none⟩ : Addr).add j) = some u := fun w5 hg5 j u hu => hg5.cell (hcl j u hu) (by simp)
        have Hcl5 : Hid (∀ w5, wr.grownBy w5 none → ∀ j u, (N1.map iV)[j]? = some u → w5.cell? ((⟨g, 0, none⟩ : Addr).add j) = some u) := hcl5
        have h1c : ∀ u ∈ N1.map iV, u.oneCell' = true := by
          intro u hu
          obtain ⟨x, _, rfl⟩ := List.mem_map.1 hu
          rfl
        clear hcl hcl5
        go_wp2_with (first | (at_make; refine wpList_make_own _ rfl _ _ 47 rfl wr.heap.size 3 i0 (.int .i64 0) 1 Tryz.underlying47 hi hz0 hz1 .i64 .i64 _ 4 rfl rfl rfl (by rw [hz2]; omega) (by unfold maxLen; omega) (Nat.le_refl _) ?_; intro w5 hown5 hg5) | (have _q := hown6; at_builtin; refine wpList_append_own_spare _ rfl _ _ 47 rfl wr.heap.size 3 i0 1 Tryz.underlying47 hi hz1 wr.heap.size N1.length 4 (N1.map iV) rfl (hown6.alloc _) ⟨w6.heap.size, 0, none⟩ 1 1 [iV 0] rfl rfl (one_new w6 _ _) hone (by omega) ?_; intro w7 hown7 hg7) | (at_builtin; refine wpList_append_own_spare _ rfl _ _ 47 rfl wr.heap.size 3 i0 1 Tryz.underlying47 hi hz1 wr.heap.size 0 4 [] rfl hown5 ⟨g, 0, none⟩ N1.length cp (N1.map iV) rfl (by simp) (Hcl5.out _ hg5) h1c (by omega) ?_; intro w6 hown6 hg6; rw [Nat.zero_add, List.nil_append] at hown6))
        have hb5 : Below w1.heap.size w1 w5 := hbl.grown hg5 hbl.size (by intro k hk; cases hk)
        have hb6 : Below w1.heap.size w1 w6 := hb5.grown hg6 hb5.size (by intro k hk; cases hk; exact hbl.size)
        have hb7 : Below w1.heap.size w1 w7 := (hb6.alloc hb6.size _).grown hg7 (by have := hb6.size; simp; omega) (by intro k hk; cases hk; exact hbl.size)
        have hl7 := hown7.lt wr.heap.size rfl
        go_roundw
        case rel => exact ⟨N1 ++ [0], wr.heap.size, fun k => by rw [← hg.out k]; exact getD_snoc N1 k, by simp; omega, by omega, by rw [List.map_append, List.length_append]; exact hown7, hb7⟩
        case measure => simp [vlen]; omega
    · rcases hown1.2 with ⟨rfl, h0⟩ | ⟨g, cp, cur, rfl, hgb, hh, hnc, hcm, hcs, htk⟩
      · exact absurd h0 (by omega)
      · have hcl := hown1.cells (g := g) rfl
        obtain ⟨x0, x1, x2, r, rfl⟩ := three_of N1 (by omega)
        obtain rfl : x0 = A := (hg.out 0).trans hA.out
        obtain rfl : x1 = B := (hg.out 1).trans hB.out
        obtain rfl : x2 = C := (hg.out 2).trans hC.out
        have k0 : wr.cell? ⟨g, 0, none⟩ = some (.int .i64 x0) := by simpa [Addr.add, iV] using hcl 0 (iV x0) rfl
        have k1 : wr.cell? ⟨g, 1, none⟩ = some (.int .i64 x1) := by simpa [Addr.add, iV] using hcl 1 (iV x1) rfl
        have k2 : wr.cell? ⟨g, 2, none⟩ = some (.int .i64 x2) := by simpa [Addr.add, iV] using hcl 2 (iV x2) rfl
        have hln : (3 : Int) ≤ ((x0 :: x1 :: x2 :: r).length : Int) := by simp; omega
        have hrr : wr.heap[w.heap.size]? = some (.cells #[.int .i64 0, .int .i64 0, .int .i64 0, .int .i64 0, .int .i64 0, .int .u32 0, .bool false, .bool false] 24) := (hbl.block _ (by omega)).trans hr0
        have hbw : Below w.heap.size w wr := hb0.trans (hbl.mono (by omega))
        have hgl : g < wr.heap.size := (Array.getElem?_eq_some_iff.1 hh).1
        have hwl : w.heap.size < wr.heap.size := by have := hbl.size; omega
        have f0 : wr.cell? ⟨w.heap.size, 0, none⟩ = some (.int .i64 0) := by simp [World.cell?, hrr]
        have z0 : wr.frozen? ⟨w.heap.size, 0, none⟩ = false := by simp [World.frozen?, hrr]
        have f1 : wr.cell? ⟨w.heap.size, 1, none⟩ = some (.int .i64 0) := by simp [World.cell?, hrr]
        have z1 : wr.frozen? ⟨w.heap.size, 1, none⟩ = false := by simp [World.frozen?, hrr]
        have f2 : wr.cell? ⟨w.heap.size, 2, none⟩ = some (.int .i64 0) := by simp [World.cell?, hrr]
        have z2 : wr.frozen? ⟨w.heap.size, 2, none⟩ = false := by simp [World.frozen?, hrr]
        have f3 : wr.cell? ⟨w.heap.size, 3, none⟩ = some (.int .i64 0) := by simp [World.cell?, hrr]
        have z3 : wr.frozen? ⟨w.heap.size, 3, none⟩ = false := by simp [World.frozen?, hrr]
        have f4 : wr.cell? ⟨w.heap.size, 4, none⟩ = some (.int .i64 0) := by simp [World.cell?, hrr]
        have z4 : wr.frozen? ⟨w.heap.size, 4, none⟩ = false := by simp [World.frozen?, hrr]
        have f5 : wr.cell? ⟨w.heap.size, 5, none⟩ = some (.int .u32 0) := by simp [World.cell?, hrr]
        have z5 : wr.frozen? ⟨w.heap.size, 5, none⟩ = false := by simp [World.frozen?, hrr]
        have f6 : wr.cell? ⟨w.heap.size, 6, none⟩ = some (.bool false) := by simp [World.cell?, hrr]
        have z6 : wr.frozen? ⟨w.heap.size, 6, none⟩ = false := by simp [World.frozen?, hrr]
        have f7 : wr.cell? ⟨w.heap.size, 7, none⟩ = some (.bool false) := by simp [World.cell?, hrr]
        have z7 : wr.frozen? ⟨w.heap.size, 7, none⟩ = false := by simp [World.frozen?, hrr]
        clear hcl hown1 hh htk hcs hcm hg hr0 hown0 hW0 hrr
        go_wp2
        refine bodyPost_ret (v := inV ⟨op, x0, x1, 0, 0, (x2 % 4294967296), false, false⟩) (by simp [results, Tryz.results37, go_sem, inV, *]) rfl ⟨rfl, ?_⟩
        exact Below.alloc ((((((((hbw.setCell (p := ⟨w.heap.size, 0, none⟩) (Nat.le_refl _) _).setCell (p := ⟨w.heap.size, 1, none⟩) (Nat.le_refl _) _).setCell (p := ⟨w.heap.size, 2, none⟩) (Nat.le_refl _) _).setCell (p := ⟨w.heap.size, 3, none⟩) (Nat.le_refl _) _).setCell (p := ⟨w.heap.size, 4, none⟩) (Nat.le_refl _) _).setCell (p := ⟨w.heap.size, 5, none⟩) (Nat.le_refl _) _).setCell (p := ⟨w.heap.size, 6, none⟩) (Nat.le_refl _) _).setCell (p := ⟨w.heap.size, 7, none⟩) (Nat.le_refl _) _) (by simp; omega) _

end Go.Proofs.YtmihcicepgjogaaGreatDoor

/- The document's read, class 09. -/
namespace Go.Proofs.YtmihcicepgjogaaGreatDoor
open Go.ChangeShapes Go.WideShapes Go.ChangeAt Go.RowKit
set_option linter.unusedVariables false
set_option linter.unusedSimpArgs false

set_option maxRecDepth 100000 in
set_option maxHeartbeats 1600000 in
theorem read_09 (op : Int) (v : Value) (N : List Int) (A B C : Int) (base : Nat) (o1 : 28 ≤ op) (o2 : op ≤ 37) (hN : N.length ≤ 1000) (hA : Hid (N.getD 0 0 = A)) (hB : Hid (N.getD 1 0 = B)) (hC : Hid (N.getD 2 0 = C)) (w : World) (hown : w.ownsRow base 3 1 v N.length (N.map iV)) (hbase : base ≤ w.heap.size) :
    Calls Tryz.prog 37 #[.int .i64 op, v] w fun e w' => e = .returned (inV ⟨op, A, B, C, 0, 0, false, false⟩) ∧ Below w.heap.size w w' := by
  have e1 : (op == 1) = false := by simp; omega
  have e2 : (op == 2) = false := by simp; omega
  have e3 : (op == 3) = false := by simp; omega
  have e4 : (op == 4) = false := by simp; omega
  have e38 : (op == 38) = false := by simp; omega
  have e44 : (op == 44) = false := by simp; omega
  have e59 : (op == 59) = false := by simp; omega
  have g11 : decide (11 ≤ op) = true := by simp; omega
  have g16 : decide (16 ≤ op) = true := by simp; omega
  have g5 : decide (5 ≤ op) = true := by simp; omega
  have g19 : decide (19 ≤ op) = true := by simp; omega
  have g28 : decide (28 ≤ op) = true := by simp; omega
  have g51 : decide (51 ≤ op) = false := by simp; omega
  have g45 : decide (45 ≤ op) = false := by simp; omega
  have g48 : decide (48 ≤ op) = false := by simp; omega
  have g60 : decide (60 ≤ op) = false := by simp; omega
  have l15 : decide (op ≤ 15) = false := by simp; omega
  have l18 : decide (op ≤ 18) = false := by simp; omega
  have l10 : decide (op ≤ 10) = false := by simp; omega
  have l27 : decide (op ≤ 27) = false := by simp; omega
  have l37 : decide (op ≤ 37) = true := by simp; omega
  have l58 : decide (op ≤ 58) = true := by simp; omega
  have l47 : decide (op ≤ 47) = true := by simp; omega
  have l50 : decide (op ≤ 50) = true := by simp; omega
  have l69 : decide (op ≤ 69) = true := by simp; omega
  obtain ⟨i0, hi, hz0, hz1, hz2⟩ := info_parts infoI64
  clear o1 o2
  go_enter Tryz.func37, Tryz.ntmps37
  go_wp2
  have hW0 : Below (w.heap.size + 1) (w.alloc (.cells #[.int .i64 0, .int .i64 0, .int .i64 0, .int .i64 0, .int .i64 0, .int .u32 0, .bool false, .bool false] 24)) (w.alloc (.cells #[.int .i64 0, .int .i64 0, .int .i64 0, .int .i64 0, .int .i64 0, .int .u32 0, .bool false, .bool false] 24)) := Below.refl _ _
  have hb0 : Below w.heap.size w (w.alloc (.cells #[.int .i64 0, .int .i64 0, .int .i64 0, .int .i64 0, .int .i64 0, .int .u32 0, .bool false, .bool false] 24)) := (Below.refl _ _).alloc (Nat.le_refl _) _
  have hr0 : (w.alloc (.cells #[.int .i64 0, .int .i64 0, .int .i64 0, .int .i64 0, .int .i64 0, .int .u32 0, .bool false, .bool false] 24)).heap[w.heap.size]? = some (.cells #[.int .i64 0, .int .i64 0, .int .i64 0, .int .i64 0, .int .i64 0, .int .u32 0, .bool false, .bool false] 24) := heap_alloc_new _ _
  have hown0 := hown.alloc (.cells #[.int .i64 0, .int .i64 0, .int .i64 0, .int .i64 0, .int .i64 0, .int .u32 0, .bool false, .bool false] 24)
  generalize hW1 : World.alloc w (.cells #[.int .i64 0, .int .i64 0, .int .i64 0, .int .i64 0, .int .i64 0, .int .u32 0, .bool false, .bool false] 24) = w1 at *
  have hs1 : w1.heap.size = w.heap.size + 1 := by rw [← hW1]; simp
  clear hW1 hown
  go_loopw [1] (fun v1 wr => ∃ (N1 : List Int) (b1 : Nat), Hid (∀ k, N1.getD k 0 = N.getD k 0) ∧ N1.length ≤ 1000 ∧ b1 ≤ wr.heap.size ∧ wr.ownsRow b1 3 1 v1 N1.length (N1.map iV) ∧ Below w1.heap.size w1 wr) (fun v1 _ => 3 - vlen v1)
  case atStart => exact ⟨N, base, fun _ => rfl, hN, by omega, hown0, Below.refl _ _⟩
  case round =>
    obtain ⟨N1, b1, hg, hn1, hb1, hown1, hbl⟩ := hrel
    have hone : ∀ u, u ∈ [iV 0] → u.oneCell' = true := by
      intro u hu; simp at hu; subst hu; rfl
    by_cases hlt : N1.length < 3
    · rcases hown1.2 with ⟨rfl, h0⟩ | ⟨g, cp, cur, rfl, hgb, hh, hnc, hcm, hcs, htk⟩
      · obtain rfl : N1 = [] := List.length_eq_zero_iff.1 h0
        go_wp2_with (first | (at_make; refine wpList_make_own _ rfl _ _ 47 rfl wr.heap.size 3 i0 (.int .i64 0) 1 Tryz.underlying47 hi hz0 hz1 .i64 .i64 _ 4 rfl rfl rfl (by rw [hz2]; omega) (by unfold maxLen; omega) (Nat.le_refl _) ?_; intro w5 hown5 hg5) | (have _q := hown5; at_builtin; refine wpList_append_own_spare _ rfl _ _ 47 rfl wr.heap.size 3 i0 1 Tryz.underlying47 hi hz1 wr.heap.size 0 4 [] rfl (hown5.alloc _) ⟨w5.heap.size, 0, none⟩ 1 1 [iV 0] rfl rfl (one_new w5 _ _) hone (by omega) ?_; intro w7 hown7 hg7))
        have hb5 : Below w1.heap.size w1 w5 := hbl.grown hg5 hbl.size (by intro k hk; cases hk)
        have hb7 : Below w1.heap.size w1 w7 := (hb5.alloc hb5.size _).grown hg7 (by have := hb5.size; simp; omega) (by intro k hk; cases hk; exact hbl.size)
        have hl7 := hown7.lt wr.heap.size rfl
        go_roundw
        case rel => exact ⟨[0], wr.heap.size, fun k => by rw [← hg.out k]; cases k <;> simp, by simp, by omega, hown7, hb7⟩
        case measure => simp [vlen]
      · have hcl := hown1.cells (g := g) rfl
        have hcl5 : ∀ w5, wr.grownBy w5 none → ∀ j u, (N1.map iV)[j]? = some u → w5.cell? ((⟨g, 0, none⟩ : Addr).add j) = some u := fun w5 hg5 j u hu => hg5.cell (hcl j u hu) (by simp)
        have Hcl5 : Hid (∀ w5, wr.grownBy w5 none → ∀ j u, (N1.map iV)[j]? = some u → w5.cell? ((⟨g, 0, none⟩ : Addr).add j) = some u) := hcl5
        have h1c : ∀ u ∈ N1.map iV, u.oneCell' = true := by
          intro u hu
          obtain ⟨x, _, rfl⟩ := List.mem_map.1 hu
          rfl
        clear hcl hcl5
        go_wp2_with (first | (at_make; refine wpList_make_own _ rfl _ _ 47 rfl wr.heap.size 3 i0 (.int .i64 0) 1 Tryz.underlying47 hi hz0 hz1 .i64 .i64 _ 4 rfl rfl rfl (by rw [hz2]; omega) (by unfold maxLen; omega) (Nat.le_refl _) ?_; intro w5 hown5 hg5) | (have _q := hown6; at_builtin; refine wpList_append_own_spare _ rfl _ _ 47 rfl wr.heap.size 3 i0 1 Tryz.underlying47 hi hz1 wr.heap.size N1.length 4 (N1.map iV) rfl (hown6.alloc _) ⟨w6.heap.size, 0, none⟩ 1 1 [iV 0] rfl rfl (one_new w6 _ _) hone (by omega) ?_; intro w7 hown7 hg7) | (at_builtin; refine wpList_append_own_spare _ rfl _ _ 47 rfl wr.heap.size 3 i0 1 Tryz.underlying47 hi hz1 wr.heap.size 0 4 [] rfl hown5 ⟨g, 0, none⟩ N1.length cp (N1.map iV) rfl (by simp) (Hcl5.out _ hg5) h1c (by omega) ?_; intro w6 hown6 hg6; rw [Nat.zero_add, List.nil_append] at hown6))
        have hb5 : Below w1.heap.size w1 w5 := hbl.grown hg5 hbl.size (by intro k hk; cases hk)
        have hb6 : Below w1.heap.size w1 w6 := hb5.grown hg6 hb5.size (by intro k hk; cases hk; exact hbl.size)
        have hb7 : Below w1.heap.size w1 w7 := (hb6.alloc hb6.size _).grown hg7 (by have := hb6.size; simp; omega) (by intro k hk; cases hk; exact hbl.size)
        have hl7 := hown7.lt wr.heap.size rfl
        go_roundw
        case rel => exact ⟨N1 ++ [0], wr.heap.size, fun k => by rw [← hg.out k]; exact getD_snoc N1 k, by simp; omega, by omega, by rw [List.map_append, List.length_append]; exact hown7, hb7⟩
        case measure => simp [vlen]; omega
    · rcases hown1.2 with ⟨rfl, h0⟩ | ⟨g, cp, cur, rfl, hgb, hh, hnc, hcm, hcs, htk⟩
      · exact absurd h0 (by omega)
      · have hcl := hown1.cells (g := g) rfl
        obtain ⟨x0, x1, x2, r, rfl⟩ := three_of N1 (by omega)
        obtain rfl : x0 = A := (hg.out 0).trans hA.out
        obtain rfl : x1 = B := (hg.out 1).trans hB.out
        obtain rfl : x2 = C := (hg.out 2).trans hC.out
        have k0 : wr.cell? ⟨g, 0, none⟩ = some (.int .i64 x0) := by simpa [Addr.add, iV] using hcl 0 (iV x0) rfl
        have k1 : wr.cell? ⟨g, 1, none⟩ = some (.int .i64 x1) := by simpa [Addr.add, iV] using hcl 1 (iV x1) rfl
        have k2 : wr.cell? ⟨g, 2, none⟩ = some (.int .i64 x2) := by simpa [Addr.add, iV] using hcl 2 (iV x2) rfl
        have hln : (3 : Int) ≤ ((x0 :: x1 :: x2 :: r).length : Int) := by simp; omega
        have hrr : wr.heap[w.heap.size]? = some (.cells #[.int .i64 0, .int .i64 0, .int .i64 0, .int .i64 0, .int .i64 0, .int .u32 0, .bool false, .bool false] 24) := (hbl.block _ (by omega)).trans hr0
        have hbw : Below w.heap.size w wr := hb0.trans (hbl.mono (by omega))
        have hgl : g < wr.heap.size := (Array.getElem?_eq_some_iff.1 hh).1
        have hwl : w.heap.size < wr.heap.size := by have := hbl.size; omega
        have f0 : wr.cell? ⟨w.heap.size, 0, none⟩ = some (.int .i64 0) := by simp [World.cell?, hrr]
        have z0 : wr.frozen? ⟨w.heap.size, 0, none⟩ = false := by simp [World.frozen?, hrr]
        have f1 : wr.cell? ⟨w.heap.size, 1, none⟩ = some (.int .i64 0) := by simp [World.cell?, hrr]
        have z1 : wr.frozen? ⟨w.heap.size, 1, none⟩ = false := by simp [World.frozen?, hrr]
        have f2 : wr.cell? ⟨w.heap.size, 2, none⟩ = some (.int .i64 0) := by simp [World.cell?, hrr]
        have z2 : wr.frozen? ⟨w.heap.size, 2, none⟩ = false := by simp [World.frozen?, hrr]
        have f3 : wr.cell? ⟨w.heap.size, 3, none⟩ = some (.int .i64 0) := by simp [World.cell?, hrr]
        have z3 : wr.frozen? ⟨w.heap.size, 3, none⟩ = false := by simp [World.frozen?, hrr]
        have f4 : wr.cell? ⟨w.heap.size, 4, none⟩ = some (.int .i64 0) := by simp [World.cell?, hrr]
        have z4 : wr.frozen? ⟨w.heap.size, 4, none⟩ = false := by simp [World.frozen?, hrr]
        have f5 : wr.cell? ⟨w.heap.size, 5, none⟩ = some (.int .u32 0) := by simp [World.cell?, hrr]
        have z5 : wr.frozen? ⟨w.heap.size, 5, none⟩ = false := by simp [World.frozen?, hrr]
        have f6 : wr.cell? ⟨w.heap.size, 6, none⟩ = some (.bool false) := by simp [World.cell?, hrr]
        have z6 : wr.frozen? ⟨w.heap.size, 6, none⟩ = false := by simp [World.frozen?, hrr]
        have f7 : wr.cell? ⟨w.heap.size, 7, none⟩ = some (.bool false) := by simp [World.cell?, hrr]
        have z7 : wr.frozen? ⟨w.heap.size, 7, none⟩ = false := by simp [World.frozen?, hrr]
        clear hcl hown1 hh htk hcs hcm hg hr0 hown0 hW0 hrr
        go_wp2
        refine bodyPost_ret (v := inV ⟨op, x0, x1, x2, 0, 0, false, false⟩) (by simp [results, Tryz.results37, go_sem, inV, *]) rfl ⟨rfl, ?_⟩
        exact Below.alloc ((((((((hbw.setCell (p := ⟨w.heap.size, 0, none⟩) (Nat.le_refl _) _).setCell (p := ⟨w.heap.size, 1, none⟩) (Nat.le_refl _) _).setCell (p := ⟨w.heap.size, 2, none⟩) (Nat.le_refl _) _).setCell (p := ⟨w.heap.size, 3, none⟩) (Nat.le_refl _) _).setCell (p := ⟨w.heap.size, 4, none⟩) (Nat.le_refl _) _).setCell (p := ⟨w.heap.size, 5, none⟩) (Nat.le_refl _) _).setCell (p := ⟨w.heap.size, 6, none⟩) (Nat.le_refl _) _).setCell (p := ⟨w.heap.size, 7, none⟩) (Nat.le_refl _) _) (by simp; omega) _

end Go.Proofs.YtmihcicepgjogaaGreatDoor

/- The document's read, class 11. -/
namespace Go.Proofs.YtmihcicepgjogaaGreatDoor
open Go.ChangeShapes Go.WideShapes Go.ChangeAt Go.RowKit
set_option linter.unusedVariables false
set_option linter.unusedSimpArgs false

set_option maxRecDepth 100000 in
set_option maxHeartbeats 1600000 in
theorem read_11 (op : Int) (v : Value) (N : List Int) (A B C : Int) (base : Nat) (o1 : 38 ≤ op) (o2 : op ≤ 38) (hN : N.length ≤ 1000) (hA : Hid (N.getD 0 0 = A)) (hB : Hid (N.getD 1 0 = B)) (hC : Hid (N.getD 2 0 = C)) (w : World) (hown : w.ownsRow base 3 1 v N.length (N.map iV)) (hbase : base ≤ w.heap.size) :
    Calls Tryz.prog 37 #[.int .i64 op, v] w fun e w' => e = .returned (inV ⟨op, 0, 0, 0, 0, (bits .or .u32 (A % 4294967296 * 16 % 4294967296) (bits .and .u32 (B % 4294967296) 15)), false, false⟩) ∧ Below w.heap.size w w' := by
  have e1 : (op == 1) = false := by simp; omega
  have e2 : (op == 2) = false := by simp; omega
  have e3 : (op == 3) = false := by simp; omega
  have e4 : (op == 4) = false := by simp; omega
  have e38 : (op == 38) = true := by simp; omega
  have e44 : (op == 44) = false := by simp; omega
  have e59 : (op == 59) = false := by simp; omega
  have g11 : decide (11 ≤ op) = true := by simp; omega
  have g16 : decide (16 ≤ op) = true := by simp; omega
  have g5 : decide (5 ≤ op) = true := by simp; omega
  have g19 : decide (19 ≤ op) = true := by simp; omega
  have g28 : decide (28 ≤ op) = true := by simp; omega
  have g51 : decide (51 ≤ op) = false := by simp; omega
  have g45 : decide (45 ≤ op) = false := by simp; omega
  have g48 : decide (48 ≤ op) = false := by simp; omega
  have g60 : decide (60 ≤ op) = false := by simp; omega
  have l15 : decide (op ≤ 15) = false := by simp; omega
  have l18 : decide (op ≤ 18) = false := by simp; omega
  have l10 : decide (op ≤ 10) = false := by simp; omega
  have l27 : decide (op ≤ 27) = false := by simp; omega
  have l37 : decide (op ≤ 37) = false := by simp; omega
  have l58 : decide (op ≤ 58) = true := by simp; omega
  have l47 : decide (op ≤ 47) = true := by simp; omega
  have l50 : decide (op ≤ 50) = true := by simp; omega
  have l69 : decide (op ≤ 69) = true := by simp; omega
  obtain ⟨i0, hi, hz0, hz1, hz2⟩ := info_parts infoI64
  clear o1 o2
  go_enter Tryz.func37, Tryz.ntmps37
  go_wp2
  have hW0 : Below (w.heap.size + 1) (w.alloc (.cells #[.int .i64 0, .int .i64 0, .int .i64 0, .int .i64 0, .int .i64 0, .int .u32 0, .bool false, .bool false] 24)) (w.alloc (.cells #[.int .i64 0, .int .i64 0, .int .i64 0, .int .i64 0, .int .i64 0, .int .u32 0, .bool false, .bool false] 24)) := Below.refl _ _
  have hb0 : Below w.heap.size w (w.alloc (.cells #[.int .i64 0, .int .i64 0, .int .i64 0, .int .i64 0, .int .i64 0, .int .u32 0, .bool false, .bool false] 24)) := (Below.refl _ _).alloc (Nat.le_refl _) _
  have hr0 : (w.alloc (.cells #[.int .i64 0, .int .i64 0, .int .i64 0, .int .i64 0, .int .i64 0, .int .u32 0, .bool false, .bool false] 24)).heap[w.heap.size]? = some (.cells #[.int .i64 0, .int .i64 0, .int .i64 0, .int .i64 0, .int .i64 0, .int .u32 0, .bool false, .bool false] 24) := heap_alloc_new _ _
  have hown0 := hown.alloc (.cells #[.int .i64 0, .int .i64 0, .int .i64 0, .int .i64 0, .int .i64 0, .int .u32 0, .bool false, .bool false] 24)
  generalize hW1 : World.alloc w (.cells #[.int .i64 0, .int .i64 0, .int .i64 0, .int .i64 0, .int .i64 0, .int .u32 0, .bool false, .bool false] 24) = w1 at *
  have hs1 : w1.heap.size = w.heap.size + 1 := by rw [← hW1]; simp
  clear hW1 hown
  go_loopw [1] (fun v1 wr => ∃ (N1 : List Int) (b1 : Nat), Hid (∀ k, N1.getD k 0 = N.getD k 0) ∧ N1.length ≤ 1000 ∧ b1 ≤ wr.heap.size ∧ wr.ownsRow b1 3 1 v1 N1.length (N1.map iV) ∧ Below w1.heap.size w1 wr) (fun v1 _ => 3 - vlen v1)
  case atStart => exact ⟨N, base, fun _ => rfl, hN, by omega, hown0, Below.refl _ _⟩
  case round =>
    obtain ⟨N1, b1, hg, hn1, hb1, hown1, hbl⟩ := hrel
    have hone : ∀ u, u ∈ [iV 0] → u.oneCell' = true := by
      intro u hu; simp at hu; subst hu; rfl
    by_cases hlt : N1.length < 3
    · rcases hown1.2 with ⟨rfl, h0⟩ | ⟨g, cp, cur, rfl, hgb, hh, hnc, hcm, hcs, htk⟩
      · obtain rfl : N1 = [] := List.length_eq_zero_iff.1 h0
        go_wp2_with (first | (at_make; refine wpList_make_own _ rfl _ _ 47 rfl wr.heap.size 3 i0 (.int .i64 0) 1 Tryz.underlying47 hi hz0 hz1 .i64 .i64 _ 4 rfl rfl rfl (by rw [hz2]; omega) (by unfold maxLen; omega) (Nat.le_refl _) ?_; intro w5 hown5 hg5) | (have _q := hown5; at_builtin; refine wpList_append_own_spare _ rfl _ _ 47 rfl wr.heap.size 3 i0 1 Tryz.underlying47 hi hz1 wr.heap.size 0 4 [] rfl (hown5.alloc _) ⟨w5.heap.size, 0, none⟩ 1 1 [iV 0] rfl rfl (one_new w5 _ _) hone (by omega) ?_; intro w7 hown7 hg7))
        have hb5 : Below w1.heap.size w1 w5 := hbl.grown hg5 hbl.size (by intro k hk; cases hk)
        have hb7 : Below w1.heap.size w1 w7 := (hb5.alloc hb5.size _).grown hg7 (by have := hb5.size; simp; omega) (by intro k hk; cases hk; exact hbl.size)
        have hl7 := hown7.lt wr.heap.size rfl
        go_roundw
        case rel => exact ⟨[0], wr.heap.size, fun k => by rw [← hg.out k]; cases k <;> simp, by simp, by omega, hown7, hb7⟩
        case measure => simp [vlen]
      · have hcl := hown1.cells (g := g) rfl
        have hcl5 : ∀ w5, wr.grownBy w5 none → ∀ j u, (N1.map iV)[j]? = some u → w5.cell? ((⟨g, 0, none⟩ : Addr).add j) = some u := fun w5 hg5 j u hu => hg5.cell (hcl j u hu) (by simp)
        have Hcl5 : Hid (∀ w5, wr.grownBy w5 none → ∀ j u, (N1.map iV)[j]? = some u → w5.cell? ((⟨g, 0, none⟩ : Addr).add j) = some u) := hcl5
        have h1c : ∀ u ∈ N1.map iV, u.oneCell' = true := by
          intro u hu
          obtain ⟨x, _, rfl⟩ := List.mem_map.1 hu
          rfl
        clear hcl hcl5
        go_wp2_with (first | (at_make; refine wpList_make_own _ rfl _ _ 47 rfl wr.heap.size 3 i0 (.int .i64 0) 1 Tryz.underlying47 hi hz0 hz1 .i64 .i64 _ 4 rfl rfl rfl (by rw [hz2]; omega) (by unfold maxLen; omega) (Nat.le_refl _) ?_; intro w5 hown5 hg5) | (have _q := hown6; at_builtin; refine wpList_append_own_spare _ rfl _ _ 47 rfl wr.heap.size 3 i0 1 Tryz.underlying47 hi hz1 wr.heap.size N1.length 4 (N1.map iV) rfl (hown6.alloc _) ⟨w6.heap.size, 0, none⟩ 1 1 [iV 0] rfl rfl (one_new w6 _ _) hone (by omega) ?_; intro w7 hown7 hg7) | (at_builtin; refine wpList_append_own_spare _ rfl _ _ 47 rfl wr.heap.size 3 i0 1 Tryz.underlying47 hi hz1 wr.heap.size 0 4 [] rfl hown5 ⟨g, 0, none⟩ N1.length cp (N1.map iV) rfl (by simp) (Hcl5.out _ hg5) h1c (by omega) ?_; intro w6 hown6 hg6; rw [Nat.zero_add, List.nil_append] at hown6))
        have hb5 : Below w1.heap.size w1 w5 := hbl.grown hg5 hbl.size (by intro k hk; cases hk)
        have hb6 : Below w1.heap.size w1 w6 := hb5.grown hg6 hb5.size (by intro k hk; cases hk; exact hbl.size)
        have hb7 : Below w1.heap.size w1 w7 := (hb6.alloc hb6.size _).grown hg7 (by have := hb6.size; simp; omega) (by intro k hk; cases hk; exact hbl.size)
        have hl7 := hown7.lt wr.heap.size rfl
        go_roundw
        case rel => exact ⟨N1 ++ [0], wr.heap.size, fun k => by rw [← hg.out k]; exact getD_snoc N1 k, by simp; omega, by omega, by rw [List.map_append, List.length_append]; exact hown7, hb7⟩
        case measure => simp [vlen]; omega
    · rcases hown1.2 with ⟨rfl, h0⟩ | ⟨g, cp, cur, rfl, hgb, hh, hnc, hcm, hcs, htk⟩
      · exact absurd h0 (by omega)
      · have hcl := hown1.cells (g := g) rfl
        obtain ⟨x0, x1, x2, r, rfl⟩ := three_of N1 (by omega)
        obtain rfl : x0 = A := (hg.out 0).trans hA.out
        obtain rfl : x1 = B := (hg.out 1).trans hB.out
        obtain rfl : x2 = C := (hg.out 2).trans hC.out
        have k0 : wr.cell? ⟨g, 0, none⟩ = some (.int .i64 x0) := by simpa [Addr.add, iV] using hcl 0 (iV x0) rfl
        have k1 : wr.cell? ⟨g, 1, none⟩ = some (.int .i64 x1) := by simpa [Addr.add, iV] using hcl 1 (iV x1) rfl
        have k2 : wr.cell? ⟨g, 2, none⟩ = some (.int .i64 x2) := by simpa [Addr.add, iV] using hcl 2 (iV x2) rfl
        have hln : (3 : Int) ≤ ((x0 :: x1 :: x2 :: r).length : Int) := by simp; omega
        have hrr : wr.heap[w.heap.size]? = some (.cells #[.int .i64 0, .int .i64 0, .int .i64 0, .int .i64 0, .int .i64 0, .int .u32 0, .bool false, .bool false] 24) := (hbl.block _ (by omega)).trans hr0
        have hbw : Below w.heap.size w wr := hb0.trans (hbl.mono (by omega))
        have hgl : g < wr.heap.size := (Array.getElem?_eq_some_iff.1 hh).1
        have hwl : w.heap.size < wr.heap.size := by have := hbl.size; omega
        have f0 : wr.cell? ⟨w.heap.size, 0, none⟩ = some (.int .i64 0) := by simp [World.cell?, hrr]
        have z0 : wr.frozen? ⟨w.heap.size, 0, none⟩ = false := by simp [World.frozen?, hrr]
        have f1 : wr.cell? ⟨w.heap.size, 1, none⟩ = some (.int .i64 0) := by simp [World.cell?, hrr]
        have z1 : wr.frozen? ⟨w.heap.size, 1, none⟩ = false := by simp [World.frozen?, hrr]
        have f2 : wr.cell? ⟨w.heap.size, 2, none⟩ = some (.int .i64 0) := by simp [World.cell?, hrr]
        have z2 : wr.frozen? ⟨w.heap.size, 2, none⟩ = false := by simp [World.frozen?, hrr]
        have f3 : wr.cell? ⟨w.heap.size, 3, none⟩ = some (.int .i64 0) := by simp [World.cell?, hrr]
        have z3 : wr.frozen? ⟨w.heap.size, 3, none⟩ = false := by simp [World.frozen?, hrr]
        have f4 : wr.cell? ⟨w.heap.size, 4, none⟩ = some (.int .i64 0) := by simp [World.cell?, hrr]
        have z4 : wr.frozen? ⟨w.heap.size, 4, none⟩ = false := by simp [World.frozen?, hrr]
        have f5 : wr.cell? ⟨w.heap.size, 5, none⟩ = some (.int .u32 0) := by simp [World.cell?, hrr]
        have z5 : wr.frozen? ⟨w.heap.size, 5, none⟩ = false := by simp [World.frozen?, hrr]
        have f6 : wr.cell? ⟨w.heap.size, 6, none⟩ = some (.bool false) := by simp [World.cell?, hrr]
        have z6 : wr.frozen? ⟨w.heap.size, 6, none⟩ = false := by simp [World.frozen?, hrr]
        have f7 : wr.cell? ⟨w.heap.size, 7, none⟩ = some (.bool false) := by simp [World.cell?, hrr]
        have z7 : wr.frozen? ⟨w.heap.size, 7, none⟩ = false := by simp [World.frozen?, hrr]
        clear hcl hown1 hh htk hcs hcm hg hr0 hown0 hW0 hrr
        go_wp2
        refine bodyPost_ret (v := inV ⟨op, 0, 0, 0, 0, (bits .or .u32 (x0 % 4294967296 * 16 % 4294967296) (bits .and .u32 (x1 % 4294967296) 15)), false, false⟩) (by simp [results, Tryz.results37, go_sem, inV, *]) rfl ⟨rfl, ?_⟩
        exact Below.alloc ((((((((hbw.setCell (p := ⟨w.heap.size, 0, none⟩) (Nat.le_refl _) _).setCell (p := ⟨w.heap.size, 1, none⟩) (Nat.le_refl _) _).setCell (p := ⟨w.heap.size, 2, none⟩) (Nat.le_refl _) _).setCell (p := ⟨w.heap.size, 3, none⟩) (Nat.le_refl _) _).setCell (p := ⟨w.heap.size, 4, none⟩) (Nat.le_refl _) _).setCell (p := ⟨w.heap.size, 5, none⟩) (Nat.le_refl _) _).setCell (p := ⟨w.heap.size, 6, none⟩) (Nat.le_refl _) _).setCell (p := ⟨w.heap.size, 7, none⟩) (Nat.le_refl _) _) (by simp; omega) _

end Go.Proofs.YtmihcicepgjogaaGreatDoor

/- The document's read, class 17. -/
namespace Go.Proofs.YtmihcicepgjogaaGreatDoor
open Go.ChangeShapes Go.WideShapes Go.ChangeAt Go.RowKit
set_option linter.unusedVariables false
set_option linter.unusedSimpArgs false

set_option maxRecDepth 100000 in
set_option maxHeartbeats 1600000 in
theorem read_17 (op : Int) (v : Value) (N : List Int) (A B C : Int) (base : Nat) (o1 : 39 ≤ op) (o2 : op ≤ 43) (hN : N.length ≤ 1000) (hA : Hid (N.getD 0 0 = A)) (hB : Hid (N.getD 1 0 = B)) (hC : Hid (N.getD 2 0 = C)) (w : World) (hown : w.ownsRow base 3 1 v N.length (N.map iV)) (hbase : base ≤ w.heap.size) :
    Calls Tryz.prog 37 #[.int .i64 op, v] w fun e w' => e = .returned (inV ⟨op, 0, 0, 0, 0, 0, false, false⟩) ∧ Below w.heap.size w w' := by
  have e1 : (op == 1) = false := by simp; omega
  have e2 : (op == 2) = false := by simp; omega
  have e3 : (op == 3) = false := by simp; omega
  have e4 : (op == 4) = false := by simp; omega
  have e38 : (op == 38) = false := by simp; omega
  have e44 : (op == 44) = false := by simp; omega
  have e59 : (op == 59) = false := by simp; omega
  have g11 : decide (11 ≤ op) = true := by simp; omega
  have g16 : decide (16 ≤ op) = true := by simp; omega
  have g5 : decide (5 ≤ op) = true := by simp; omega
  have g19 : decide (19 ≤ op) = true := by simp; omega
  have g28 : decide (28 ≤ op) = true := by simp; omega
  have g51 : decide (51 ≤ op) = false := by simp; omega
  have g45 : decide (45 ≤ op) = false := by simp; omega
  have g48 : decide (48 ≤ op) = false := by simp; omega
  have g60 : decide (60 ≤ op) = false := by simp; omega
  have l15 : decide (op ≤ 15) = false := by simp; omega
  have l18 : decide (op ≤ 18) = false := by simp; omega
  have l10 : decide (op ≤ 10) = false := by simp; omega
  have l27 : decide (op ≤ 27) = false := by simp; omega
  have l37 : decide (op ≤ 37) = false := by simp; omega
  have l58 : decide (op ≤ 58) = true := by simp; omega
  have l47 : decide (op ≤ 47) = true := by simp; omega
  have l50 : decide (op ≤ 50) = true := by simp; omega
  have l69 : decide (op ≤ 69) = true := by simp; omega
  obtain ⟨i0, hi, hz0, hz1, hz2⟩ := info_parts infoI64
  clear o1 o2
  go_enter Tryz.func37, Tryz.ntmps37
  go_wp2
  have hW0 : Below (w.heap.size + 1) (w.alloc (.cells #[.int .i64 0, .int .i64 0, .int .i64 0, .int .i64 0, .int .i64 0, .int .u32 0, .bool false, .bool false] 24)) (w.alloc (.cells #[.int .i64 0, .int .i64 0, .int .i64 0, .int .i64 0, .int .i64 0, .int .u32 0, .bool false, .bool false] 24)) := Below.refl _ _
  have hb0 : Below w.heap.size w (w.alloc (.cells #[.int .i64 0, .int .i64 0, .int .i64 0, .int .i64 0, .int .i64 0, .int .u32 0, .bool false, .bool false] 24)) := (Below.refl _ _).alloc (Nat.le_refl _) _
  have hr0 : (w.alloc (.cells #[.int .i64 0, .int .i64 0, .int .i64 0, .int .i64 0, .int .i64 0, .int .u32 0, .bool false, .bool false] 24)).heap[w.heap.size]? = some (.cells #[.int .i64 0, .int .i64 0, .int .i64 0, .int .i64 0, .int .i64 0, .int .u32 0, .bool false, .bool false] 24) := heap_alloc_new _ _
  have hown0 := hown.alloc (.cells #[.int .i64 0, .int .i64 0, .int .i64 0, .int .i64 0, .int .i64 0, .int .u32 0, .bool false, .bool false] 24)
  generalize hW1 : World.alloc w (.cells #[.int .i64 0, .int .i64 0, .int .i64 0, .int .i64 0, .int .i64 0, .int .u32 0, .bool false, .bool false] 24) = w1 at *
  have hs1 : w1.heap.size = w.heap.size + 1 := by rw [← hW1]; simp
  clear hW1 hown
  go_loopw [1] (fun v1 wr => ∃ (N1 : List Int) (b1 : Nat), Hid (∀ k, N1.getD k 0 = N.getD k 0) ∧ N1.length ≤ 1000 ∧ b1 ≤ wr.heap.size ∧ wr.ownsRow b1 3 1 v1 N1.length (N1.map iV) ∧ Below w1.heap.size w1 wr) (fun v1 _ => 3 - vlen v1)
  case atStart => exact ⟨N, base, fun _ => rfl, hN, by omega, hown0, Below.refl _ _⟩
  case round =>
    obtain ⟨N1, b1, hg, hn1, hb1, hown1, hbl⟩ := hrel
    have hone : ∀ u, u ∈ [iV 0] → u.oneCell' = true := by
      intro u hu; simp at hu; subst hu; rfl
    by_cases hlt : N1.length < 3
    · rcases hown1.2 with ⟨rfl, h0⟩ | ⟨g, cp, cur, rfl, hgb, hh, hnc, hcm, hcs, htk⟩
      · obtain rfl : N1 = [] := List.length_eq_zero_iff.1 h0
        go_wp2_with (first | (at_make; refine wpList_make_own _ rfl _ _ 47 rfl wr.heap.size 3 i0 (.int .i64 0) 1 Tryz.underlying47 hi hz0 hz1 .i64 .i64 _ 4 rfl rfl rfl (by rw [hz2]; omega) (by unfold maxLen; omega) (Nat.le_refl _) ?_; intro w5 hown5 hg5) | (have _q := hown5; at_builtin; refine wpList_append_own_spare _ rfl _ _ 47 rfl wr.heap.size 3 i0 1 Tryz.underlying47 hi hz1 wr.heap.size 0 4 [] rfl (hown5.alloc _) ⟨w5.heap.size, 0, none⟩ 1 1 [iV 0] rfl rfl (one_new w5 _ _) hone (by omega) ?_; intro w7 hown7 hg7))
        have hb5 : Below w1.heap.size w1 w5 := hbl.grown hg5 hbl.size (by intro k hk; cases hk)
        have hb7 : Below w1.heap.size w1 w7 := (hb5.alloc hb5.size _).grown hg7 (by have := hb5.size; simp; omega) (by intro k hk; cases hk; exact hbl.size)
        have hl7 := hown7.lt wr.heap.size rfl
        go_roundw
        case rel => exact ⟨[0], wr.heap.size, fun k => by rw [← hg.out k]; cases k <;> simp, by simp, by omega, hown7, hb7⟩
        case measure => simp [vlen]
      · have hcl := hown1.cells (g := g) rfl
        have hcl5 : ∀ w5, wr.grownBy w5 none → ∀ j u, (N1.map iV)[j]? = some u → w5.cell? ((⟨g, 0, none⟩ : Addr).add j) = some u := fun w5 hg5 j u hu => hg5.cell (hcl j u hu) (by simp)
        have Hcl5 : Hid (∀ w5, wr.grownBy w5 none → ∀ j u, (N1.map iV)[j]? = some u → w5.cell? ((⟨g, 0, none⟩ : Addr).add j) = some u) := hcl5
        have h1c : ∀ u ∈ N1.map iV, u.oneCell' = true := by
          intro u hu
          obtain ⟨x, _, rfl⟩ := List.mem_map.1 hu
          rfl
        clear hcl hcl5
        go_wp2_with (first | (at_make; refine wpList_make_own _ rfl _ _ 47 rfl wr.heap.size 3 i0 (.int .i64 0) 1 Tryz.underlying47 hi hz0 hz1 .i64 .i64 _ 4 rfl rfl rfl (by rw [hz2]; omega) (by unfold maxLen; omega) (Nat.le_refl _) ?_; intro w5 hown5 hg5) | (have _q := hown6; at_builtin; refine wpList_append_own_spare _ rfl _ _ 47 rfl wr.heap.size 3 i0 1 Tryz.underlying47 hi hz1 wr.heap.size N1.length 4 (N1.map iV) rfl (hown6.alloc _) ⟨w6.heap.size, 0, none⟩ 1 1 [iV 0] rfl rfl (one_new w6 _ _) hone (by omega) ?_; intro w7 hown7 hg7) | (at_builtin; refine wpList_append_own_spare _ rfl _ _ 47 rfl wr.heap.size 3 i0 1 Tryz.underlying47 hi hz1 wr.heap.size 0 4 [] rfl hown5 ⟨g, 0, none⟩ N1.length cp (N1.map iV) rfl (by simp) (Hcl5.out _ hg5) h1c (by omega) ?_; intro w6 hown6 hg6; rw [Nat.zero_add, List.nil_append] at hown6))
        have hb5 : Below w1.heap.size w1 w5 := hbl.grown hg5 hbl.size (by intro k hk; cases hk)
        have hb6 : Below w1.heap.size w1 w6 := hb5.grown hg6 hb5.size (by intro k hk; cases hk; exact hbl.size)
        have hb7 : Below w1.heap.size w1 w7 := (hb6.alloc hb6.size _).grown hg7 (by have := hb6.size; simp; omega) (by intro k hk; cases hk; exact hbl.size)
        have hl7 := hown7.lt wr.heap.size rfl
        go_roundw
        case rel => exact ⟨N1 ++ [0], wr.heap.size, fun k => by rw [← hg.out k]; exact getD_snoc N1 k, by simp; omega, by omega, by rw [List.map_append, List.length_append]; exact hown7, hb7⟩
        case measure => simp [vlen]; omega
    · rcases hown1.2 with ⟨rfl, h0⟩ | ⟨g, cp, cur, rfl, hgb, hh, hnc, hcm, hcs, htk⟩
      · exact absurd h0 (by omega)
      · have hcl := hown1.cells (g := g) rfl
        obtain ⟨x0, x1, x2, r, rfl⟩ := three_of N1 (by omega)
        obtain rfl : x0 = A := (hg.out 0).trans hA.out
        obtain rfl : x1 = B := (hg.out 1).trans hB.out
        obtain rfl : x2 = C := (hg.out 2).trans hC.out
        have k0 : wr.cell? ⟨g, 0, none⟩ = some (.int .i64 x0) := by simpa [Addr.add, iV] using hcl 0 (iV x0) rfl
        have k1 : wr.cell? ⟨g, 1, none⟩ = some (.int .i64 x1) := by simpa [Addr.add, iV] using hcl 1 (iV x1) rfl
        have k2 : wr.cell? ⟨g, 2, none⟩ = some (.int .i64 x2) := by simpa [Addr.add, iV] using hcl 2 (iV x2) rfl
        have hln : (3 : Int) ≤ ((x0 :: x1 :: x2 :: r).length : Int) := by simp; omega
        have hrr : wr.heap[w.heap.size]? = some (.cells #[.int .i64 0, .int .i64 0, .int .i64 0, .int .i64 0, .int .i64 0, .int .u32 0, .bool false, .bool false] 24) := (hbl.block _ (by omega)).trans hr0
        have hbw : Below w.heap.size w wr := hb0.trans (hbl.mono (by omega))
        have hgl : g < wr.heap.size := (Array.getElem?_eq_some_iff.1 hh).1
        have hwl : w.heap.size < wr.heap.size := by have := hbl.size; omega
        have f0 : wr.cell? ⟨w.heap.size, 0, none⟩ = some (.int .i64 0) := by simp [World.cell?, hrr]
        have z0 : wr.frozen? ⟨w.heap.size, 0, none⟩ = false := by simp [World.frozen?, hrr]
        have f1 : wr.cell? ⟨w.heap.size, 1, none⟩ = some (.int .i64 0) := by simp [World.cell?, hrr]
        have z1 : wr.frozen? ⟨w.heap.size, 1, none⟩ = false := by simp [World.frozen?, hrr]
        have f2 : wr.cell? ⟨w.heap.size, 2, none⟩ = some (.int .i64 0) := by simp [World.cell?, hrr]
        have z2 : wr.frozen? ⟨w.heap.size, 2, none⟩ = false := by simp [World.frozen?, hrr]
        have f3 : wr.cell? ⟨w.heap.size, 3, none⟩ = some (.int .i64 0) := by simp [World.cell?, hrr]
        have z3 : wr.frozen? ⟨w.heap.size, 3, none⟩ = false := by simp [World.frozen?, hrr]
        have f4 : wr.cell? ⟨w.heap.size, 4, none⟩ = some (.int .i64 0) := by simp [World.cell?, hrr]
        have z4 : wr.frozen? ⟨w.heap.size, 4, none⟩ = false := by simp [World.frozen?, hrr]
        have f5 : wr.cell? ⟨w.heap.size, 5, none⟩ = some (.int .u32 0) := by simp [World.cell?, hrr]
        have z5 : wr.frozen? ⟨w.heap.size, 5, none⟩ = false := by simp [World.frozen?, hrr]
        have f6 : wr.cell? ⟨w.heap.size, 6, none⟩ = some (.bool false) := by simp [World.cell?, hrr]
        have z6 : wr.frozen? ⟨w.heap.size, 6, none⟩ = false := by simp [World.frozen?, hrr]
        have f7 : wr.cell? ⟨w.heap.size, 7, none⟩ = some (.bool false) := by simp [World.cell?, hrr]
        have z7 : wr.frozen? ⟨w.heap.size, 7, none⟩ = false := by simp [World.frozen?, hrr]
        clear hcl hown1 hh htk hcs hcm hg hr0 hown0 hW0 hrr
        go_wp2
        refine bodyPost_ret (v := inV ⟨op, 0, 0, 0, 0, 0, false, false⟩) (by simp [results, Tryz.results37, go_sem, inV, *]) rfl ⟨rfl, ?_⟩
        exact Below.alloc ((((((((hbw.setCell (p := ⟨w.heap.size, 0, none⟩) (Nat.le_refl _) _).setCell (p := ⟨w.heap.size, 1, none⟩) (Nat.le_refl _) _).setCell (p := ⟨w.heap.size, 2, none⟩) (Nat.le_refl _) _).setCell (p := ⟨w.heap.size, 3, none⟩) (Nat.le_refl _) _).setCell (p := ⟨w.heap.size, 4, none⟩) (Nat.le_refl _) _).setCell (p := ⟨w.heap.size, 5, none⟩) (Nat.le_refl _) _).setCell (p := ⟨w.heap.size, 6, none⟩) (Nat.le_refl _) _).setCell (p := ⟨w.heap.size, 7, none⟩) (Nat.le_refl _) _) (by simp; omega) _

end Go.Proofs.YtmihcicepgjogaaGreatDoor
