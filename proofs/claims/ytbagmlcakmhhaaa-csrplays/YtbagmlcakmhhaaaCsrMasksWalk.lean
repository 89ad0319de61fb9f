/- What is kept of each register. -/
import Derived.Test.YtbagmlcakmhhaaaCsrK
namespace Go.Proofs.Ytbagmlcakmhhaaa
open Go.ChangeShapes Go.WideShapes Go.ChangeAt Go.RowKit
set_option linter.unusedVariables false
set_option linter.unusedSimpArgs false


/-- A file, and the two lists of the law behind it. -/
structure Ms (w : World) (b : Nat) (G : W.F) (wr : World) : Prop where
  ls : Ls w b G wr
  nm : wr.heap[b + 1]? = some (.cells #[.int .i64 384, .int .i64 768, .int .i64 772, .int .i64 773, .int .i64 832, .int .i64 833, .int .i64 834, .int .i64 835, .int .i64 836] 3)
  mm : wr.heap[b + 2]? = some (.cells #[.int .u32 2151677951, .int .u32 136, .int .u32 8, .int .u32 4294967292, .int .u32 4294967295, .int .u32 4294967292, .int .u32 4294967295, .int .u32 4294967295, .int .u32 0] 24)
theorem Ms.set {w : World} {b : Nat} {G G' : W.F} {wr w' : World} (h : Ms w b G wr) (h2 : Ls w b G' w') (hg : wr.grownBy w' (some b)) : Ms w b G' w' :=
  ⟨h2, (hg.block _ (Array.getElem?_eq_some_iff.1 h.nm).1 (by simp)).trans h.nm, (hg.block _ (Array.getElem?_eq_some_iff.1 h.mm).1 (by simp)).trans h.mm⟩
theorem Ms.cells {w : World} {b : Nat} {G : W.F} {wr : World} (h : Ms w b G wr) : wr.cell? ⟨b + 1, 0, none⟩ = some (.int .i64 384) ∧ wr.cell? ⟨b + 1, 1, none⟩ = some (.int .i64 768) ∧ wr.cell? ⟨b + 1, 2, none⟩ = some (.int .i64 772) ∧ wr.cell? ⟨b + 1, 3, none⟩ = some (.int .i64 773) ∧ wr.cell? ⟨b + 1, 4, none⟩ = some (.int .i64 832) ∧ wr.cell? ⟨b + 1, 5, none⟩ = some (.int .i64 833) ∧ wr.cell? ⟨b + 1, 6, none⟩ = some (.int .i64 834) ∧ wr.cell? ⟨b + 1, 7, none⟩ = some (.int .i64 835) ∧ wr.cell? ⟨b + 1, 8, none⟩ = some (.int .i64 836) ∧ wr.cell? ⟨b + 2, 0, none⟩ = some (.int .u32 2151677951) ∧ wr.cell? ⟨b + 2, 1, none⟩ = some (.int .u32 136) ∧ wr.cell? ⟨b + 2, 2, none⟩ = some (.int .u32 8) ∧ wr.cell? ⟨b + 2, 3, none⟩ = some (.int .u32 4294967292) ∧ wr.cell? ⟨b + 2, 4, none⟩ = some (.int .u32 4294967295) ∧ wr.cell? ⟨b + 2, 5, none⟩ = some (.int .u32 4294967292) ∧ wr.cell? ⟨b + 2, 6, none⟩ = some (.int .u32 4294967295) ∧ wr.cell? ⟨b + 2, 7, none⟩ = some (.int .u32 4294967295) ∧ wr.cell? ⟨b + 2, 8, none⟩ = some (.int .u32 0) := by
  have e1 := h.nm
  have e2 := h.mm
  simp [World.cell?, e1, e2]
theorem Ms.start {w wr : World} (G : W.F) (hb : Below w.heap.size w wr) : Ms w wr.heap.size G (((wr.alloc (.cells (fileCells G) 26)).alloc (.cells #[.int .i64 384, .int .i64 768, .int .i64 772, .int .i64 773, .int .i64 832, .int .i64 833, .int .i64 834, .int .i64 835, .int .i64 836] 3)).alloc (.cells #[.int .u32 2151677951, .int .u32 136, .int .u32 8, .int .u32 4294967292, .int .u32 4294967295, .int .u32 4294967292, .int .u32 4294967295, .int .u32 4294967295, .int .u32 0] 24)) :=
  ⟨((Ls.start G hb).call ((Below.refl _ _).alloc (Nat.le_refl _) _)).call ((Below.refl _ _).alloc (Nat.le_refl _) _), by show (((wr.heap.push _).push _).push _)[wr.heap.size + 1]? = _; rw [Array.getElem?_push, if_neg (by simp), Array.getElem?_push, if_pos (by simp)], by show (((wr.heap.push _).push _).push _)[wr.heap.size + 2]? = _; rw [Array.getElem?_push, if_pos (by simp)]⟩

/-- The file behind k rounds. -/
def gM (v : Int) (k : Nat) : W.F := match k with
  | 0 => ⟨3, 0, 0, 0, 0, 0, 0, 0, 0, 0, 2⟩
  | 1 => ⟨3, (bits .and .u32 v 2151677951), 0, 0, 0, 0, 0, 0, 0, 0, 2⟩
  | 2 => ⟨3, (bits .and .u32 v 2151677951), (W.status (W.bitsOf v 3 1) (W.bitsOf v 7 1) (W.kmode v)), 0, 0, 0, 0, 0, 0, 0, 2⟩
  | 3 => ⟨3, (bits .and .u32 v 2151677951), (W.status (W.bitsOf v 3 1) (W.bitsOf v 7 1) (W.kmode v)), (bits .and .u32 v 8), 0, 0, 0, 0, 0, 0, 2⟩
  | 4 => ⟨3, (bits .and .u32 v 2151677951), (W.status (W.bitsOf v 3 1) (W.bitsOf v 7 1) (W.kmode v)), (bits .and .u32 v 8), (W.algn v), 0, 0, 0, 0, 0, 2⟩
  | 5 => ⟨3, (bits .and .u32 v 2151677951), (W.status (W.bitsOf v 3 1) (W.bitsOf v 7 1) (W.kmode v)), (bits .and .u32 v 8), (W.algn v), (v), 0, 0, 0, 0, 2⟩
  | 6 => ⟨3, (bits .and .u32 v 2151677951), (W.status (W.bitsOf v 3 1) (W.bitsOf v 7 1) (W.kmode v)), (bits .and .u32 v 8), (W.algn v), (v), (W.algn v), 0, 0, 0, 2⟩
  | 7 => ⟨3, (bits .and .u32 v 2151677951), (W.status (W.bitsOf v 3 1) (W.bitsOf v 7 1) (W.kmode v)), (bits .and .u32 v 8), (W.algn v), (v), (W.algn v), (v), 0, 0, 2⟩
  | 8 => ⟨3, (bits .and .u32 v 2151677951), (W.status (W.bitsOf v 3 1) (W.bitsOf v 7 1) (W.kmode v)), (bits .and .u32 v 8), (W.algn v), (v), (W.algn v), (v), (v), 0, 2⟩
  | _ => ⟨3, (bits .and .u32 v 2151677951), (W.status (W.bitsOf v 3 1) (W.bitsOf v 7 1) (W.kmode v)), (bits .and .u32 v 8), (W.algn v), (v), (W.algn v), (v), (v), (0), 2⟩

namespace W
theorem want_st (v : Int) (v0 : 0 ≤ v) (v1 : v < 4294967296) (c : Bool) (hc : (bits .and .u32 v 6144 == 6144) = c) : status (bitsOf v 3 1) (bitsOf v 7 1) (kmode v) = bif c then bits .or .u32 (bits .and .u32 v 136) 6144 else bits .and .u32 v 136 := by
  rw [set_st v v0 v1, and_88 v v0 v1]
  rw [and_1800 v v0 v1] at hc
  cases c
  · have : ¬ v / 2048 % 4 = 3 := by simp at hc; omega
    rw [if_neg this]
    simp only [cond_false]
    omega
  · have : v / 2048 % 4 = 3 := by simp at hc; omega
    rw [if_pos this]
    simp only [cond_true]
    rw [u32_or _ _ (by omega) (by omega) (by decide) (by decide), Nat.or_comm, show (6144 : Int).toNat = 6144 from rfl, nat_join 11 6144 _ (by decide) (by omega)]
    omega
end W

set_option maxHeartbeats 6400000 in
theorem csrmasks_go (v u : Int) (v0 : 0 ≤ v) (v1 : v < 4294967296) (u0 : 0 ≤ u) (u1 : u < 4294967296) (w : World) : Calls Try.prog 6 #[.int .u32 v, .int .u32 u] w fun e w' => e = .returned (.bool true) ∧ Below w.heap.size w w' := by
  have q3 : Hid (W.algn v = bits .and .u32 v 4294967292) := by
    have : W.algn v = bits .and .u32 v 4294967292 := by rw [W.algn_eq v v0 v1, W.and_fc v v0 v1]
    exact this
  have q4 : Hid (v = bits .and .u32 v 4294967295) := (W.and_ff v v0 v1).symm
  have q8 : Hid (0 = bits .and .u32 v 0) := (W.and_0 v v0 v1).symm
  have q1 : Hid (∀ c, (bits .and .u32 v 6144 == 6144) = c → W.status (W.bitsOf v 3 1) (W.bitsOf v 7 1) (W.kmode v) = bif c then bits .or .u32 (bits .and .u32 v 136) 6144 else bits .and .u32 v 136) := W.want_st v v0 v1
  have hb : Below w.heap.size w w := Below.refl _ _
  go_enter Try.func6, Try.ntmps6
  go_wp2_with (first
    | (go_at_call 9; refine (from_ (first6_any _) hb).mono ?_; clear hb; rintro e w1 ⟨rfl, hb⟩)
    | (go_at_call 10; refine (from_ (new_any _ _) hb).mono ?_; clear hb; rintro e w2 ⟨rfl, hb⟩; unfold fileCells W.fnew))
  have hM := Ms.start (gM v 0) hb
  have hs := hb.size
  generalize hW : ((World.alloc (World.alloc (World.alloc w2 _) _) _)) = W3
  have hM3 : Ms w w2.heap.size (gM v 0) W3 := by rw [← hW]; exact hM
  clear hM hW
  generalize hB : w2.heap.size = b at *
  clear hB hb
  go_loopw [9] (fun i wr => ∃ k : Nat, k ≤ 9 ∧ i = .int .i64 k ∧ Ms w b (gM v k) wr) (fun i _ => 9 - (intOf i).toNat)
  case atStart => exact ⟨0, by omega, rfl, hM3⟩
  case round =>
    obtain ⟨k, hk, rfl, hM⟩ := hrel
    have hk9 : k = 0 ∨ k = 1 ∨ k = 2 ∨ k = 3 ∨ k = 4 ∨ k = 5 ∨ k = 6 ∨ k = 7 ∨ k = 8 ∨ k = 9 := by omega
    clear hk
    rcases hk9 with rfl | rfl | rfl | rfl | rfl | rfl | rfl | rfl | rfl | rfl

    · have hL := hM.ls
      obtain ⟨n0, n1, n2, n3, n4, n5, n6, n7, n8, m0, m1, m2, m3, m4, m5, m6, m7, m8⟩ := hM.cells
      go_wp2_with fail
      refine (set_g 384 u true ⟨3, (bits .and .u32 u 2151677951), 0, 0, 0, 0, 0, 0, 0, 0, 2⟩ (by exact hL) (by rfl) (by rfl)).mono ?_
      rintro e wa ⟨rfl, hL1, hg1⟩
      have hM1 := hM.set hL1 hg1
      clear hM hL n0 n1 n2 n3 n4 n5 n6 n7 n8 m0 m1 m2 m3 m4 m5 m6 m7 m8
      obtain ⟨n0, n1, n2, n3, n4, n5, n6, n7, n8, m0, m1, m2, m3, m4, m5, m6, m7, m8⟩ := hM1.cells
      go_wp2_with fail
      refine (set_g 384 v true ⟨3, (bits .and .u32 v 2151677951), 0, 0, 0, 0, 0, 0, 0, 0, 2⟩ (by exact hL1) (by rfl) (by rfl)).mono ?_
      rintro e wb ⟨rfl, hL2, hg2⟩
      have hM2 := hM1.set hL2 hg2
      clear hM1 hL1 n0 n1 n2 n3 n4 n5 n6 n7 n8 m0 m1 m2 m3 m4 m5 m6 m7 m8
      obtain ⟨n0, n1, n2, n3, n4, n5, n6, n7, n8, m0, m1, m2, m3, m4, m5, m6, m7, m8⟩ := hM2.cells
      go_wp2_with fail
      refine (get_g 384 (bits .and .u32 v 2151677951) true (by exact hL2) (by exact rfl) (by rfl)).mono ?_
      rintro e wc ⟨rfl, rfl⟩
      go_wp2
      go_roundw
      case rel => exact ⟨1, by omega, rfl, hM2⟩
      case measure => simp [intOf]
    · cases hc : (bits .and .u32 v 6144 == 6144)
      · have qq : Hid (W.status (W.bitsOf v 3 1) (W.bitsOf v 7 1) (W.kmode v) = bits .and .u32 v 136) := q1.out _ hc
        have hL := hM.ls
        obtain ⟨n0, n1, n2, n3, n4, n5, n6, n7, n8, m0, m1, m2, m3, m4, m5, m6, m7, m8⟩ := hM.cells
        go_wp2_with fail
        refine (set_g 768 u true ⟨3, (bits .and .u32 v 2151677951), (W.status (W.bitsOf u 3 1) (W.bitsOf u 7 1) (W.kmode u)), 0, 0, 0, 0, 0, 0, 0, 2⟩ (by exact hL) (by rfl) (by rfl)).mono ?_
        rintro e wa ⟨rfl, hL1, hg1⟩
        have hM1 := hM.set hL1 hg1
        clear hM hL n0 n1 n2 n3 n4 n5 n6 n7 n8 m0 m1 m2 m3 m4 m5 m6 m7 m8
        obtain ⟨n0, n1, n2, n3, n4, n5, n6, n7, n8, m0, m1, m2, m3, m4, m5, m6, m7, m8⟩ := hM1.cells
        go_wp2_with fail
        refine (set_g 768 v true ⟨3, (bits .and .u32 v 2151677951), (W.status (W.bitsOf v 3 1) (W.bitsOf v 7 1) (W.kmode v)), 0, 0, 0, 0, 0, 0, 0, 2⟩ (by exact hL1) (by rfl) (by rfl)).mono ?_
        rintro e wb ⟨rfl, hL2, hg2⟩
        have hM2 := hM1.set hL2 hg2
        clear hM1 hL1 n0 n1 n2 n3 n4 n5 n6 n7 n8 m0 m1 m2 m3 m4 m5 m6 m7 m8
        obtain ⟨n0, n1, n2, n3, n4, n5, n6, n7, n8, m0, m1, m2, m3, m4, m5, m6, m7, m8⟩ := hM2.cells
        go_wp2_with fail
        refine (get_g 768 (bits .and .u32 v 136) true (by exact hL2) (by exact qq.out) (by rfl)).mono ?_
        rintro e wc ⟨rfl, rfl⟩
        go_wp2
        go_roundw
        case rel => exact ⟨2, by omega, rfl, hM2⟩
        case measure => simp [intOf]
      · have qq : Hid (W.status (W.bitsOf v 3 1) (W.bitsOf v 7 1) (W.kmode v) = bits .or .u32 (bits .and .u32 v 136) 6144) := q1.out _ hc
        have hL := hM.ls
        obtain ⟨n0, n1, n2, n3, n4, n5, n6, n7, n8, m0, m1, m2, m3, m4, m5, m6, m7, m8⟩ := hM.cells
        go_wp2_with fail
        refine (set_g 768 u true ⟨3, (bits .and .u32 v 2151677951), (W.status (W.bitsOf u 3 1) (W.bitsOf u 7 1) (W.kmode u)), 0, 0, 0, 0, 0, 0, 0, 2⟩ (by exact hL) (by rfl) (by rfl)).mono ?_
        rintro e wa ⟨rfl, hL1, hg1⟩
        have hM1 := hM.set hL1 hg1
        clear hM hL n0 n1 n2 n3 n4 n5 n6 n7 n8 m0 m1 m2 m3 m4 m5 m6 m7 m8
        obtain ⟨n0, n1, n2, n3, n4, n5, n6, n7, n8, m0, m1, m2, m3, m4, m5, m6, m7, m8⟩ := hM1.cells
        go_wp2_with fail
        refine (set_g 768 v true ⟨3, (bits .and .u32 v 2151677951), (W.status (W.bitsOf v 3 1) (W.bitsOf v 7 1) (W.kmode v)), 0, 0, 0, 0, 0, 0, 0, 2⟩ (by exact hL1) (by rfl) (by rfl)).mono ?_
        rintro e wb ⟨rfl, hL2, hg2⟩
        have hM2 := hM1.set hL2 hg2
        clear hM1 hL1 n0 n1 n2 n3 n4 n5 n6 n7 n8 m0 m1 m2 m3 m4 m5 m6 m7 m8
        obtain ⟨n0, n1, n2, n3, n4, n5, n6, n7, n8, m0, m1, m2, m3, m4, m5, m6, m7, m8⟩ := hM2.cells
        go_wp2_with fail
        refine (get_g 768 (bits .or .u32 (bits .and .u32 v 136) 6144) true (by exact hL2) (by exact qq.out) (by rfl)).mono ?_
        rintro e wc ⟨rfl, rfl⟩
        go_wp2
        go_roundw
        case rel => exact ⟨2, by omega, rfl, hM2⟩
        case measure => simp [intOf]
    · have hL := hM.ls
      obtain ⟨n0, n1, n2, n3, n4, n5, n6, n7, n8, m0, m1, m2, m3, m4, m5, m6, m7, m8⟩ := hM.cells
      go_wp2_with fail
      refine (set_g 772 u true ⟨3, (bits .and .u32 v 2151677951), (W.status (W.bitsOf v 3 1) (W.bitsOf v 7 1) (W.kmode v)), (bits .and .u32 u 8), 0, 0, 0, 0, 0, 0, 2⟩ (by exact hL) (by rfl) (by rfl)).mono ?_
      rintro e wa ⟨rfl, hL1, hg1⟩
      have hM1 := hM.set hL1 hg1
      clear hM hL n0 n1 n2 n3 n4 n5 n6 n7 n8 m0 m1 m2 m3 m4 m5 m6 m7 m8
      obtain ⟨n0, n1, n2, n3, n4, n5, n6, n7, n8, m0, m1, m2, m3, m4, m5, m6, m7, m8⟩ := hM1.cells
      go_wp2_with fail
      refine (set_g 772 v true ⟨3, (bits .and .u32 v 2151677951), (W.status (W.bitsOf v 3 1) (W.bitsOf v 7 1) (W.kmode v)), (bits .and .u32 v 8), 0, 0, 0, 0, 0, 0, 2⟩ (by exact hL1) (by rfl) (by rfl)).mono ?_
      rintro e wb ⟨rfl, hL2, hg2⟩
      have hM2 := hM1.set hL2 hg2
      clear hM1 hL1 n0 n1 n2 n3 n4 n5 n6 n7 n8 m0 m1 m2 m3 m4 m5 m6 m7 m8
      obtain ⟨n0, n1, n2, n3, n4, n5, n6, n7, n8, m0, m1, m2, m3, m4, m5, m6, m7, m8⟩ := hM2.cells
      go_wp2_with fail
      refine (get_g 772 (bits .and .u32 v 8) true (by exact hL2) (by exact rfl) (by rfl)).mono ?_
      rintro e wc ⟨rfl, rfl⟩
      go_wp2
      go_roundw
      case rel => exact ⟨3, by omega, rfl, hM2⟩
      case measure => simp [intOf]
    · have hL := hM.ls
      obtain ⟨n0, n1, n2, n3, n4, n5, n6, n7, n8, m0, m1, m2, m3, m4, m5, m6, m7, m8⟩ := hM.cells
      go_wp2_with fail
      refine (set_g 773 u true ⟨3, (bits .and .u32 v 2151677951), (W.status (W.bitsOf v 3 1) (W.bitsOf v 7 1) (W.kmode v)), (bits .and .u32 v 8), (W.algn u), 0, 0, 0, 0, 0, 2⟩ (by exact hL) (by rfl) (by rfl)).mono ?_
      rintro e wa ⟨rfl, hL1, hg1⟩
      have hM1 := hM.set hL1 hg1
      clear hM hL n0 n1 n2 n3 n4 n5 n6 n7 n8 m0 m1 m2 m3 m4 m5 m6 m7 m8
      obtain ⟨n0, n1, n2, n3, n4, n5, n6, n7, n8, m0, m1, m2, m3, m4, m5, m6, m7, m8⟩ := hM1.cells
      go_wp2_with fail
      refine (set_g 773 v true ⟨3, (bits .and .u32 v 2151677951), (W.status (W.bitsOf v 3 1) (W.bitsOf v 7 1) (W.kmode v)), (bits .and .u32 v 8), (W.algn v), 0, 0, 0, 0, 0, 2⟩ (by exact hL1) (by rfl) (by rfl)).mono ?_
      rintro e wb ⟨rfl, hL2, hg2⟩
      have hM2 := hM1.set hL2 hg2
      clear hM1 hL1 n0 n1 n2 n3 n4 n5 n6 n7 n8 m0 m1 m2 m3 m4 m5 m6 m7 m8
      obtain ⟨n0, n1, n2, n3, n4, n5, n6, n7, n8, m0, m1, m2, m3, m4, m5, m6, m7, m8⟩ := hM2.cells
      go_wp2_with fail
      refine (get_g 773 (bits .and .u32 v 4294967292) true (by exact hL2) (by exact q3.out) (by rfl)).mono ?_
      rintro e wc ⟨rfl, rfl⟩
      go_wp2
      go_roundw
      case rel => exact ⟨4, by omega, rfl, hM2⟩
      case measure => simp [intOf]
    · have hL := hM.ls
      obtain ⟨n0, n1, n2, n3, n4, n5, n6, n7, n8, m0, m1, m2, m3, m4, m5, m6, m7, m8⟩ := hM.cells
      go_wp2_with fail
      refine (set_g 832 u true ⟨3, (bits .and .u32 v 2151677951), (W.status (W.bitsOf v 3 1) (W.bitsOf v 7 1) (W.kmode v)), (bits .and .u32 v 8), (W.algn v), (u), 0, 0, 0, 0, 2⟩ (by exact hL) (by rfl) (by rfl)).mono ?_
      rintro e wa ⟨rfl, hL1, hg1⟩
      have hM1 := hM.set hL1 hg1
      clear hM hL n0 n1 n2 n3 n4 n5 n6 n7 n8 m0 m1 m2 m3 m4 m5 m6 m7 m8
      obtain ⟨n0, n1, n2, n3, n4, n5, n6, n7, n8, m0, m1, m2, m3, m4, m5, m6, m7, m8⟩ := hM1.cells
      go_wp2_with fail
      refine (set_g 832 v true ⟨3, (bits .and .u32 v 2151677951), (W.status (W.bitsOf v 3 1) (W.bitsOf v 7 1) (W.kmode v)), (bits .and .u32 v 8), (W.algn v), (v), 0, 0, 0, 0, 2⟩ (by exact hL1) (by rfl) (by rfl)).mono ?_
      rintro e wb ⟨rfl, hL2, hg2⟩
      have hM2 := hM1.set hL2 hg2
      clear hM1 hL1 n0 n1 n2 n3 n4 n5 n6 n7 n8 m0 m1 m2 m3 m4 m5 m6 m7 m8
      obtain ⟨n0, n1, n2, n3, n4, n5, n6, n7, n8, m0, m1, m2, m3, m4, m5, m6, m7, m8⟩ := hM2.cells
      go_wp2_with fail
      refine (get_g 832 (bits .and .u32 v 4294967295) true (by exact hL2) (by exact q4.out) (by rfl)).mono ?_
      rintro e wc ⟨rfl, rfl⟩
      go_wp2
      go_roundw
      case rel => exact ⟨5, by omega, rfl, hM2⟩
      case measure => simp [intOf]
    · have hL := hM.ls
      obtain ⟨n0, n1, n2, n3, n4, n5, n6, n7, n8, m0, m1, m2, m3, m4, m5, m6, m7, m8⟩ := hM.cells
      go_wp2_with fail
      refine (set_g 833 u true ⟨3, (bits .and .u32 v 2151677951), (W.status (W.bitsOf v 3 1) (W.bitsOf v 7 1) (W.kmode v)), (bits .and .u32 v 8), (W.algn v), (v), (W.algn u), 0, 0, 0, 2⟩ (by exact hL) (by rfl) (by rfl)).mono ?_
      rintro e wa ⟨rfl, hL1, hg1⟩
      have hM1 := hM.set hL1 hg1
      clear hM hL n0 n1 n2 n3 n4 n5 n6 n7 n8 m0 m1 m2 m3 m4 m5 m6 m7 m8
      obtain ⟨n0, n1, n2, n3, n4, n5, n6, n7, n8, m0, m1, m2, m3, m4, m5, m6, m7, m8⟩ := hM1.cells
      go_wp2_with fail
      refine (set_g 833 v true ⟨3, (bits .and .u32 v 2151677951), (W.status (W.bitsOf v 3 1) (W.bitsOf v 7 1) (W.kmode v)), (bits .and .u32 v 8), (W.algn v), (v), (W.algn v), 0, 0, 0, 2⟩ (by exact hL1) (by rfl) (by rfl)).mono ?_
      rintro e wb ⟨rfl, hL2, hg2⟩
      have hM2 := hM1.set hL2 hg2
      clear hM1 hL1 n0 n1 n2 n3 n4 n5 n6 n7 n8 m0 m1 m2 m3 m4 m5 m6 m7 m8
      obtain ⟨n0, n1, n2, n3, n4, n5, n6, n7, n8, m0, m1, m2, m3, m4, m5, m6, m7, m8⟩ := hM2.cells
      go_wp2_with fail
      refine (get_g 833 (bits .and .u32 v 4294967292) true (by exact hL2) (by exact q3.out) (by rfl)).mono ?_
      rintro e wc ⟨rfl, rfl⟩
      go_wp2
      go_roundw
      case rel => exact ⟨6, by omega, rfl, hM2⟩
      case measure => simp [intOf]
    · have hL := hM.ls
      obtain ⟨n0, n1, n2, n3, n4, n5, n6, n7, n8, m0, m1, m2, m3, m4, m5, m6, m7, m8⟩ := hM.cells
      go_wp2_with fail
      refine (set_g 834 u true ⟨3, (bits .and .u32 v 2151677951), (W.status (W.bitsOf v 3 1) (W.bitsOf v 7 1) (W.kmode v)), (bits .and .u32 v 8), (W.algn v), (v), (W.algn v), (u), 0, 0, 2⟩ (by exact hL) (by rfl) (by rfl)).mono ?_
      rintro e wa ⟨rfl, hL1, hg1⟩
      have hM1 := hM.set hL1 hg1
      clear hM hL n0 n1 n2 n3 n4 n5 n6 n7 n8 m0 m1 m2 m3 m4 m5 m6 m7 m8
      obtain ⟨n0, n1, n2, n3, n4, n5, n6, n7, n8, m0, m1, m2, m3, m4, m5, m6, m7, m8⟩ := hM1.cells
      go_wp2_with fail
      refine (set_g 834 v true ⟨3, (bits .and .u32 v 2151677951), (W.status (W.bitsOf v 3 1) (W.bitsOf v 7 1) (W.kmode v)), (bits .and .u32 v 8), (W.algn v), (v), (W.algn v), (v), 0, 0, 2⟩ (by exact hL1) (by rfl) (by rfl)).mono ?_
      rintro e wb ⟨rfl, hL2, hg2⟩
      have hM2 := hM1.set hL2 hg2
      clear hM1 hL1 n0 n1 n2 n3 n4 n5 n6 n7 n8 m0 m1 m2 m3 m4 m5 m6 m7 m8
      obtain ⟨n0, n1, n2, n3, n4, n5, n6, n7, n8, m0, m1, m2, m3, m4, m5, m6, m7, m8⟩ := hM2.cells
      go_wp2_with fail
      refine (get_g 834 (bits .and .u32 v 4294967295) true (by exact hL2) (by exact q4.out) (by rfl)).mono ?_
      rintro e wc ⟨rfl, rfl⟩
      go_wp2
      go_roundw
      case rel => exact ⟨7, by omega, rfl, hM2⟩
      case measure => simp [intOf]
    · have hL := hM.ls
      obtain ⟨n0, n1, n2, n3, n4, n5, n6, n7, n8, m0, m1, m2, m3, m4, m5, m6, m7, m8⟩ := hM.cells
      go_wp2_with fail
      refine (set_g 835 u true ⟨3, (bits .and .u32 v 2151677951), (W.status (W.bitsOf v 3 1) (W.bitsOf v 7 1) (W.kmode v)), (bits .and .u32 v 8), (W.algn v), (v), (W.algn v), (v), (u), 0, 2⟩ (by exact hL) (by rfl) (by rfl)).mono ?_
      rintro e wa ⟨rfl, hL1, hg1⟩
      have hM1 := hM.set hL1 hg1
      clear hM hL n0 n1 n2 n3 n4 n5 n6 n7 n8 m0 m1 m2 m3 m4 m5 m6 m7 m8
      obtain ⟨n0, n1, n2, n3, n4, n5, n6, n7, n8, m0, m1, m2, m3, m4, m5, m6, m7, m8⟩ := hM1.cells
      go_wp2_with fail
      refine (set_g 835 v true ⟨3, (bits .and .u32 v 2151677951), (W.status (W.bitsOf v 3 1) (W.bitsOf v 7 1) (W.kmode v)), (bits .and .u32 v 8), (W.algn v), (v), (W.algn v), (v), (v), 0, 2⟩ (by exact hL1) (by rfl) (by rfl)).mono ?_
      rintro e wb ⟨rfl, hL2, hg2⟩
      have hM2 := hM1.set hL2 hg2
      clear hM1 hL1 n0 n1 n2 n3 n4 n5 n6 n7 n8 m0 m1 m2 m3 m4 m5 m6 m7 m8
      obtain ⟨n0, n1, n2, n3, n4, n5, n6, n7, n8, m0, m1, m2, m3, m4, m5, m6, m7, m8⟩ := hM2.cells
      go_wp2_with fail
      refine (get_g 835 (bits .and .u32 v 4294967295) true (by exact hL2) (by exact q4.out) (by rfl)).mono ?_
      rintro e wc ⟨rfl, rfl⟩
      go_wp2
      go_roundw
      case rel => exact ⟨8, by omega, rfl, hM2⟩
      case measure => simp [intOf]
    · have hL := hM.ls
      obtain ⟨n0, n1, n2, n3, n4, n5, n6, n7, n8, m0, m1, m2, m3, m4, m5, m6, m7, m8⟩ := hM.cells
      go_wp2_with fail
      refine (set_g 836 u true ⟨3, (bits .and .u32 v 2151677951), (W.status (W.bitsOf v 3 1) (W.bitsOf v 7 1) (W.kmode v)), (bits .and .u32 v 8), (W.algn v), (v), (W.algn v), (v), (v), (0), 2⟩ (by exact hL) (by rfl) (by rfl)).mono ?_
      rintro e wa ⟨rfl, hL1, hg1⟩
      have hM1 := hM.set hL1 hg1
      clear hM hL n0 n1 n2 n3 n4 n5 n6 n7 n8 m0 m1 m2 m3 m4 m5 m6 m7 m8
      obtain ⟨n0, n1, n2, n3, n4, n5, n6, n7, n8, m0, m1, m2, m3, m4, m5, m6, m7, m8⟩ := hM1.cells
      go_wp2_with fail
      refine (set_g 836 v true ⟨3, (bits .and .u32 v 2151677951), (W.status (W.bitsOf v 3 1) (W.bitsOf v 7 1) (W.kmode v)), (bits .and .u32 v 8), (W.algn v), (v), (W.algn v), (v), (v), (0), 2⟩ (by exact hL1) (by rfl) (by rfl)).mono ?_
      rintro e wb ⟨rfl, hL2, hg2⟩
      have hM2 := hM1.set hL2 hg2
      clear hM1 hL1 n0 n1 n2 n3 n4 n5 n6 n7 n8 m0 m1 m2 m3 m4 m5 m6 m7 m8
      obtain ⟨n0, n1, n2, n3, n4, n5, n6, n7, n8, m0, m1, m2, m3, m4, m5, m6, m7, m8⟩ := hM2.cells
      go_wp2_with fail
      refine (get_g 836 (bits .and .u32 v 0) true (by exact hL2) (by exact q8.out) (by rfl)).mono ?_
      rintro e wc ⟨rfl, rfl⟩
      go_wp2
      go_roundw
      case rel => exact ⟨9, by omega, rfl, hM2⟩
      case measure => simp [intOf]
    · have hL := hM.ls
      go_wp2_with fail
      refine (get_g 3860 2 true (by exact hL) (by rfl) (by rfl)).mono ?_
      rintro e wc ⟨rfl, rfl⟩
      go_wp2_with (go_at_call 26; refine (satp_l hL).mono ?_; rintro e wd ⟨rfl, rfl⟩)
      refine (all_any _ b _ _ hL.at_).mono ?_
      rintro e we ⟨rfl, _, hbe⟩
      go_wp2
      go_ret
      exact ⟨rfl, hL.bel.trans (hbe.mono hL.bel.size)⟩
end Go.Proofs.Ytbagmlcakmhhaaa
