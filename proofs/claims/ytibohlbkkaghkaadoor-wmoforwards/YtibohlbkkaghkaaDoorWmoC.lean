/- wmo: harts in memory; Valid; places in order. -/
import Derived.Test.YtibohlbkkaghkaaDoorWmoB
namespace Go.Proofs.YtibohlbkkaghkaaDoor
open Go.ChangeShapes Go.WideShapes Go.ChangeAt Go.RowKit
set_option linter.unusedVariables false
set_option linter.unusedSimpArgs false

namespace W
def tot (n : Nat → Nat) : Nat → Nat
  | 0 => 0
  | k + 1 => tot n k + n k
theorem tot_le (n : Nat → Nat) : ∀ (k j : Nat), k ≤ j → tot n k ≤ tot n j
  | k, 0, h => by have : k = 0 := by omega
                  subst this; exact Nat.le_refl _
  | k, j + 1, h => by
    by_cases e : k = j + 1
    · subst e; exact Nat.le_refl _
    · have := tot_le n k j (by omega)
      show _ ≤ tot n j + n j
      omega
/-- How many are no Barriers. -/
def cnt (x : Nat → Oz) : Nat → Nat
  | 0 => 0
  | n + 1 => bif (x n).o.k != 4 then cnt x n + 1 else cnt x n
theorem cnt_le (x : Nat → Oz) : ∀ n, cnt x n ≤ n
  | 0 => Nat.le_refl _
  | n + 1 => by
    have := cnt_le x n
    unfold cnt
    cases ((x n).o.k != 4)
    · show cnt x n ≤ n + 1; omega
    · show cnt x n + 1 ≤ n + 1; omega
end W
/-- Harts in memory. -/
structure Hs (b K : Nat) (a : Nat → Option Addr) (n c : Nat → Nat) (x : Nat → Nat → W.Oz) (w : World) : Prop where
  lt : b < w.heap.size
  cl : ∀ h, h < K → w.cell? ⟨b, h, none⟩ = some (.slice (a h) (n h) (c h))
  ol : ∀ h, h < K → Ol (a h) (n h) (x h) w
theorem Hs.below {b K : Nat} {a : Nat → Option Addr} {n c : Nat → Nat} {x : Nat → Nat → W.Oz} {w w' : World} (h : Hs b K a n c x w) (hb : Below w.heap.size w w') : Hs b K a n c x w' :=
  ⟨Nat.lt_of_lt_of_le h.lt hb.size, fun j hj => (hb.cell (p := ⟨b, j, none⟩) h.lt).trans (h.cl j hj), fun j hj => (h.ol j hj).below hb⟩
/-- Few enough, with shapes that can be. -/
structure W.Vd (K : Nat) (n : Nat → Nat) (x : Nat → Nat → W.Oz) : Prop where
  k : K ≤ 64
  t : W.tot n K ≤ 4096
  s : ∀ h, h < K → W.Shp (x h) (n h)
theorem W.Vd.le {K : Nat} {n : Nat → Nat} {x : Nat → Nat → W.Oz} (v : W.Vd K n x) (h : Nat) (hh : h < K) : n h ≤ 4096 := by
  have h1 := W.tot_le n (h + 1) K (by omega)
  have h2 := v.t
  have h3 : W.tot n (h + 1) = W.tot n h + n h := rfl
  omega
set_option maxHeartbeats 800000 in
theorem many_any (b K KC : Nat) (a : Nat → Option Addr) (n c : Nat → Nat) (x : Nat → Nat → W.Oz) (w : World) (h : Hs b K a n c x w) (v : W.Vd K n x) :
    Calls Tryd.prog 34 #[.slice (some ⟨b, 0, none⟩) K KC] w fun e w' => e = .returned (.bool false) ∧ w = w' := by
  have k1 := v.k
  have t1 := v.t
  have lt := h.lt
  have HH : Hid (_ ∧ _) := ⟨h.cl, W.tot_le n⟩
  have kk : ¬ (64 : Int) < (K : Int) := by omega
  clear h v
  go_enter Tryd.func34, Tryd.ntmps34
  go_wp2
  go_loopw [3, 11] (fun s i wr => ∃ j : Nat, j ≤ K ∧ s = .int .i64 (W.tot n j : Int) ∧ i = .int .i64 (j : Int) ∧ wr = w) (fun _ i _ => K - (intOf i).toNat)
  case atStart => exact ⟨0, by omega, rfl, rfl, rfl⟩
  case round =>
    obtain ⟨j, hj, rfl, rfl, rfl⟩ := hrel
    have tj := HH.out.2 j K hj
    by_cases hlt : j < K
    · have g0 := HH.out.1 j hlt
      have hjn : (j : Int) < (K : Int) := by omega
      have e1 : W.tot n (j + 1) = W.tot n j + n j := rfl
      have tj1 := HH.out.2 (j + 1) K (by omega)
      rw [e1] at tj1
      generalize n j = nj at *
      generalize a j = aj at *
      generalize c j = cj at *
      generalize hT : W.tot n j = T at *
      go_wp2
      go_roundw
      case rel => exact ⟨j + 1, by omega, by rw [e1]; go_num, by go_num, trivial⟩
      case measure => simp [intOf]; omega
    · have hjn : ¬ (j : Int) < (K : Int) := by omega
      generalize hT : W.tot n j = T at *
      have tt : ¬ (20000 : Int) < (T : Int) := by omega
      go_wp2
      go_ret
      first | exact ⟨rfl, rfl⟩ | exact ⟨by simp [tt], rfl⟩
set_option maxHeartbeats 800000 in
theorem valid_any (b K KC : Nat) (a : Nat → Option Addr) (n c : Nat → Nat) (x : Nat → Nat → W.Oz) (w : World) (h : Hs b K a n c x w) (v : W.Vd K n x) :
    Calls Tryd.prog 24 #[.slice (some ⟨b, 0, none⟩) K KC] w fun e w' => e = .returned .nilIface ∧ Below w.heap.size w w' := by
  have HH : Hid (Calls _ _ _ _ _ ∧ _ ∧ _) := ⟨many_any b K KC a n c x w h v, h, v⟩
  clear h v
  go_enter Tryd.func24, Tryd.ntmps24
  go_wp2_with (fail)
  refine HH.out.1.mono ?_
  rintro e w1 ⟨rfl, rfl⟩
  go_wp2
  go_loopw [3, 12] (fun s i wr => ∃ j : Nat, j ≤ K ∧ s = .int .i64 (W.tot n j : Int) ∧ i = .int .i64 (j : Int) ∧ Below w.heap.size w wr) (fun _ i _ => K - (intOf i).toNat)
  case atStart => exact ⟨0, by omega, rfl, rfl, Below.refl _ _⟩
  case round =>
    obtain ⟨j, hj, rfl, rfl, br⟩ := hrel
    have tj := W.tot_le n j K hj
    have t1 := HH.out.2.2.t
    have k1 := HH.out.2.2.k
    by_cases hlt : j < K
    · have hm := HH.out.2.1.below br
      have g0 := hm.cl j hlt
      have lt := hm.lt
      have hjn : (j : Int) < (K : Int) := by omega
      have e1 : W.tot n (j + 1) = W.tot n j + n j := rfl
      have tj1 := W.tot_le n (j + 1) K (by omega)
      rw [e1] at tj1
      have hms := misshapen_any (a j) (n j) (c j) (x j) wr (hm.ol j hlt) (HH.out.2.2.le j hlt) (HH.out.2.2.s j hlt)
      have HM : Hid (Calls _ _ _ _ _ ∧ _) := ⟨hms, br⟩
      clear hms br hm
      generalize n j = nj at *
      generalize a j = aj at *
      generalize c j = cj at *
      generalize hT : W.tot n j = T at *
      go_wp2_with (fail)
      refine HM.out.1.mono ?_
      rintro e w2 ⟨rfl, b2⟩
      have b3 := HM.out.2.trans (b2.mono HM.out.2.size)
      clear HM b2
      have nn : ¬ (nj : Int) < (nj : Int) := by omega
      go_wp2
      go_roundw
      case rel => exact ⟨j + 1, by omega, by rw [e1]; go_num, by go_num, b3⟩
      case measure => simp [intOf]; omega
    · have hjn : ¬ (j : Int) < (K : Int) := by omega
      generalize hT : W.tot n j = T at *
      go_wp2
      go_ret
      exact ⟨rfl, br⟩
set_option maxHeartbeats 800000 in
theorem accesses_any (a : Option Addr) (n c : Nat) (x : Nat → W.Oz) (w : World) (hO : Ol a n x w) (hn : n ≤ 4096) :
    Calls Tryd.prog 36 #[.slice a n c] w fun e w' => e = .returned (.int .i64 (W.cnt x n : Int)) ∧ w = w' := by
  have HO : Hid _ := hO
  clear hO
  go_enter Tryd.func36, Tryd.ntmps36
  go_wp2
  go_loopw [3, 7] (fun s i wr => ∃ j : Nat, j ≤ n ∧ s = .int .i64 (W.cnt x j : Int) ∧ i = .int .i64 (j : Int) ∧ wr = w) (fun _ i _ => n - (intOf i).toNat)
  case atStart => exact ⟨0, by omega, rfl, rfl, rfl⟩
  case round =>
    obtain ⟨j, hj, rfl, rfl, rfl⟩ := hrel
    have cl := W.cnt_le x j
    by_cases hlt : j < n
    · obtain ⟨g, off, rfl, hx⟩ := HO.out.at_ (by omega)
      have g0 := (hx j hlt).o.c0
      have lt := (hx j hlt).o.lt
      have hjn : (j : Int) < (n : Int) := by omega
      have e1 : W.cnt x (j + 1) = bif (x j).o.k != 4 then W.cnt x j + 1 else W.cnt x j := rfl
      clear hx
      generalize (x j).o.k = k at *
      generalize W.cnt x j = T at *
      cases hk : (k != 4)
      · rw [hk] at e1
        go_wp2
        go_roundw
        case rel => exact ⟨j + 1, by omega, by rw [e1]; rfl, by go_num, trivial⟩
        case measure => simp [intOf]; omega
      · rw [hk] at e1
        go_wp2
        go_roundw
        case rel => exact ⟨j + 1, by omega, by rw [e1]; show _ = Value.int .i64 ((T + 1 : Nat) : Int); go_num, by go_num, trivial⟩
        case measure => simp [intOf]; omega
    · have hjn : ¬ (j : Int) < (n : Int) := by omega
      obtain rfl : j = n := by omega
      go_wp2
      go_ret
      exact ⟨rfl, rfl⟩
end Go.Proofs.YtibohlbkkaghkaaDoor
