/- Texts in one: WmoC, WmoD, WmoE, WmoF, WmoG, PpoU, WmoH. -/
import Derived.Deep.QuietTactic
import Derived.Deep.WholeRow
import Derived.Maps.Own
import Derived.Maps.OwnOps
import Derived.Maps.Views
import Derived.Maps.OwnSet
import Derived.Test.YtibohlbkkaghkaaDoorJ01
/- wmo: harts in memory; Valid; places in order. -/
namespace Go.Proofs.YtibohlbkkaghkaaDoor
open Go.ChangeShapes Go.WideShapes Go.ChangeAt Go.RowKit
set_option linter.unusedVariables false
set_option linter.unusedSimpArgs false

namespace W
def tot (n : Nat → Nat) : Nat → Nat
  | 0 => 0
  | k + 1 => tot n k + n k
theorem tot_le (n : Nat → Nat) : ∀ (k j : Nat), k ≤ j → tot n k ≤ tot n j
  | k, 0, h => by have : k = 0 := by omega
                  subst this; exact Nat.le_refl _
  | k, j + 1, h => by
    by_cases e : k = j + 1
    · subst e; exact Nat.le_refl _
    · have := tot_le n k j (by omega)
      show _ ≤ tot n j + n j
      omega
/-- How many are no Barriers. -/
def cnt (x : Nat → Oz) : Nat → Nat
  | 0 => 0
  | n + 1 => bif (x n).o.k != 4 then cnt x n + 1 else cnt x n
theorem cnt_le (x : Nat → Oz) : ∀ n, cnt x n ≤ n
  | 0 => Nat.le_refl _
  | n + 1 => by
    have := cnt_le x n
    unfold cnt
    cases ((x n).o.k != 4)
    · show cnt x n ≤ n + 1; omega
    · show cnt x n + 1 ≤ n + 1; omega
end W
/-- Harts in memory. -/
structure Hs (b K : Nat) (a : Nat → Option Addr) (n c : Nat → Nat) (x : Nat → Nat → W.Oz) (w : World) : Prop where
  lt : b < w.heap.size
  cl : ∀ h, h < K → w.cell? ⟨b, h, none⟩ = some (.slice (a h) (n h) (c h))
  ol : ∀ h, h < K → Ol (a h) (n h) (x h) w
theorem Hs.below {b K : Nat} {a : Nat → Option Addr} {n c : Nat → Nat} {x : Nat → Nat → W.Oz} {w w' : World} (h : Hs b K a n c x w) (hb : Below w.heap.size w w') : Hs b K a n c x w' :=
  ⟨Nat.lt_of_lt_of_le h.lt hb.size, fun j hj => (hb.cell (p := ⟨b, j, none⟩) h.lt).trans (h.cl j hj), fun j hj => (h.ol j hj).below hb⟩
/-- Few enough, with shapes that can be. -/
structure W.Vd (K : Nat) (n : Nat → Nat) (x : Nat → Nat → W.Oz) : Prop where
  k : K ≤ 64
  t : W.tot n K ≤ 4096
  s : ∀ h, h < K → W.Shp (x h) (n h)
theorem W.Vd.le {K : Nat} {n : Nat → Nat} {x : Nat → Nat → W.Oz} (v : W.Vd K n x) (h : Nat) (hh : h < K) : n h ≤ 4096 := by
  have h1 := W.tot_le n (h + 1) K (by omega)
  have h2 := v.t
  have h3 : W.tot n (h + 1) = W.tot n h + n h := rfl
  omega
set_option maxHeartbeats 800000 in
theorem many_any (b K KC : Nat) (a : Nat → Option Addr) (n c : Nat → Nat) (x : Nat → Nat → W.Oz) (w : World) (h : Hs b K a n c x w) (v : W.Vd K n x) :
    Calls Tryd.prog 34 #[.slice (some ⟨b, 0, none⟩) K KC] w fun e w' => e = .returned (.bool false) ∧ w = w' := by
  have k1 := v.k
  have t1 := v.t
  have lt := h.lt
  have HH : Hid (_ ∧ _) := ⟨h.cl, W.tot_le n⟩
  have kk : ¬ (64 : Int) < (K : Int) := by omega
  clear h v
  go_enter Tryd.func34, Tryd.ntmps34
  go_wp2
  go_loopw [3, 11] (fun s i wr => ∃ j : Nat, j ≤ K ∧ s = .int .i64 (W.tot n j : Int) ∧ i = .int .i64 (j : Int) ∧ wr = w) (fun _ i _ => K - (intOf i).toNat)
  case atStart => exact ⟨0, by omega, rfl, rfl, rfl⟩
  case round =>
    obtain ⟨j, hj, rfl, rfl, rfl⟩ := hrel
    have tj := HH.out.2 j K hj
    by_cases hlt : j < K
    · have g0 := HH.out.1 j hlt
      have hjn : (j : Int) < (K : Int) := by omega
      have e1 : W.tot n (j + 1) = W.tot n j + n j := rfl
      have tj1 := HH.out.2 (j + 1) K (by omega)
      rw [e1] at tj1
      generalize n j = nj at *
      generalize a j = aj at *
      generalize c j = cj at *
      generalize hT : W.tot n j = T at *
      go_wp2
      go_roundw
      case rel => exact ⟨j + 1, by omega, by rw [e1]; go_num, by go_num, trivial⟩
      case measure => simp [intOf]; omega
    · have hjn : ¬ (j : Int) < (K : Int) := by omega
      generalize hT : W.tot n j = T at *
      have tt : ¬ (20000 : Int) < (T : Int) := by omega
      go_wp2
      go_ret
      first | exact ⟨rfl, rfl⟩ | exact ⟨by simp [tt], rfl⟩
set_option maxHeartbeats 800000 in
theorem valid_any (b K KC : Nat) (a : Nat → Option Addr) (n c : Nat → Nat) (x : Nat → Nat → W.Oz) (w : World) (h : Hs b K a n c x w) (v : W.Vd K n x) :
    Calls Tryd.prog 24 #[.slice (some ⟨b, 0, none⟩) K KC] w fun e w' => e = .returned .nilIface ∧ Below w.heap.size w w' := by
  have HH : Hid (Calls _ _ _ _ _ ∧ _ ∧ _) := ⟨many_any b K KC a n c x w h v, h, v⟩
  clear h v
  go_enter Tryd.func24, Tryd.ntmps24
  go_wp2_with (fail)
  refine HH.out.1.mono ?_
  rintro e w1 ⟨rfl, rfl⟩
  go_wp2
  go_loopw [3, 12] (fun s i wr => ∃ j : Nat, j ≤ K ∧ s = .int .i64 (W.tot n j : Int) ∧ i = .int .i64 (j : Int) ∧ Below w.heap.size w wr) (fun _ i _ => K - (intOf i).toNat)
  case atStart => exact ⟨0, by omega, rfl, rfl, Below.refl _ _⟩
  case round =>
    obtain ⟨j, hj, rfl, rfl, br⟩ := hrel
    have tj := W.tot_le n j K hj
    have t1 := HH.out.2.2.t
    have k1 := HH.out.2.2.k
    by_cases hlt : j < K
    · have hm := HH.out.2.1.below br
      have g0 := hm.cl j hlt
      have lt := hm.lt
      have hjn : (j : Int) < (K : Int) := by omega
      have e1 : W.tot n (j + 1) = W.tot n j + n j := rfl
      have tj1 := W.tot_le n (j + 1) K (by omega)
      rw [e1] at tj1
      have hms := misshapen_any (a j) (n j) (c j) (x j) wr (hm.ol j hlt) (HH.out.2.2.le j hlt) (HH.out.2.2.s j hlt)
      have HM : Hid (Calls _ _ _ _ _ ∧ _) := ⟨hms, br⟩
      clear hms br hm
      generalize n j = nj at *
      generalize a j = aj at *
      generalize c j = cj at *
      generalize hT : W.tot n j = T at *
      go_wp2_with (fail)
      refine HM.out.1.mono ?_
      rintro e w2 ⟨rfl, b2⟩
      have b3 := HM.out.2.trans (b2.mono HM.out.2.size)
      clear HM b2
      have nn : ¬ (nj : Int) < (nj : Int) := by omega
      go_wp2
      go_roundw
      case rel => exact ⟨j + 1, by omega, by rw [e1]; go_num, by go_num, b3⟩
      case measure => simp [intOf]; omega
    · have hjn : ¬ (j : Int) < (K : Int) := by omega
      generalize hT : W.tot n j = T at *
      go_wp2
      go_ret
      exact ⟨rfl, br⟩
set_option maxHeartbeats 800000 in
theorem accesses_any (a : Option Addr) (n c : Nat) (x : Nat → W.Oz) (w : World) (hO : Ol a n x w) (hn : n ≤ 4096) :
    Calls Tryd.prog 36 #[.slice a n c] w fun e w' => e = .returned (.int .i64 (W.cnt x n : Int)) ∧ w = w' := by
  have HO : Hid _ := hO
  clear hO
  go_enter Tryd.func36, Tryd.ntmps36
  go_wp2
  go_loopw [3, 7] (fun s i wr => ∃ j : Nat, j ≤ n ∧ s = .int .i64 (W.cnt x j : Int) ∧ i = .int .i64 (j : Int) ∧ wr = w) (fun _ i _ => n - (intOf i).toNat)
  case atStart => exact ⟨0, by omega, rfl, rfl, rfl⟩
  case round =>
    obtain ⟨j, hj, rfl, rfl, rfl⟩ := hrel
    have cl := W.cnt_le x j
    by_cases hlt : j < n
    · obtain ⟨g, off, rfl, hx⟩ := HO.out.at_ (by omega)
      have g0 := (hx j hlt).o.c0
      have lt := (hx j hlt).o.lt
      have hjn : (j : Int) < (n : Int) := by omega
      have e1 : W.cnt x (j + 1) = bif (x j).o.k != 4 then W.cnt x j + 1 else W.cnt x j := rfl
      clear hx
      generalize (x j).o.k = k at *
      generalize W.cnt x j = T at *
      cases hk : (k != 4)
      · rw [hk] at e1
        go_wp2
        go_roundw
        case rel => exact ⟨j + 1, by omega, by rw [e1]; rfl, by go_num, trivial⟩
        case measure => simp [intOf]; omega
      · rw [hk] at e1
        go_wp2
        go_roundw
        case rel => exact ⟨j + 1, by omega, by rw [e1]; show _ = Value.int .i64 ((T + 1 : Nat) : Int); go_num, by go_num, trivial⟩
        case measure => simp [intOf]; omega
    · have hjn : ¬ (j : Int) < (n : Int) := by omega
      obtain rfl : j = n := by omega
      go_wp2
      go_ret
      exact ⟨rfl, rfl⟩
end Go.Proofs.YtibohlbkkaghkaaDoor

/- wmo: find. -/
namespace Go.Proofs.YtibohlbkkaghkaaDoor
open Go.ChangeShapes Go.WideShapes Go.ChangeAt Go.RowKit
set_option linter.unusedVariables false
set_option linter.unusedSimpArgs false

theorem bdN {n : Nat} {x y : World} (h : Below n x y) : ∀ k, Below n x (y.drewN k)
  | 0 => h
  | k + 1 => by
    have := (bdN h k).drew
    exact this
set_option maxHeartbeats 800000 in
theorem find_any (b K KC : Nat) (a : Nat → Option Addr) (n c : Nat → Nat) (x : Nat → Nat → W.Oz) (w : World) (h : Hs b K a n c x w) (hn : ∀ h, h < K → n h ≤ 4096) (kK : K ≤ 64) (i j : Nat) (hi : i < K) (hj : j < n i) (hk : (x i j).o.k ≠ 4) :
    Calls Tryd.prog 37 #[.slice (some ⟨b, 0, none⟩) K KC, .agg #[.int .i64 (i : Int), .int .i64 (j : Int)]] w fun e w' => (∃ p, e = .returned (.pointer (some p))) ∧ Below w.heap.size w w' := by
  have lt := h.lt
  have c0 := h.cl i hi
  obtain ⟨g, off, ha, hx⟩ := (h.ol i hi).at_ (by omega)
  rw [ha] at c0
  have k0 := (hx j hj).o.c0
  have gl := (hx j hj).o.lt
  have n0 := hn i hi
  have r : ((x i j).o.k != 4) = true := by simpa using hk
  have hiK : (i : Int) < (K : Int) := by omega
  have hjn : (j : Int) < (n i : Int) := by omega
  clear h hn hx hk ha
  generalize (x i j).o.k = k at *
  generalize n i = ni at *
  generalize c i = ci at *
  go_enter Tryd.func37, Tryd.ntmps37
  go_wp2
  go_quiet (fail)
  go_wp2
  go_quiet (fail)
  go_wp2
  go_ret
  exact ⟨⟨_, rfl⟩, bdN ((Below.refl _ _).alloc (Nat.le_refl _) _) _⟩
end Go.Proofs.YtibohlbkkaghkaaDoor

/- wmo: lay: the place in order of each operation. -/
namespace Go.Proofs.YtibohlbkkaghkaaDoor
open Go.ChangeShapes Go.WideShapes Go.ChangeAt Go.RowKit
set_option linter.unusedVariables false
set_option linter.unusedSimpArgs false

namespace W
/-- The place of (h, i) among the first j of order; 0: none. -/
def plc (r : Nat → Nat × Nat) : Nat → Nat → Nat → Int
  | 0, _, _ => 0
  | j + 1, h, i => if h = (r j).1 ∧ i = (r j).2 then (j : Int) + 1 else plc r j h i
end W
/-- Refs in memory. -/
structure Os (a : Option Addr) (N : Nat) (r : Nat → Nat × Nat) (w : World) : Prop where
  at_ : 0 < N → ∃ b, a = some ⟨b, 0, none⟩ ∧ b < w.heap.size ∧ ∀ j, j < N → w.cell? ⟨b, j * 2, none⟩ = some (.int .i64 ((r j).1 : Int)) ∧ w.cell? ⟨b, j * 2 + 1, none⟩ = some (.int .i64 ((r j).2 : Int))
theorem Os.below {a : Option Addr} {N : Nat} {r : Nat → Nat × Nat} {w w' : World} (h : Os a N r w) (hb : Below w.heap.size w w') : Os a N r w' :=
  ⟨fun h0 => by
    obtain ⟨b, e, hl, hc⟩ := h.at_ h0
    exact ⟨b, e, Nat.lt_of_lt_of_le hl hb.size, fun j hj => ⟨(hb.cell (p := ⟨b, _, none⟩) hl).trans (hc j hj).1, (hb.cell (p := ⟨b, _, none⟩) hl).trans (hc j hj).2⟩⟩⟩
/-- Each Ref names an operation, none twice, and all are there. -/
structure W.Or (K : Nat) (n : Nat → Nat) (x : Nat → Nat → W.Oz) (N : Nat) (r : Nat → Nat × Nat) : Prop where
  h : ∀ j, j < N → (r j).1 < K
  i : ∀ j, j < N → (r j).2 < n (r j).1
  k : ∀ j, j < N → (x (r j).1 (r j).2).o.k ≠ 4
  f : ∀ j, j < N → W.plc r j (r j).1 (r j).2 = 0
  t : W.tot (fun h => W.cnt (x h) (n h)) K = N
/-- Places in memory, of the first m harts. -/
structure Pl (base PB K : Nat) (n : Nat → Nat) (pb : Nat → Nat) (f : Nat → Nat → Int) (m : Nat) (w : World) : Prop where
  o : Bc PB K (fun h => if h < m then .slice (some ⟨pb h, 0, none⟩) (n h) (n h) else .slice none 0 0) w
  i : ∀ h, h < m → Bc (pb h) (n h) (fun i => .int .i64 (f h i)) w
  ne : ∀ h, h < m → pb h ≠ PB
  inj : ∀ h h', h < m → h' < m → h ≠ h' → pb h ≠ pb h'
  b0 : base ≤ PB
  bi : ∀ h, h < m → base ≤ pb h
theorem Pl.below {base PB K : Nat} {n : Nat → Nat} {pb : Nat → Nat} {f : Nat → Nat → Int} {m : Nat} {w w' : World} (h : Pl base PB K n pb f m w) (hb : Below w.heap.size w w') : Pl base PB K n pb f m w' :=
  ⟨h.o.below hb, fun j hj => (h.i j hj).below hb, h.ne, h.inj, h.b0, h.bi⟩
/-- One hart more. -/
theorem Pl.step {base PB K : Nat} {n : Nat → Nat} {pb : Nat → Nat} {f : Nat → Nat → Int} {m : Nat} {w : World} (h : Pl base PB K n pb f m w) (hm : m < K) (T : TypeId) (hf : ∀ i, f m i = 0) (hbase : base ≤ w.heap.size) :
    Pl base PB K n (fun j => if j = m then w.heap.size else pb j) f (m + 1) ((w.alloc (.cells (madeCells #[.int .i64 0] (n m)) T)).setCell ⟨PB, m, none⟩ (.slice (some ⟨w.heap.size, 0, none⟩) (n m) (n m))) := by
  have hal : Below w.heap.size w (w.alloc (.cells (madeCells #[.int .i64 0] (n m)) T)) := (Below.refl _ _).alloc (Nat.le_refl _) _
  have q := h.below hal
  have hw : w.heap.size ≠ PB := by have := h.o.lt; omega
  refine ⟨((q.o.set m _).congr fun j hj => ?_), fun j hj => ?_, fun j hj => ?_, fun j j' hj hj' hne => ?_, h.b0, fun j hj => ?_⟩
  · unfold updV
    by_cases e : j = m
    · subst e; rw [if_pos rfl, if_pos (by omega), if_pos rfl]
    · rw [if_neg e, if_neg e]
      dsimp only
      by_cases e2 : j < m
      · rw [if_pos e2, if_pos (by omega)]
      · rw [if_neg e2, if_neg (by omega)]
  · by_cases e : j = m
    · subst e
      rw [if_pos rfl]
      refine ((Bc.made w #[.int .i64 0] (n j) T).congr fun i hi => ?_).other PB j _ hw
      rw [hf]
      show (#[Value.int .i64 0] : Array Value)[i % 1]! = _
      rw [Nat.mod_one]
      rfl
    · rw [if_neg e]
      exact (q.i j (by omega)).other PB m _ (h.ne j (by omega))
  · by_cases e : j = m
    · rw [if_pos e]; exact hw
    · rw [if_neg e]; exact h.ne j (by omega)
  · have hlt : ∀ t, t < m → pb t ≠ w.heap.size := fun t ht e => by have := (h.i t ht).lt; omega
    by_cases e : j = m
    · rw [if_pos e, if_neg (by omega)]
      exact (hlt j' (by omega)).symm
    · rw [if_neg e]
      by_cases e2 : j' = m
      · rw [if_pos e2]; exact hlt j (by omega)
      · rw [if_neg e2]; exact h.inj j j' (by omega) (by omega) hne
  · by_cases e : j = m
    · rw [if_pos e]; exact hbase
    · rw [if_neg e]; exact h.bi j (by omega)
/-- A place written. -/
theorem Pl.set {base PB K : Nat} {n : Nat → Nat} {pb : Nat → Nat} {f : Nat → Nat → Int} {m : Nat} {w : World} (h : Pl base PB K n pb f m w) (a b : Nat) (ha : a < m) (v : Int) :
    Pl base PB K n pb (fun j i => if j = a ∧ i = b then v else f j i) m (w.setCell ⟨pb a, b, none⟩ (.int .i64 v)) := by
  refine ⟨h.o.other _ _ _ (h.ne a ha).symm, fun j hj => ?_, h.ne, h.inj, h.b0, h.bi⟩
  by_cases e : j = a
  · subst e
    refine ((h.i j hj).set b _).congr fun i hi => ?_
    unfold updV
    by_cases e2 : i = b
    · rw [if_pos e2, if_pos ⟨rfl, e2⟩]
    · rw [if_neg e2, if_neg (fun q => e2 q.2)]
  · refine ((h.i j hj).other _ _ _ (h.inj j a hj ha e)).congr fun i hi => ?_
    rw [if_neg (fun q => e q.1)]
theorem Pl.congr {base PB K : Nat} {n : Nat → Nat} {pb : Nat → Nat} {f g : Nat → Nat → Int} {m : Nat} {w : World} (h : Pl base PB K n pb f m w) (e : ∀ j i, f j i = g j i) : Pl base PB K n pb g m w := by
  have : f = g := funext fun j => funext fun i => e j i
  subst this; exact h
theorem make_lists (n : Nat) (hn : n ≤ 8192) (w : World) : (Instr.makeSlice 64 (.int .i64 (n : Int)) (.int .i64 (n : Int))).run Tryd.prog w = .ok (.slice (some ⟨w.heap.size, 0, none⟩) n n) (w.alloc (.cells (madeCells #[.slice none 0 0] n) 23)) := by
  obtain ⟨i, hi, hzz⟩ := Option.map_eq_some_iff.1 (show (Tryd.prog.info? 23).map (fun i => (i.zero, i.size, i.bytes)) = some (some (.slice none 0 0), 1, 24) by kernel_rfl)
  simp only [Prod.mk.injEq] at hzz
  obtain ⟨hz, hs, hb⟩ := hzz
  have hr := run_make (P := Tryd.prog) w 64 23 i _ Tryd.underlying64 hi hz .i64 .i64 n n (by omega) (by omega) (by rw [hb]; omega) (by omega)
  simp only [Int.toNat_natCast, hs, Nat.mul_one] at hr
  exact hr
theorem Pl.start (w : World) (K : Nat) (n : Nat → Nat) (T : TypeId) : Pl w.heap.size w.heap.size K n (fun _ => 0) (fun _ _ => 0) 0 (w.alloc (.cells (madeCells #[.slice none 0 0] K) T)) :=
  ⟨(Bc.made w #[.slice none 0 0] K T).congr fun i hi => by
      rw [if_neg (by omega)]
      show (#[Value.slice none 0 0] : Array Value)[i % 1]! = _
      rw [Nat.mod_one]
      rfl, fun h hh => absurd hh (by omega), fun h hh => absurd hh (by omega), fun h h' hh => absurd hh (by omega), Nat.le_refl _, fun h hh => absurd hh (by omega)⟩
end Go.Proofs.YtibohlbkkaghkaaDoor

/- wmo: lay. -/
namespace Go.Proofs.YtibohlbkkaghkaaDoor
open Go.ChangeShapes Go.WideShapes Go.ChangeAt Go.RowKit
set_option linter.unusedVariables false
set_option linter.unusedSimpArgs false

theorem W.tot_mono {f g : Nat → Nat} (h : ∀ j, f j ≤ g j) : ∀ k, W.tot f k ≤ W.tot g k
  | 0 => Nat.le_refl _
  | k + 1 => Nat.add_le_add (W.tot_mono h k) (h k)
/-- What lay's test reads: a Ref, a list of places, a place. -/
abbrev SLy (W : World) (rb PB pbh h i : Nat) (nh : Nat) (w : World) : Prop := Below W.heap.size W w ∧ rb < w.heap.size ∧ PB < w.heap.size ∧ pbh < w.heap.size ∧ w.cell? ⟨rb, 0, none⟩ = some (.int .i64 (h : Int)) ∧ w.cell? ⟨rb, 1, none⟩ = some (.int .i64 (i : Int)) ∧ w.cell? ⟨PB, h, none⟩ = some (.slice (some ⟨pbh, 0, none⟩) nh nh) ∧ w.cell? ⟨pbh, i, none⟩ = some (.int .i64 0)
theorem SLy.below {W : World} {rb PB pbh h i nh : Nat} {w w' : World} (s : SLy W rb PB pbh h i nh w) (hb : Below w.heap.size w w') : SLy W rb PB pbh h i nh w' := by
  obtain ⟨s1, s2, s3, s4, s5, s6, s7, s8⟩ := s
  exact ⟨s1.trans (hb.mono s1.size), Nat.lt_of_lt_of_le s2 hb.size, Nat.lt_of_lt_of_le s3 hb.size, Nat.lt_of_lt_of_le s4 hb.size, (hb.cell (p := ⟨rb, _, none⟩) s2).trans s5, (hb.cell (p := ⟨rb, _, none⟩) s2).trans s6, (hb.cell (p := ⟨PB, _, none⟩) s3).trans s7, (hb.cell (p := ⟨pbh, _, none⟩) s4).trans s8⟩
set_option maxHeartbeats 1600000 in
theorem lay_any (b K KC : Nat) (a : Nat → Option Addr) (n c : Nat → Nat) (x : Nat → Nat → W.Oz) (oa : Option Addr) (N oc : Nat) (r : Nat → Nat × Nat) (w : World) (h : Hs b K a n c x w) (v : W.Vd K n x) (ho : Os oa N r w) (hr : W.Or K n x N r) :
    Calls Tryd.prog 25 #[.slice (some ⟨b, 0, none⟩) K KC, .slice oa N oc] w fun e w' => (∃ PB pb, e = .returned (.tuple #[.slice (some ⟨PB, 0, none⟩) K K, .int .i64 0]) ∧ Pl w.heap.size PB K n pb (W.plc r N) K w') ∧ Below w.heap.size w w' := by
  have k1 := v.k
  have hmk := make_lists K (by omega) w
  have P0 := Pl.start w K n 23
  have B0 : Below w.heap.size w (w.alloc (.cells (madeCells #[.slice none 0 0] K) 23)) := (Below.refl _ _).alloc (Nat.le_refl _) _
  generalize w.alloc _ = W1 at *
  have HH : Hid (_ ∧ _ ∧ _ ∧ _ ∧ _ ∧ _) := ⟨h, v, ho, hr, P0, B0⟩
  clear h v ho hr P0 B0
  go_enter Tryd.func25, Tryd.ntmps25
  go_wp2
  go_loopw [7, 17] (fun s i wr => ∃ j : Nat, j ≤ K ∧ s = .int .i64 (W.tot (fun h => W.cnt (x h) (n h)) j : Int) ∧ i = .int .i64 (j : Int) ∧ (∃ pb, Pl w.heap.size w.heap.size K n pb (fun _ _ => 0) j wr) ∧ Below w.heap.size w wr) (fun _ i _ => K - (intOf i).toNat)
  case atStart => exact ⟨0, by omega, rfl, rfl, ⟨_, HH.out.2.2.2.2.1⟩, HH.out.2.2.2.2.2⟩
  case round =>
    clear hmk
    obtain ⟨j, hj, rfl, rfl, ⟨pb, hP⟩, br⟩ := hrel
    by_cases hlt : j < K
    · have hm := HH.out.1.below br
      have g0 := hm.cl j hlt
      have lt := hm.lt
      have hjn : (j : Int) < (K : Int) := by omega
      have nle := HH.out.2.1.le j hlt
      have hmi := make_ints (n j) (by omega) wr
      have P1 := hP.below ((Below.refl _ _).alloc (Nat.le_refl _) (.cells (madeCells #[.int .i64 0] (n j)) 3))
      have q := P1.o.c j hlt
      rw [if_neg (Nat.lt_irrefl j)] at q
      have fz := P1.o.fz
      have ql := P1.o.lt
      have P2 := hP.step hlt 3 (fun _ => rfl) br.size
      have B2 : Below w.heap.size w ((wr.alloc (.cells (madeCells #[.int .i64 0] (n j)) 3)).setCell ⟨w.heap.size, j, none⟩ (.slice (some ⟨wr.heap.size, 0, none⟩) (n j) (n j))) := (br.alloc br.size _).setCell (p := ⟨w.heap.size, j, none⟩) (Nat.le_refl _) _
      have e1 : W.tot (fun h => W.cnt (x h) (n h)) (j + 1) = W.tot (fun h => W.cnt (x h) (n h)) j + W.cnt (x j) (n j) := rfl
      have tj1 := W.tot_le (fun h => W.cnt (x h) (n h)) (j + 1) K (by omega)
      have tn := W.tot_mono (fun h => W.cnt_le (x h) (n h)) K
      have tt := HH.out.2.1.t
      have ac := accesses_any (a j) (n j) (c j) (x j) _ ((HH.out.1.below B2).ol j hlt) nle
      have HX : Hid (Calls _ _ _ _ _ ∧ _ ∧ _) := ⟨ac, P2, B2⟩
      clear ac P2 B2 P1 hP hm
      rw [e1] at tj1
      generalize wr.alloc _ = W2 at *
      generalize n j = nj at *
      generalize a j = aj at *
      generalize c j = cj at *
      generalize hT : W.tot (fun h => W.cnt (x h) (n h)) j = T at *
      go_wp2_with (fail)
      refine HX.out.1.mono ?_
      rintro e w3 ⟨rfl, rfl⟩
      generalize hC : W.cnt (x j) nj = CN at *
      go_wp2
      go_roundw
      case rel => exact ⟨j + 1, by omega, by rw [e1]; go_num, by go_num, ⟨_, HX.out.2.1⟩, HX.out.2.2⟩
      case measure => simp [intOf]; omega
    · obtain rfl : j = K := by omega
      have hjn : ¬ (j : Int) < (j : Int) := by omega
      have et := HH.out.2.2.2.1.t
      have tn := W.tot_mono (fun h => W.cnt_le (x h) (n h)) j
      have tt := HH.out.2.1.t
      rw [et] at tn ⊢
      have HP : Hid (_ ∧ _) := ⟨hP, br⟩
      clear hP br
      go_wp2
      go_loopw [7, 35] (fun s i wx => ∃ q : Nat, q ≤ N ∧ s = .int .i64 ((N - q : Nat) : Int) ∧ i = .int .i64 (q : Int) ∧ Pl w.heap.size w.heap.size j n pb (W.plc r q) j wx ∧ Below w.heap.size w wx) (fun _ i _ => N - (intOf i).toNat)
      case atStart => exact ⟨0, by omega, rfl, rfl, HP.out.1, HP.out.2⟩
      case round =>
        clear HP
        obtain ⟨q, hq, rfl, rfl, hP, br⟩ := hrel
        by_cases hlt : q < N
        · have hqn : (q : Int) < (N : Int) := by omega
          obtain ⟨ob, rfl, ol, oc'⟩ := (HH.out.2.2.1.below br).at_ (by omega)
          obtain ⟨o1, o2⟩ := oc' q hlt
          have rh := HH.out.2.2.2.1.h q hlt
          have ri := HH.out.2.2.2.1.i q hlt
          have rk := HH.out.2.2.2.1.k q hlt
          have rf := HH.out.2.2.2.1.f q hlt
          generalize hrq : r q = rq at *
          obtain ⟨H, I⟩ := rq
          dsimp only at *
          have nH := HH.out.2.1.le H rh
          have P1 := hP.below ((Below.refl _ _).alloc (Nat.le_refl _) (.cells #[.int .i64 (H : Int), .int .i64 (I : Int)] 41))
          have B1 : Below w.heap.size w (wr.alloc (.cells #[.int .i64 (H : Int), .int .i64 (I : Int)] 41)) := br.alloc br.size _
          have p1 := P1.o.c H rh
          try dsimp only at p1
          rw [if_pos rh] at p1
          have p2 := (P1.i H rh).c I ri
          rw [rf] at p2
          have hrow := heap_alloc_last wr (.cells #[.int .i64 (H : Int), .int .i64 (I : Int)] 41)
          have S0 : SLy w wr.heap.size w.heap.size (pb H) H I (n H) (wr.alloc (.cells #[.int .i64 (H : Int), .int .i64 (I : Int)] 41)) := ⟨B1, by simp, P1.o.lt, (P1.i H rh).lt, cell_of_row _ _ 0 _ _ (0, 0) hrow, cell_of_row _ _ 1 _ _ (0, 0) hrow, p1, p2⟩
          have S1 := S0.below (Below.refl _ _).drew
          have hfi := fun W' (hb : Below w.heap.size w W') => find_any b j KC a n c x W' (HH.out.1.below hb) (fun h hh => HH.out.2.1.le h hh) k1 H I rh ri rk
          have hHj : (H : Int) < (j : Int) := by omega
          have hIn : (I : Int) < (n H : Int) := by omega
          have HS : Hid (SLy w wr.heap.size w.heap.size (pb H) H I (n H) _ ∧ _ ∧ _ ∧ _) := ⟨S1, hfi, P1, B1⟩
          clear S0 S1 hfi P1 B1 p1 p2 hrow hP br oc'
          generalize hnH : n H = nH' at *
          generalize hpH : pb H = pH at *
          go_wp2_with (fail)
          go_region_held3 (fun w' => Below w.heap.size w w' ∧ wr.heap.size < w'.heap.size ∧ w.heap.size < w'.heap.size ∧ pH < w'.heap.size ∧ w'.cell? ⟨wr.heap.size, 0, none⟩ = some (.int .i64 (H : Int)) ∧ w'.cell? ⟨wr.heap.size, 1, none⟩ = some (.int .i64 (I : Int)) ∧ w'.cell? ⟨w.heap.size, H, none⟩ = some (.slice (some ⟨pH, 0, none⟩) nH' nH') ∧ w'.cell? ⟨pH, I, none⟩ = some (.int .i64 0))
            (first
              | exact HS.out.1
              | (refine SLy.below ?_ b2; assumption)
              | with_reducible assumption)
            (first
              | (go_at_call 37; refine (HS.out.2.1 _ (And.left (by assumption))).mono ?_; rintro e w2 ⟨⟨p, rfl⟩, b2⟩))
          all_goals
            obtain ⟨t1, t2, t3, t4, t5, t6, t7, t8⟩ := SLy.below HS.out.1 b2
            have D2 := (Below.refl (wr.alloc (.cells #[.int .i64 (H : Int), .int .i64 (I : Int)] 41)).heap.size (wr.alloc (.cells #[.int .i64 (H : Int), .int .i64 (I : Int)] 41))).drew.trans b2
            have P2 := HS.out.2.2.1.below D2
            have fz := (P2.i H rh).fz
            rw [hpH] at fz
            have P3 := P2.set H I rh ((q : Int) + 1)
            rw [hpH] at P3
            have P4 := P3.congr (g := W.plc r (q + 1)) (fun h' i' => by
              show _ = if h' = (r q).1 ∧ i' = (r q).2 then (q : Int) + 1 else W.plc r q h' i'
              rw [hrq])
            have B4 := t1.setCell (p := ⟨pH, I, none⟩) (by have := P2.bi H rh; rw [hpH] at this; exact this) (.int .i64 ((q : Int) + 1))
            have HZ : Hid (_ ∧ _) := ⟨P4, B4⟩
            clear P2 P3 P4 B4 D2 HS b2 t1
            go_wp2
            go_region
            go_wp2
            go_roundw
            case rel => exact ⟨q + 1, by omega, by go_num, by go_num, HZ.out.1.below (Below.refl _ _).drew, HZ.out.2.drew⟩
            case measure => simp [intOf]; omega
        · obtain rfl : q = N := by omega
          have hqn : ¬ (q : Int) < (q : Int) := by omega
          have HZ : Hid (_ ∧ _) := ⟨hP, br⟩
          clear hP br
          have z0 : ((q - q : Nat) : Int) = 0 := by omega
          rw [z0]
          go_wp2
          refine bodyPost_ret (v := .tuple #[.slice (some ⟨w.heap.size, 0, none⟩) j j, .int .i64 0]) (by simp [results, Tryd.results25, go_sem]) rfl ⟨⟨_, rfl, pb, HZ.out.1⟩, HZ.out.2⟩
end Go.Proofs.YtibohlbkkaghkaaDoor

/- wmo: harts that go as their lists do. -/
namespace Go.Proofs.YtibohlbkkaghkaaDoor
open Go.ChangeShapes Go.WideShapes Go.ChangeAt Go.RowKit
set_option linter.unusedVariables false
set_option linter.unusedSimpArgs false

namespace W
def mx (f : Nat → Int) : Nat → Int
  | 0 => 0
  | j + 1 => max (mx f j) (f j)
/-- Each place, but 0, is no less than those ahead of it. -/
def InT (f : Nat → Int) (n : Nat) : Prop := ∀ j, j < n → f j = 0 ∨ mx f j ≤ f j
end W
set_option maxHeartbeats 800000 in
theorem inTurn_any (pb n : Nat) (f : Nat → Int) (w : World) (h : Bc pb n (fun i => .int .i64 (f i)) w) (hn : n ≤ 4096) (ht : W.InT f n) :
    Calls Tryd.prog 51 #[.slice (some ⟨pb, 0, none⟩) n n] w fun e w' => e = .returned (.bool true) ∧ w = w' := by
  have lt := h.lt
  have HH : Hid (_ ∧ _) := ⟨h.c, ht⟩
  clear h ht
  go_enter Tryd.func51, Tryd.ntmps51
  go_wp2
  go_loopw [3, 8] (fun s i wr => ∃ j : Nat, j ≤ n ∧ s = .int .i64 (W.mx f j) ∧ i = .int .i64 (j : Int) ∧ wr = w) (fun _ i _ => n - (intOf i).toNat)
  case atStart => exact ⟨0, by omega, rfl, rfl, rfl⟩
  case round =>
    obtain ⟨j, hj, rfl, rfl, rfl⟩ := hrel
    by_cases hlt : j < n
    · have g0 := HH.out.1 j hlt
      have ht := HH.out.2 j hlt
      have hjn : (j : Int) < (n : Int) := by omega
      have e1 : W.mx f (j + 1) = max (W.mx f j) (f j) := rfl
      generalize f j = p at *
      generalize W.mx f j = T at *
      by_cases hp : p = 0
      · subst hp
        go_wp2
        go_roundw
        case rel => exact ⟨j + 1, by omega, by first | rw [e1] | (rw [e1]; simp), by go_num, trivial⟩
        case measure => simp [intOf]; omega
      · have r1 : (p != 0) = true := by simpa using hp
        have r2 : ¬ p < T := by omega
        go_wp2
        go_roundw
        case rel => exact ⟨j + 1, by omega, by first | rw [e1] | (rw [e1]; simp), by go_num, trivial⟩
        case measure => simp [intOf]; omega
    · have hjn : ¬ (j : Int) < (n : Int) := by omega
      generalize W.mx f j = T at *
      go_wp2
      go_ret
      exact ⟨rfl, rfl⟩
theorem turnedIn_any (a : Option Addr) (m c : Nat) (pb n : Nat) (f : Nat → Int) (w : World) (h : Bc pb n (fun i => .int .i64 (f i)) w) (hn : n ≤ 4096) (ht : W.InT f n) :
    Calls Tryd.prog 38 #[.slice a m c, .slice (some ⟨pb, 0, none⟩) n n] w fun e w' => e = .returned (.int .i64 0) ∧ w = w' := by
  have HH : Hid (Calls _ _ _ _ _) := inTurn_any pb n f w h hn ht
  clear h ht
  go_enter Tryd.func38, Tryd.ntmps38
  go_wp2_with (fail)
  refine HH.out.mono ?_
  rintro e w1 ⟨rfl, rfl⟩
  go_wp2
  go_ret
  exact ⟨rfl, rfl⟩
set_option maxHeartbeats 800000 in
theorem turned_any (b K KC : Nat) (a : Nat → Option Addr) (n c : Nat → Nat) (x : Nat → Nat → W.Oz) (base PB : Nat) (pb : Nat → Nat) (f : Nat → Nat → Int) (w : World) (h : Hs b K a n c x w) (v : W.Vd K n x) (hP : Pl base PB K n pb f K w) (ht : ∀ h, h < K → W.InT (f h) (n h)) :
    Calls Tryd.prog 27 #[.slice (some ⟨b, 0, none⟩) K KC, .slice (some ⟨PB, 0, none⟩) K K] w fun e w' => e = .returned (.int .i64 0) ∧ w = w' := by
  have k1 := v.k
  have lt := h.lt
  have pl := hP.o.lt
  have HH : Hid (_ ∧ _ ∧ _ ∧ _) := ⟨h, v, hP, ht⟩
  clear h v hP ht
  go_enter Tryd.func27, Tryd.ntmps27
  go_wp2
  go_loopw [5, 11] (fun s i wr => ∃ j : Nat, j ≤ K ∧ s = .int .i64 0 ∧ i = .int .i64 (j : Int) ∧ wr = w) (fun _ i _ => K - (intOf i).toNat)
  case atStart => exact ⟨0, by omega, rfl, rfl, rfl⟩
  case round =>
    obtain ⟨j, hj, rfl, rfl, rfl⟩ := hrel
    by_cases hlt : j < K
    · have g0 := HH.out.1.cl j hlt
      have q0 := HH.out.2.2.1.o.c j hlt
      rw [if_pos hlt] at q0
      have hjn : (j : Int) < (K : Int) := by omega
      have ti := turnedIn_any (a j) (n j) (c j) (pb j) (n j) (f j) wr (HH.out.2.2.1.i j hlt) (HH.out.2.1.le j hlt) (HH.out.2.2.2 j hlt)
      have HT : Hid (Calls _ _ _ _ _) := ti
      clear ti
      generalize n j = nj at *
      generalize a j = aj at *
      generalize c j = cj at *
      generalize pb j = pj at *
      go_wp2_with (fail)
      refine HT.out.mono ?_
      rintro e w1 ⟨rfl, rfl⟩
      go_wp2
      go_roundw
      case rel => exact ⟨j + 1, by omega, rfl, by go_num, trivial⟩
      case measure => simp [intOf]; omega
    · have hjn : ¬ (j : Int) < (K : Int) := by omega
      go_wp2
      go_ret
      exact ⟨rfl, rfl⟩
end Go.Proofs.YtibohlbkkaghkaaDoor

/- Operations of a law's own. -/
namespace Go.Proofs.YtibohlbkkaghkaaDoor
open Go.ChangeShapes Go.WideShapes Go.ChangeAt Go.RowKit
set_option linter.unusedVariables false
set_option linter.unusedSimpArgs false

structure S3 where
  a : W.Sl
  d : W.Sl
  c : W.Sl
def S3.nil : S3 := ⟨W.Sl.nil, W.Sl.nil, W.Sl.nil⟩
def opF (x : Nat → W.Oz) (S : Nat → S3) (i : Nat) : Value := match i % 13 with
  | 0 => .int .i64 (x (i / 13)).o.k
  | 1 => .int .i64 (x (i / 13)).o.sz
  | 2 => .int .u32 (x (i / 13)).o.ad
  | 3 => .int .u32 (x (i / 13)).o.vl
  | 4 => .int .u32 (x (i / 13)).o.gt
  | 5 => .bool (x (i / 13)).o.pr
  | 6 => .bool (x (i / 13)).o.aq
  | 7 => .bool (x (i / 13)).o.rl
  | 8 => .int .i64 (x (i / 13)).o.pd
  | 9 => .int .i64 (x (i / 13)).o.sc
  | 10 => slV (S (i / 13)).a
  | 11 => slV (S (i / 13)).d
  | _ => slV (S (i / 13)).c
/-- A list that lies in memory, not in block g. -/
structure Lg (g : Nat) (s : W.Sl) (l : List Int) (w : World) : Prop where
  li : Li s l w
  ap : ∀ b o, 0 < s.n → s.a = some ⟨b, o, none⟩ → b ≠ g
theorem Lg.below {g : Nat} {s : W.Sl} {l : List Int} {w w' : World} (h : Lg g s l w) (hb : Below w.heap.size w w') : Lg g s l w' := ⟨h.li.below hb, h.ap⟩
theorem Lg.set {g : Nat} {s : W.Sl} {l : List Int} {w : World} (h : Lg g s l w) (k : Nat) (v : Value) : Lg g s l (w.setCell ⟨g, k, none⟩ v) := ⟨h.li.set g k v h.ap, h.ap⟩
theorem lg_nil (g : Nat) (w : World) : Lg g W.Sl.nil [] w := ⟨li_nil w, fun b o h => absurd h (by decide)⟩
/-- Operations in a block of one's own. -/
structure Ow (g n : Nat) (x : Nat → W.Oz) (S : Nat → S3) (w : World) : Prop where
  b : Bc g (n * 13) (opF x S) w
  a : ∀ j, j < n → Lg g (S j).a (x j).a w
  d : ∀ j, j < n → Lg g (S j).d (x j).d w
  c : ∀ j, j < n → Lg g (S j).c (x j).c w
theorem Ow.below {g n : Nat} {x : Nat → W.Oz} {S : Nat → S3} {w w' : World} (h : Ow g n x S w) (hb : Below w.heap.size w w') : Ow g n x S w' :=
  ⟨h.b.below hb, fun j hj => (h.a j hj).below hb, fun j hj => (h.d j hj).below hb, fun j hj => (h.c j hj).below hb⟩
theorem Ow.cell {g n : Nat} {x : Nat → W.Oz} {S : Nat → S3} {w : World} (h : Ow g n x S w) (j k : Nat) (hj : j < n) (hk : k < 13) : w.cell? ⟨g, j * 13 + k, none⟩ = some (opF x S (j * 13 + k)) := h.b.c _ (by omega)
theorem Ow.oz {g n : Nat} {x : Nat → W.Oz} {S : Nat → S3} {w : World} (h : Ow g n x S w) (j : Nat) (hj : j < n) : OzAt g (0 + j * 13) (x j) w := by
  have q := fun k hk => h.cell j k hj hk
  have m : ∀ k, k < 13 → (j * 13 + k) % 13 = k := fun k hk => by omega
  have d : ∀ k, k < 13 → (j * 13 + k) / 13 = j := fun k hk => by omega
  have q0 := q 0 (by decide)
  have q1 := q 1 (by decide)
  have q2 := q 2 (by decide)
  have q5 := q 5 (by decide)
  have q6 := q 6 (by decide)
  have q7 := q 7 (by decide)
  have q8 := q 8 (by decide)
  have q9 := q 9 (by decide)
  have q10 := q 10 (by decide)
  have q11 := q 11 (by decide)
  have q12 := q 12 (by decide)
  unfold opF at q0 q1 q2 q5 q6 q7 q8 q9 q10 q11 q12
  rw [m _ (by decide), d _ (by decide)] at q0 q1 q2 q5 q6 q7 q8 q9 q10 q11 q12
  rw [Nat.zero_add]
  exact ⟨⟨h.b.lt, q0, q1, q2, q5, q6, q7⟩, q8, q9, ⟨_, q10, (h.a j hj).li⟩, ⟨_, q11, (h.d j hj).li⟩, ⟨_, q12, (h.c j hj).li⟩⟩
theorem Ow.ol {g n : Nat} {x : Nat → W.Oz} {S : Nat → S3} {w : World} (h : Ow g n x S w) : Ol (some ⟨g, 0, none⟩) n x w := ⟨fun _ => ⟨g, 0, rfl, fun j hj => h.oz j hj⟩⟩
/-- One of them written over. -/
def updX (x : Nat → W.Oz) (j : Nat) (z : W.Oz) : Nat → W.Oz := fun i => if i = j then z else x i
def updS (S : Nat → S3) (j : Nat) (s : S3) : Nat → S3 := fun i => if i = j then s else S i
theorem opF_upd (x : Nat → W.Oz) (S : Nat → S3) (j k : Nat) (hk : k < 13) (z : W.Oz) (s : S3) (v : Value) (hv : opF (fun _ => z) (fun _ => s) k = v) (he : ∀ i, i < 13 → i ≠ k → opF (fun _ => z) (fun _ => s) i = opF (fun _ => x j) (fun _ => S j) i) (i : Nat) : updV (opF x S) (j * 13 + k) v i = opF (updX x j z) (updS S j s) i := by
  have hc : ∀ (y : Nat → W.Oz) (U : Nat → S3) i, opF y U i = opF (fun _ => y (i / 13)) (fun _ => U (i / 13)) (i % 13) := fun y U i => by
    unfold opF
    rw [Nat.mod_mod]
  have h1 : ∀ (y : W.Oz) (u : S3) i, opF (fun _ => y) (fun _ => u) (i % 13) = opF (fun _ => y) (fun _ => u) (i % 13) := fun _ _ _ => rfl
  unfold updV
  rw [hc (updX x j z) (updS S j s) i]
  unfold updX updS
  by_cases e : i / 13 = j
  · rw [if_pos e, if_pos e]
    by_cases e2 : i % 13 = k
    · rw [if_pos (by omega), e2, hv]
    · rw [if_neg (by omega), hc x S i, e, he (i % 13) (by omega) e2]
  · rw [if_neg e, if_neg e, if_neg (by omega), hc x S i]
theorem Ow.upd {g n : Nat} {x : Nat → W.Oz} {S : Nat → S3} {w : World} (h : Ow g n x S w) (j k : Nat) (hk : k < 13) (z : W.Oz) (s : S3) (v : Value) (hv : opF (fun _ => z) (fun _ => s) k = v) (he : ∀ i, i < 13 → i ≠ k → opF (fun _ => z) (fun _ => s) i = opF (fun _ => x j) (fun _ => S j) i) (la : Lg g s.a z.a w) (ld : Lg g s.d z.d w) (lc : Lg g s.c z.c w) : Ow g n (updX x j z) (updS S j s) (w.setCell ⟨g, j * 13 + k, none⟩ v) := by
  refine ⟨(h.b.set _ v).congr fun i _ => opF_upd x S j k hk z s v hv he i, fun i hi => ?_, fun i hi => ?_, fun i hi => ?_⟩
  · unfold updX updS
    by_cases e : i = j
    · rw [if_pos e, if_pos e]; exact la.set _ _
    · rw [if_neg e, if_neg e]; exact (h.a i hi).set _ _
  · unfold updX updS
    by_cases e : i = j
    · rw [if_pos e, if_pos e]; exact ld.set _ _
    · rw [if_neg e, if_neg e]; exact (h.d i hi).set _ _
  · unfold updX updS
    by_cases e : i = j
    · rw [if_pos e, if_pos e]; exact lc.set _ _
    · rw [if_neg e, if_neg e]; exact (h.c i hi).set _ _
/-- A plain operation. -/
def W.op3 (k sz ad : Int) : W.Opr := ⟨k, sz, ad, 0, 0, false, false, false, 0, 0⟩
def W.oz0 (o : W.Opr) : W.Oz := ⟨o, [], [], []⟩
def opN (o : W.Opr) : Array Value := opC o W.Sl.nil W.Sl.nil W.Sl.nil
theorem opN_get (o : W.Opr) (k : Nat) (hk : k < 13) (x : Nat → W.Oz) (S : Nat → S3) (j : Nat) (hx : x j = W.oz0 o) (hS : S j = S3.nil) : (opN o)[k]? = some (opF x S (j * 13 + k)) := by
  have m : (j * 13 + k) % 13 = k := by omega
  have d : (j * 13 + k) / 13 = j := by omega
  unfold opF
  rw [m, d, hx, hS]
  match k, hk with
  | 0, _ => rfl
  | 1, _ => rfl
  | 2, _ => rfl
  | 3, _ => rfl
  | 4, _ => rfl
  | 5, _ => rfl
  | 6, _ => rfl
  | 7, _ => rfl
  | 8, _ => rfl
  | 9, _ => rfl
  | 10, _ => rfl
  | 11, _ => rfl
  | 12, _ => rfl
/-- Rows of plain operations. -/
def opsR : List W.Opr → Array Value
  | [] => #[]
  | o :: l => opN o ++ opsR l
theorem opsR_get : ∀ (l : List W.Opr) (j k : Nat) (o : W.Opr), l[j]? = some o → k < 13 → (opsR l)[j * 13 + k]? = (opN o)[k]?
  | [], j, k, o, h, _ => by simp at h
  | z :: l, 0, k, o, h, hk => by
    have e : z = o := by simpa using h
    subst e
    show (opN z ++ opsR l)[0 * 13 + k]? = _
    rw [Nat.zero_mul, Nat.zero_add, Array.getElem?_append_left (by show k < 13; exact hk)]
  | z :: l, j + 1, k, o, h, hk => by
    show (opN z ++ opsR l)[(j + 1) * 13 + k]? = _
    have hs : (opN z).size = 13 := rfl
    rw [Array.getElem?_append_right (by omega), hs, show (j + 1) * 13 + k - 13 = j * 13 + k by omega]
    exact opsR_get l j k o (by simpa using h) hk
theorem ow_row {w : World} {g : Nat} (l : List W.Opr) (T : TypeId) (hh : w.heap[g]? = some (.cells (opsR l) T)) (x : Nat → W.Oz) (hx : ∀ j o, l[j]? = some o → x j = W.oz0 o) : Ow g l.length x (fun _ => S3.nil) w := by
  have hl : ∀ j (hj : j < l.length), x j = W.oz0 l[j] := fun j hj => hx j _ (List.getElem?_eq_getElem hj)
  refine ⟨⟨(Array.getElem?_eq_some_iff.1 hh).1, fun i hi => (cell_of_row _ _ i _ T (0, 0) hh).trans ?_, fun j => by unfold World.frozen?; rw [hh]; simp⟩, fun j hj => ?_, fun j hj => ?_, fun j hj => ?_⟩
  · have hj : i / 13 < l.length := by omega
    have e : l[i / 13]? = some l[i / 13] := List.getElem?_eq_getElem hj
    have q := opsR_get l (i / 13) (i % 13) _ e (by omega)
    rw [show i / 13 * 13 + i % 13 = i by omega] at q
    rw [q, opN_get _ (i % 13) (by omega) x (fun _ => S3.nil) (i / 13) (hx _ _ e) rfl, show i / 13 * 13 + i % 13 = i by omega]
  · rw [hl j hj]; exact lg_nil _ _
  · rw [hl j hj]; exact lg_nil _ _
  · rw [hl j hj]; exact lg_nil _ _
/-- The laws' words for whole operations. -/
def bdO (l : Array (Nat × Value)) : Sem Value := Instr.build 38 l
theorem bdO_eq (l : Array (Nat × Value)) : Instr.build 38 l = bdO l := rfl
def bsO (n : Nat) (l : Array (Nat × Value)) : Sem Value := Instr.buildSlice 34 n l
theorem bsO_eq (n : Nat) (l : Array (Nat × Value)) : Instr.buildSlice 34 n l = bsO n l := rfl
def ldO (a : Addr) : Sem Value := loadVar 38 a
theorem ldO_eq (a : Addr) : loadVar 38 a = ldO a := rfl
theorem bdO_2 (k sz : Int) (w : World) : (bdO #[(0, .int .i64 k), (1, .int .i64 sz)]).run Tryd.prog w = .ok (.agg (opN (W.op3 k sz 0))) w := by kernel_rfl
theorem bdO_3 (k sz ad : Int) (w : World) : (bdO #[(0, .int .i64 k), (1, .int .i64 sz), (2, .int .u32 ad)]).run Tryd.prog w = .ok (.agg (opN (W.op3 k sz ad))) w := by kernel_rfl
def W.opB (p s : Int) : W.Opr := ⟨4, 0, 0, 0, 0, false, false, false, p, s⟩
theorem bdO_b (p s : Int) (w : World) : (bdO #[(0, .int .i64 4), (8, .int .i64 p), (9, .int .i64 s)]).run Tryd.prog w = .ok (.agg (opN (W.opB p s))) w := by kernel_rfl
theorem bsO_1 (a : W.Opr) (w : World) : (bsO 1 #[(0, .agg (opN a))]).run Tryd.prog w = .ok (.slice (some ⟨w.heap.size, 0, none⟩) 1 1) (w.alloc (.cells (opsR [a]) 38)) := by kernel_rfl
theorem bsO_2 (a b : W.Opr) (w : World) : (bsO 2 #[(0, .agg (opN a)), (1, .agg (opN b))]).run Tryd.prog w = .ok (.slice (some ⟨w.heap.size, 0, none⟩) 2 2) (w.alloc (.cells (opsR [a, b]) 38)) := by kernel_rfl
theorem bsO_3 (a b c : W.Opr) (w : World) : (bsO 3 #[(0, .agg (opN a)), (1, .agg (opN b)), (2, .agg (opN c))]).run Tryd.prog w = .ok (.slice (some ⟨w.heap.size, 0, none⟩) 3 3) (w.alloc (.cells (opsR [a, b, c]) 38)) := by kernel_rfl
theorem ldO_row {w : World} {g : Nat} (l : List W.Opr) (T : TypeId) (hh : w.heap[g]? = some (.cells (opsR l) T)) (j : Nat) (o : W.Opr) (ho : l[j]? = some o) : (ldO ⟨g, j * 13, none⟩).run Tryd.prog w = .ok (.agg (opN o)) w := by
  have hl := run_loadCells_list (P := Tryd.prog) w ⟨g, j * 13, none⟩ (opN o).toList (fun k v hv => by
    have hadd : (⟨g, j * 13, none⟩ : Addr).add k = ⟨g, j * 13 + k, none⟩ := by unfold Addr.add; split <;> simp_all
    have hk : k < 13 := by
      have := (List.getElem?_eq_some_iff.1 hv).1
      exact this
    rw [hadd, cell_of_row _ _ (j * 13 + k) _ T (0, 0) hh, opsR_get l j k o ho hk]
    simpa using hv)
  simp only [Array.length_toList, Array.toArray_toList] at hl
  have ha : (isAgg 38).run Tryd.prog w = .ok true w := by simp [go_sem]
  have hz : (sizeOf 38).run Tryd.prog w = .ok (opN o).size w := by simp [go_sem, opN, opC]
  unfold ldO
  have hs : (opN o).size = 13 := rfl
  rw [hs] at hl hz
  simp [loadVar, Sem.run_bind, ha, hz, hl]
end Go.Proofs.YtibohlbkkaghkaaDoor

/- wmo: steps in memory; a map of places. -/
namespace Go.Proofs.YtibohlbkkaghkaaDoor
open Go.ChangeShapes Go.WideShapes Go.ChangeAt Go.RowKit Go.Maps
set_option linter.unusedVariables false
set_option linter.unusedSimpArgs false

/-- A step. -/
structure StR where
  o : W.Opr
  s : S3
  ha : Int
  lr : Int
  fr : Nat → Int
def stF (q : Nat → StR) (i : Nat) : Value :=
  if i % 19 < 13 then opF (fun _ => W.oz0 (q (i / 19)).o) (fun _ => (q (i / 19)).s) (i % 19)
  else if i % 19 = 13 then .int .i64 (q (i / 19)).ha
  else if i % 19 = 14 then .int .i64 (q (i / 19)).lr
  else .int .i64 ((q (i / 19)).fr (i % 19 - 15))
def updQ (q : Nat → StR) (p : Nat) (z : StR) : Nat → StR := fun i => if i = p then z else q i
def updF (f : Nat → Int) (k : Nat) (v : Int) : Nat → Int := fun i => if i = k then v else f i
def updL (f : Int → Int) (k : Int) (v : Int) : Int → Int := fun i => if i = k then v else f i
/-- Steps in memory. -/
structure Sb2 (b N : Nat) (q : Nat → StR) (w : World) : Prop where
  b : Bc b (N * 19) (stF q) w
theorem Sb2.below {b N : Nat} {q : Nat → StR} {w w' : World} (h : Sb2 b N q w) (hb : Below w.heap.size w w') : Sb2 b N q w' := ⟨h.b.below hb⟩
theorem Sb2.cell {b N : Nat} {q : Nat → StR} {w : World} (h : Sb2 b N q w) (p k : Nat) (hp : p < N) (hk : k < 19) (v : Value) (hv : stF (fun _ => q p) k = v) : w.cell? ⟨b, p * 19 + k, none⟩ = some v := by
  rw [h.b.c (p * 19 + k) (by omega), ← hv]
  unfold stF
  rw [show (p * 19 + k) % 19 = k by omega, show (p * 19 + k) / 19 = p by omega, show k % 19 = k by omega]
theorem stF_upd (q : Nat → StR) (p k : Nat) (hk : k < 19) (z : StR) (v : Value) (hv : stF (fun _ => z) k = v) (he : ∀ i, i < 19 → i ≠ k → stF (fun _ => z) i = stF (fun _ => q p) i) (i : Nat) : updV (stF q) (p * 19 + k) v i = stF (updQ q p z) i := by
  have hc : ∀ (y : Nat → StR) i, stF y i = stF (fun _ => y (i / 19)) (i % 19) := fun y i => by
    unfold stF
    rw [Nat.mod_mod]
  unfold updV
  rw [hc (updQ q p z) i]
  unfold updQ
  by_cases e : i / 19 = p
  · rw [if_pos e]
    by_cases e2 : i % 19 = k
    · rw [if_pos (by omega), e2, hv]
    · rw [if_neg (by omega), hc q i, e, he (i % 19) (by omega) e2]
  · rw [if_neg e, if_neg (by omega), hc q i]
theorem Sb2.set {b N : Nat} {q : Nat → StR} {w : World} (h : Sb2 b N q w) (p k : Nat) (hk : k < 19) (z : StR) (v : Value) (hv : stF (fun _ => z) k = v) (he : ∀ i, i < 19 → i ≠ k → stF (fun _ => z) i = stF (fun _ => q p) i) : Sb2 b N (updQ q p z) (w.setCell ⟨b, p * 19 + k, none⟩ v) :=
  ⟨(h.b.set _ v).congr fun i _ => stF_upd q p k hk z v hv he i⟩
/-- .. one of the places that a byte comes from. -/
theorem Sb2.setF {b N : Nat} {q : Nat → StR} {w : World} (h : Sb2 b N q w) (p k : Nat) (hk : k < 4) (v : Int) : Sb2 b N (updQ q p { q p with fr := updF (q p).fr k v }) (w.setCell ⟨b, p * 19 + (15 + k), none⟩ (.int .i64 v)) := by
  refine h.set p (15 + k) (by omega) _ _ ?_ (fun i hi hne => ?_)
  · unfold stF updF
    rw [if_neg (by omega), if_neg (by omega), if_neg (by omega)]
    dsimp only
    rw [if_pos (by omega)]
  · unfold stF updF
    dsimp only
    by_cases h1 : i % 19 < 13
    · rw [if_pos h1, if_pos h1]
    · rw [if_neg h1, if_neg h1]
      by_cases h2 : i % 19 = 13
      · rw [if_pos h2, if_pos h2]
      · rw [if_neg h2, if_neg h2]
        by_cases h3 : i % 19 = 14
        · rw [if_pos h3, if_pos h3]
        · rw [if_neg h3, if_neg h3, if_neg (by omega)]
theorem Sb2.other {b N : Nat} {q : Nat → StR} {w w' : World} {r : Option Nat} (h : Sb2 b N q w) (hg : w.grownBy w' r) (hne : some b ≠ r) : Sb2 b N q w' := ⟨h.b.grown hg hne⟩
/-- A map of places. -/
def Mp (B c : Nat) (L : Int → Int) (w : World) : Prop := ∃ D : DataW Unit, w.ownsMap Tryd.prog 36 (plainElem Tryd.prog 3) B c D ∧ ∀ a, 0 ≤ a → a < 4294967296 → D.atKey (.int .u32 a) (.lit (.int .i64 0)) = .lit (.int .i64 (L a))
theorem keyU : Keyed Tryd.prog 36 := int_keyed Tryd.underlying36
theorem zeroI (w : World) : (zeroValue 3).run Tryd.prog w = .ok (.int .i64 0) w := by kernel_rfl
theorem wfU (a : Int) (h0 : 0 ≤ a) (h1 : a < 4294967296) : (Lit.int .u32 a).wf = true := by
  simp [Lit.wf, IntKind.min, IntKind.max, IntKind.signed, IntKind.bits]
  omega
theorem Mp.made (w : World) : Mp w.heap.size 0 (fun _ => 0) (w.alloc (.map #[] 0)) := ⟨.map [], World.ownsMap_made _ _ _ _, fun a _ _ => rfl⟩
theorem Mp.look {B c : Nat} {L : Int → Int} {w : World} (h : Mp B c L w) (a : Int) (h0 : 0 ≤ a) (h1 : a < 4294967296) : (Instr.lookup 102 (.map (some B)) (.int .u32 a) false).run Tryd.prog w = .ok (.int .i64 (L a)) w := by
  obtain ⟨D, hD, hL⟩ := h
  obtain ⟨v, hr, hat, _⟩ := hD.lookup_int keyU Tryd.underlying102 Tryd.underlying3 (zeroI w) (keyOf_int_mk Tryd.underlying36 (wfU a h0 h1))
  rw [hL a h0 h1] at hat
  simp only [DataW.lit.injEq, Lit.int.injEq, true_and] at hat
  rw [hr, hat]
theorem Mp.put {B c : Nat} {L : Int → Int} {w : World} (h : Mp B c L w) (hc : c < 100000) (a v : Int) (h0 : 0 ≤ a) (h1 : a < 4294967296) (v0 : -9223372036854775808 ≤ v) (v1 : v ≤ 9223372036854775807) : ∃ w', (Instr.mapUpdate 102 (.map (some B)) (.int .u32 a) (.int .i64 v)).run Tryd.prog w = .ok () w' ∧ Mp B (c + 1) (updL L a v) w' ∧ w.grownBy w' (some B) := by
  obtain ⟨D, hD, hL⟩ := h
  have wv : (Lit.int .i64 v).wf = true := by
    simp [Lit.wf, IntKind.min, IntKind.max, IntKind.signed, IntKind.bits]
    omega
  obtain ⟨w', hr, ho, hg⟩ := hD.update keyU Tryd.underlying102 (by unfold maxLen; omega) (keyOf_int_mk Tryd.underlying36 (wfU a h0 h1)) (plainElem_int Tryd.underlying3 wv)
  refine ⟨w', hr, ⟨_, ho, fun b hb0 hb1 => ?_⟩, hg⟩
  unfold updL
  by_cases e : b = a
  · subst e
    rw [if_pos rfl, atKey_put_same hD.isMap (by simp [WideAt.IsKeyLit])]
  · rw [if_neg e, atKey_put_other (by simpa using e)]
    exact hL b hb0 hb1
theorem Mp.kept {B c : Nat} {L : Int → Int} {w w' : World} {r : Option Nat} (h : Mp B c L w) (hg : w.grownBy w' r) (hne : some B ≠ r) : Mp B c L w' := by
  obtain ⟨D, hD, hL⟩ := h
  exact ⟨D, hD.kept hg hne, hL⟩
theorem Mp.lt {B c : Nat} {L : Int → Int} {w : World} (h : Mp B c L w) : B < w.heap.size := by
  obtain ⟨D, hD, _⟩ := h
  exact hD.lt
end Go.Proofs.YtibohlbkkaghkaaDoor
