/- Pairs. -/
import Derived.Test.YtibohlbkkaghkaaDoorPpoI
namespace Go.Proofs.YtibohlbkkaghkaaDoor
open Go.ChangeShapes Go.WideShapes Go.ChangeAt Go.RowKit
set_option linter.unusedVariables false
set_option linter.unusedSimpArgs false

namespace W
theorem lastP_lt (x : Nat → Oz) : ∀ n, -1 ≤ lastP x n ∧ lastP x n < (n : Int)
  | 0 => ⟨Int.le_refl _, by show (-1 : Int) < 0; decide⟩
  | n + 1 => by
    have := lastP_lt x n
    unfold lastP
    cases (x n).o.pr
    · show -1 ≤ lastP x n ∧ lastP x n < _; omega
    · show -1 ≤ (n : Int) ∧ (n : Int) < _; omega
end W
/-- The operations lie in memory; a list of none, too. -/
structure Ol (a : Option Addr) (n : Nat) (x : Nat → W.Oz) (w : World) : Prop where
  at_ : 0 < n → ∃ g o, a = some ⟨g, o, none⟩ ∧ ∀ j, j < n → OzAt g (o + j * 13) (x j) w
theorem Ol.below {a : Option Addr} {n : Nat} {x : Nat → W.Oz} {w w' : World} (h : Ol a n x w) (hb : Below w.heap.size w w') : Ol a n x w' :=
  ⟨fun h0 => by
    obtain ⟨g, o, e, hx⟩ := h.at_ h0
    exact ⟨g, o, e, fun j hj => (hx j hj).below hb⟩⟩
theorem made_get (z : Array Value) (m j : Nat) (hj : j < m) : (madeCells z m)[j]? = some z[j % z.size]! := by simp [madeCells, hj]
theorem Bc.made (w : World) (z : Array Value) (m : Nat) (T : TypeId) : Bc w.heap.size m (fun j => z[j % z.size]!) (w.alloc (.cells (madeCells z m) T)) :=
  ⟨by simp, fun j hj => (cell_of_row _ _ j _ T (0, 0) (heap_alloc_last w _)).trans (made_get z m j hj), fun j => by unfold World.frozen?; rw [heap_alloc_last w _]; simp⟩
theorem make_ints (n : Nat) (hn : n ≤ 8192) (w : World) : (Instr.makeSlice 23 (.int .i64 (n : Int)) (.int .i64 (n : Int))).run Tryd.prog w = .ok (.slice (some ⟨w.heap.size, 0, none⟩) n n) (w.alloc (.cells (madeCells #[.int .i64 0] n) 3)) := by
  obtain ⟨i, hi, hzz⟩ := Option.map_eq_some_iff.1 (show (Tryd.prog.info? 3).map (fun i => (i.zero, i.size, i.bytes)) = some (some (.int .i64 0), 1, 8) by kernel_rfl)
  simp only [Prod.mk.injEq] at hzz
  obtain ⟨hz, hs, hb⟩ := hzz
  have hr := run_make (P := Tryd.prog) w 23 3 i _ Tryd.underlying23 hi hz .i64 .i64 n n (by omega) (by omega) (by rw [hb]; omega) (by omega)
  simp only [Int.toNat_natCast, hs, Nat.mul_one] at hr
  exact hr
theorem make_rules (n : Nat) (hn : n ≤ 8192) (w : World) : (Instr.makeSlice 110 (.int .i64 (n : Int)) (.int .i64 (n : Int))).run Tryd.prog w = .ok (.slice (some ⟨w.heap.size, 0, none⟩) n n) (w.alloc (.cells (madeCells #[.int .u8 0] n) 121)) := by
  obtain ⟨i, hi, hzz⟩ := Option.map_eq_some_iff.1 (show (Tryd.prog.info? 121).map (fun i => (i.zero, i.size, i.bytes)) = some (some (.int .u8 0), 1, 1) by kernel_rfl)
  simp only [Prod.mk.injEq] at hzz
  obtain ⟨hz, hs, hb⟩ := hzz
  have hr := run_make (P := Tryd.prog) w 110 121 i _ Tryd.underlying110 hi hz .i64 .i64 n n (by omega) (by omega) (by rw [hb]; omega) (by omega)
  simp only [Int.toNat_natCast, hs, Nat.mul_one] at hr
  exact hr
theorem make_acts (n : Nat) (hn : n ≤ 8192) (w : World) : (Instr.makeSlice 111 (.int .i64 (n : Int)) (.int .i64 (n : Int))).run Tryd.prog w = .ok (.slice (some ⟨w.heap.size, 0, none⟩) n n) (w.alloc (.cells (madeCells #[.int .u32 0, .int .u64 0, .int .u8 0] (n * 3)) 117)) := by
  obtain ⟨i, hi, hzz⟩ := Option.map_eq_some_iff.1 (show (Tryd.prog.info? 117).map (fun i => (i.zero, i.size, i.bytes)) = some (some (.agg #[.int .u32 0, .int .u64 0, .int .u8 0]), 3, 24) by kernel_rfl)
  simp only [Prod.mk.injEq] at hzz
  obtain ⟨hz, hs, hb⟩ := hzz
  have hr := run_make (P := Tryd.prog) w 111 117 i _ Tryd.underlying111 hi hz .i64 .i64 n n (by omega) (by omega) (by rw [hb]; omega) (by omega)
  simp only [Int.toNat_natCast, hs] at hr
  exact hr
def prF (x : Nat → W.Oz) (j i : Nat) : Value := .int .i64 (if i < j then W.pairO x i else 0)
theorem prF_succ (x : Nat → W.Oz) (j i : Nat) (v : Int) (hv : v = W.pairO x j) : updV (prF x j) j (.int .i64 v) i = prF x (j + 1) i := by
  unfold updV prF
  by_cases e : i = j
  · rw [if_pos e, if_pos (by omega), hv, e]
  · rw [if_neg e]
    by_cases e2 : i < j
    · rw [if_pos e2, if_pos (by omega)]
    · rw [if_neg e2, if_neg (by omega)]
set_option maxHeartbeats 1600000 in
theorem pairs_any (a : Option Addr) (n c : Nat) (x : Nat → W.Oz) (w : World) (hO : Ol a n x w) (hn : n ≤ 4096) :
    Calls Tryd.prog 39 #[.slice a n c] w fun e w' => (∃ g, e = .returned (.slice (some ⟨g, 0, none⟩) n n) ∧ w.heap.size ≤ g ∧ Bc g n (fun j => .int .i64 (W.pairO x j)) w') ∧ Below w.heap.size w w' := by
  have hmk := make_ints n (by omega) w
  have M0 := (Bc.made w #[.int .i64 0] n 3).congr (g := prF x 0) (fun j hj => by unfold prF; rw [if_neg (by omega)]; simp [Nat.mod_one])
  have B0 : Below w.heap.size w (w.alloc (.cells (madeCells #[.int .i64 0] n) 3)) := (Below.refl _ _).alloc (Nat.le_refl _) _
  generalize w.alloc _ = W1 at *
  have HM : Hid (_ ∧ _ ∧ _) := ⟨M0, B0, hO⟩
  clear M0 B0 hO
  go_enter Tryd.func39, Tryd.ntmps39
  go_wp2
  go_loopw [4, 11] (fun la i wr => ∃ j : Nat, j ≤ n ∧ i = .int .i64 (j : Int) ∧ la = .int .i64 (W.lastP x j) ∧ Bc w.heap.size n (prF x j) wr ∧ Below w.heap.size w wr) (fun _ i _ => n - (intOf i).toNat)
  case atStart => exact ⟨0, by omega, rfl, rfl, HM.out.1, HM.out.2.1⟩
  case round =>
    clear hmk
    obtain ⟨j, hj, rfl, rfl, hB, hbl⟩ := hrel
    by_cases hlt : j < n
    · obtain ⟨g, o, rfl, hx⟩ := (HM.out.2.2.below hbl).at_ (by omega)
      have oj := hx j hlt
      have lp := W.lastP_lt x j
      have hps : W.lastP x (j + 1) = bif (x j).o.pr then (j : Int) else W.lastP x j := rfl
      have hpo : W.pairO x j = bif (x j).o.pr && ((x j).o.k == 2) && decide (0 ≤ W.lastP x j) && ((x (W.lastP x j).toNat).o.k == 1) then W.lastP x j else -1 := rfl
      have g0 := oj.o.c0
      have g5 := oj.o.c5
      have gl := oj.o.lt
      have gw : g < w.heap.size := by
        obtain ⟨g', o', e', h'⟩ := HM.out.2.2.at_ (by omega)
        cases e'
        exact (h' j hlt).o.lt
      have gne : g ≠ w.heap.size := by omega
      have cj := hB.c j hlt
      have fj := hB.fz j
      have wl := hB.lt
      have S1 := fun v (hv : v = W.pairO x j) => (hB.set j (.int .i64 v)).congr (fun i _ => prF_succ x j i v hv)
      have S2 := fun v (hv : v = W.pairO x j) => ((hB.set j (.int .i64 (-1))).set j (.int .i64 v)).congr (g := prF x (j + 1)) (fun i hi => by
        rw [← prF_succ x j i v hv]
        unfold updV
        by_cases e : i = j
        · rw [if_pos e, if_pos e]
        · rw [if_neg e, if_neg e, if_neg e])
      have B1 := fun v => hbl.setCell (p := ⟨w.heap.size, j, none⟩) (Nat.le_refl _) v
      have hxl := hx
      generalize hLP : W.lastP x j = LP at *
      have HQ : Hid (_ ∧ _ ∧ _ ∧ _ ∧ _ ∧ _) := ⟨S1, S2, B1, hps, hpo, fun v => (hbl.setCell (p := ⟨w.heap.size, j, none⟩) (Nat.le_refl _) (.int .i64 (-1))).setCell (p := ⟨w.heap.size, j, none⟩) (Nat.le_refl _) v⟩
      have hB' : (j : Int) < (n : Int) := by omega
      clear S1 S2 B1 hps hpo hB hbl oj hLP
      generalize hpr : (x j).o.pr = PR at *
      generalize hkk : (x j).o.k = KK at *
      cases PR
      · have X := HQ.out.1 (-1) (by rw [HQ.out.2.2.2.2.1]; rfl)
        have Y := HQ.out.2.2.1 (.int .i64 (-1))
        have HX : Hid (_ ∧ _ ∧ _) := ⟨X, Y, HQ.out.2.2.2.1⟩
        clear X Y HQ hx hxl
        go_wp2
        go_roundw
        case rel => exact ⟨j + 1, by omega, by go_num, by rw [HX.out.2.2]; rfl, HX.out.1, HX.out.2.1⟩
        case measure => simp [intOf]; omega
      · cases e2 : (KK == 2)
        · have X := HQ.out.1 (-1) (by rw [HQ.out.2.2.2.2.1, e2]; rfl)
          have Y := HQ.out.2.2.1 (.int .i64 (-1))
          have HX : Hid (_ ∧ _ ∧ _) := ⟨X, Y, HQ.out.2.2.2.1⟩
          clear X Y HQ hx hxl
          go_wp2
          go_roundw
          case rel => exact ⟨j + 1, by omega, by go_num, by rw [HX.out.2.2]; rfl, HX.out.1, HX.out.2.1⟩
          case measure => simp [intOf]; omega
        · by_cases l0 : 0 ≤ LP
          · obtain ⟨m, rfl⟩ := Int.eq_ofNat_of_zero_le l0
            have mj : m < j := by have := lp.2; omega
            have om := hxl m (by omega)
            have gm := om.o.c0
            have mn : (m : Int) < (n : Int) := by omega
            generalize hkm : (x m).o.k = KM at *
            cases e3 : (KM == 1)
            · have X := HQ.out.1 (-1) (by rw [HQ.out.2.2.2.2.1, e2, Int.toNat_natCast, hkm, e3]; simp)
              have Y := HQ.out.2.2.1 (.int .i64 (-1))
              have HX : Hid (_ ∧ _ ∧ _) := ⟨X, Y, HQ.out.2.2.2.1⟩
              clear X Y HQ hx hxl om hkm lp
              go_wp2
              go_roundw
              case rel => exact ⟨j + 1, by omega, by go_num, by rw [HX.out.2.2]; rfl, HX.out.1, HX.out.2.1⟩
              case measure => simp [intOf]; omega
            · have X := HQ.out.2.1 (m : Int) (by rw [HQ.out.2.2.2.2.1, e2, Int.toNat_natCast, hkm, e3]; simp)
              have Y := HQ.out.2.2.2.2.2 (.int .i64 (m : Int))
              have HX : Hid (_ ∧ _ ∧ _) := ⟨X, Y, HQ.out.2.2.2.1⟩
              clear X Y HQ hx hxl om hkm lp
              go_wp2
              go_roundw
              case rel => exact ⟨j + 1, by omega, by go_num, by rw [HX.out.2.2]; rfl, HX.out.1, HX.out.2.1⟩
              case measure => simp [intOf]; omega
          · have X := HQ.out.1 (-1) (by rw [HQ.out.2.2.2.2.1, e2]; simp [l0])
            have Y := HQ.out.2.2.1 (.int .i64 (-1))
            have HX : Hid (_ ∧ _ ∧ _) := ⟨X, Y, HQ.out.2.2.2.1⟩
            clear X Y HQ hx hxl lp
            go_wp2
            go_roundw
            case rel => exact ⟨j + 1, by omega, by go_num, by rw [HX.out.2.2]; rfl, HX.out.1, HX.out.2.1⟩
            case measure => simp [intOf]; omega
    · have e : j = n := by omega
      subst e
      have X := hB.congr (g := fun i => .int .i64 (W.pairO x i)) (fun i hi => by unfold prF; rw [if_pos hi])
      have HX : Hid (_ ∧ _) := ⟨X, hbl⟩
      clear X hB hbl
      go_wp2
      go_ret
      exact ⟨⟨_, rfl, Nat.le_refl _, HX.out.1⟩, HX.out.2⟩
end Go.Proofs.YtibohlbkkaghkaaDoor
