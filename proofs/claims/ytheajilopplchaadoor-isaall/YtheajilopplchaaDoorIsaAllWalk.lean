/- IsaAll, walked: it returns true, whatever the numbers. -/
import Derived.Test.YtheajilopplchaaDoorIsaAllA
import Derived.Deep.RegionHeld3
import Derived.Deep.DrawnRows
namespace Go.Proofs.YtheajilopplchaaDoor
open Go.ChangeShapes Go.WideShapes Go.ChangeAt Go.RowKit
set_option linter.unusedVariables false
set_option linter.unusedSimpArgs false
attribute [local go_sem ↓] Go.wp_at_zero Go.wp_at_succ

namespace W
theorem ring69 (x : Int) : ∃ t : Nat, t < 69 ∧ (wrap64 (x.tmod 69 + 69)).tmod 69 = (t : Int) := by
  have h1 : -69 < x.tmod 69 := by have := Int.lt_tmod_of_pos x (show (0 : Int) < 69 by decide); omega
  have h2 : x.tmod 69 < 69 := Int.tmod_lt_of_pos x (by decide)
  have e : wrap64 (x.tmod 69 + 69) = x.tmod 69 + 69 := by unfold wrap64; omega
  rw [e, Int.tmod_eq_emod_of_nonneg (by omega)]
  exact ⟨((x.tmod 69 + 69) % 69).toNat, by omega, by omega⟩
theorem nm_all : ((List.range 69).all fun (t : Nat) => !(nm ((t : Int) + 1)).isEmpty && (List.range 69).all fun (u : Nat) => decide (t = u) || !(nm ((t : Int) + 1) == nm ((u : Int) + 1))) = true := by decide +kernel
theorem nm_some {t : Nat} (h : t < 69) : ¬ nm ((t : Int) + 1) = [] := by
  have := List.all_eq_true.1 nm_all t (List.mem_range.2 h)
  rw [Bool.and_eq_true] at this
  intro e
  rw [e] at this
  simp at this
theorem nm_one {t u : Nat} (h : t < 69) (h' : u < 69) (hn : ¬ t = u) : ¬ nm ((t : Int) + 1) = nm ((u : Int) + 1) := by
  have := List.all_eq_true.1 nm_all t (List.mem_range.2 h)
  rw [Bool.and_eq_true] at this
  have := List.all_eq_true.1 this.2 u (List.mem_range.2 h')
  intro e
  rw [e] at this
  simp [hn] at this
end W
theorem kind_bel0 (w : World) : Calls Tryd.prog 19 #[.int .i64 0] w fun e w' => e = .returned (.int .i64 0) ∧ Below w.heap.size w w' :=
  (kind_any 0 w).mono fun e w' ⟨h, hk⟩ => ⟨h, by rw [← hk]; exact Below.refl _ _⟩
theorem Ol.set {g m n : Nat} {a : World} (h : Ol g m n a) (v : Value) : Ol g m (n + 1) (a.setCell ⟨g, n, none⟩ v) := by
  have hr : Room g m a := h.held
  refine ⟨hr.setCell g n v, h.room, h.top, fun j h1 h2 => ?_⟩
  have e : (a.setCell ⟨g, n, none⟩ v).cell? ⟨g, j, none⟩ = a.cell? ⟨g, j, none⟩ := World.cell?_setCell_other a _ _ v (by intro e; injection e with _ e2 _; omega)
  exact e.trans (h.cells j (by omega) h2)
theorem Ol.write {g m n : Nat} {a : World} (h : Ol g m n a) : ∀ j, a.frozen? ⟨g, j, none⟩ = false := by
  obtain ⟨c, t, h1, h2⟩ := h.held
  exact fun j => by simp [World.frozen?, h1]

abbrev SA (g t : Nat) (w w' : World) : Prop := Below w.heap.size w w' ∧ g < w'.heap.size ∧ w'.cell? ⟨g, t, none⟩ = some (.int .i64 ((t : Int) + 1))
theorem SA.below {g t : Nat} {w a b : World} (h : SA g t w a) (hm : Below a.heap.size a b) : SA g t w b :=
  ⟨h.1.trans (hm.mono h.1.size), Nat.lt_of_lt_of_le h.2.1 hm.size, (hm.cell h.2.1).trans h.2.2⟩

set_option maxRecDepth 100000 in
set_option maxHeartbeats 6400000 in
theorem isaall_go (A : Nat → Addr) (i k : Int) (t u : Nat) (L1 L2 : List UInt8) (w : World) (hS : Sent A w) (t1 : t < 69) (u1 : u < 69) (hi : (wrap64 (i.tmod 69 + 69)).tmod 69 = (t : Int)) (hk : (wrap64 (k.tmod 69 + 69)).tmod 69 = (u : Int))
    (I J : Int) (hI : (t : Int) + 1 = I) (hJ : (u : Int) + 1 = J) (hI1 : I - 1 = (t : Int)) (n1 : Hid (W.nm I = L1)) (n2 : Hid (W.nm J = L2)) (c : Bool) (e1 : L1.isEmpty = false) (e2 : (L1 == L2) = c) (tu : (I == J) = c) :
    Calls Tryd.prog 6 #[.int .i64 i, .int .i64 k] w fun e w' => e = .returned (.bool true) ∧ Below w.heap.size w w' := by
  have hb : Below w.heap.size w w := Below.refl _ _
  have HS : Hid (Sent A w) := hS
  clear hS
  have t0 : (0 : Int) ≤ (t : Int) := by omega
  have t2 : (t : Int) < 69 := by omega
  have u0 : (0 : Int) ≤ (u : Int) := by omega
  have u2 : (u : Int) < 69 := by omega
  go_enter Tryd.func6, Tryd.ntmps6
  go_wp2_with (first
    | (go_at_call 9; refine (from_ (first_any A _ HS.out) hb).mono ?_; clear hb; rintro e w1 ⟨rfl, hb⟩)
    | (go_at_call 23; refine (ops_any _).mono ?_; rintro e w2 ⟨⟨g, m, rfl, hg, hO⟩, hm⟩; have hb2 : Hid (Below w.heap.size w w2) := hb.trans (hm.mono hb.size); have HO : Hid (Ol g m 0 w2) := hO; have hr := hO.room; clear hm hO))
  have hgw : w.heap.size ≤ g := Nat.le_trans hb.size hg
  clear hb HS
  go_loopw [7] (fun i' wr => ∃ n : Nat, n ≤ 69 ∧ i' = .int .i64 n ∧ Ol g m n wr ∧ Below w.heap.size w wr) (fun i' _ => (69 - intOf i').toNat)
  case atStart => exact ⟨0, by omega, rfl, HO.out, hb2.out⟩
  case round =>
    obtain ⟨n, hn, rfl, hO, hB⟩ := hrel
    have HO' : Hid (Ol g m n wr) := hO
    have HB : Hid (Below w.heap.size w wr) := hB
    clear hB HO hb2
    by_cases hlt : n < 69
    · have cn : wr.cell? ⟨g, n, none⟩ = some (.int .i64 ((n : Int) + 1)) := by rw [hO.cells n (Nat.le_refl _) hlt, Int.add_comm]
      have cf := hO.write
      clear hO
      go_wp2
      go_roundw
      case rel => exact ⟨n + 1, by omega, by go_num, HO'.out.set _, HB.out.setCell (by simpa using hgw) _⟩
      case measure => simp [intOf]; omega
    · have hn69 : n = 69 := by omega
      subst hn69
      clear hO
      go_wp2_with (first
        | (go_at_call 23; refine (ops_any _).mono ?_; rintro e w5 ⟨⟨g2, m2, rfl, hg2, hO⟩, hm⟩; have hb5 : Hid (Below w.heap.size w w5) := HB.out.trans (hm.mono HB.out.size); have HO5 : Hid (Ol g2 m2 0 w5) := hO; have c5 : w5.cell? ⟨g2, t, none⟩ = some (.int .i64 I) := by rw [hO.cells t (Nat.zero_le _) t1, Int.add_comm, hI]
           have hr2 := hO.room
           clear hm hO)
        | (go_at_call_of 18 (Value.int IntKind.i64 I); refine (from_ (name_any I _) hb5.out).mono ?_; clear hb5; rintro e w6 ⟨rfl, hb6⟩; have hb5 : Hid (Below w.heap.size w w6) := hb6; clear hb6; rw [n1.out])
        | (go_at_call_of 18 (Value.int IntKind.i64 J); refine (from_ (name_any J _) hb5.out).mono ?_; clear hb5; rintro e w6 ⟨rfl, hb6⟩; have hb5 : Hid (Below w.heap.size w w6) := hb6; clear hb6; rw [n2.out])
        | (go_at_call_of 18 (Value.int IntKind.i64 0); refine (from_ (name_any 0 _) hb5.out).mono ?_; clear hb5; rintro e w6 ⟨rfl, hb6⟩; have hb5 : Hid (Below w.heap.size w w6) := hb6; clear hb6; rw [show W.nm 0 = [] from rfl])
        | (go_at_call_of 18 (Value.int IntKind.i64 70); refine (from_ (name_any 70 _) hb5.out).mono ?_; clear hb5; rintro e w6 ⟨rfl, hb6⟩; have hb5 : Hid (Below w.heap.size w w6) := hb6; clear hb6; rw [show W.nm 70 = [] from rfl])
        | (go_at_call 19; refine (from_ (kind_bel0 _) hb5.out).mono ?_; clear hb5; rintro e w6 ⟨rfl, hb6⟩; have hb5 : Hid (Below w.heap.size w w6) := hb6; clear hb6))
      go_ret
      exact ⟨rfl, hb5.out⟩

theorem isaall_walk (A : Nat → Addr) (i k : Int) (_i0 : -9223372036854775808 ≤ i) (_i1 : i ≤ 9223372036854775807) (_k0 : -9223372036854775808 ≤ k) (_k1 : k ≤ 9223372036854775807) (w : World) (hS : Sent A w) :
    Calls Tryd.prog 6 #[.int .i64 i, .int .i64 k] w fun e w' => e = .returned (.bool true) ∧ Below w.heap.size w w' := by
  obtain ⟨t, t1, hi⟩ := W.ring69 i
  obtain ⟨u, u1, hk⟩ := W.ring69 k
  have ne : (W.nm ((t : Int) + 1)).isEmpty = false := by
    have := W.nm_some t1
    cases h : W.nm ((t : Int) + 1) with
    | nil => exact absurd h this
    | cons a l => rfl
  refine isaall_go A i k t u _ _ w hS t1 u1 hi hk _ _ rfl rfl (by omega) rfl rfl (decide (t = u)) ne ?_ ?_
  · by_cases h : t = u
    · subst h; simp
    · have := W.nm_one t1 u1 h
      rw [decide_eq_false h, beq_eq_false_iff_ne]; exact this
  · by_cases h : t = u
    · subst h; simp
    · rw [decide_eq_false h, beq_eq_false_iff_ne]; omega
end Go.Proofs.YtheajilopplchaaDoor
