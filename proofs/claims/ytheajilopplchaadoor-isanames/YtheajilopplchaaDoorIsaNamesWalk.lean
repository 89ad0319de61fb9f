/- IsaNames, walked. -/
import Derived.Test.YtheajilopplchaaDoorOpOf
import Derived.Test.YtheajilopplchaaDoorRowsB
import Derived.Deep.RegionHeld3
import Derived.Deep.DrawnRows
namespace Go.Proofs.YtheajilopplchaaDoor
open Go.ChangeShapes Go.WideShapes Go.ChangeAt Go.RowKit
set_option linter.unusedVariables false
set_option linter.unusedSimpArgs false
attribute [local go_sem ↓] Go.wp_at_zero Go.wp_at_succ

namespace W
/-- The last row of the first j whose name is L: its number; 0: none. -/
def wantF (L : List UInt8) : Nat → Int
  | 0 => 0
  | j + 1 => bif nameAt (j + 1) == L then (j : Int) + 1 else wantF L j
end W
abbrev SN (n : Nat) (N : List UInt8) (fm : Int) (fd fa fb : Bool) (w w' : World) : Prop := Below w.heap.size w w' ∧ n < w'.heap.size ∧ w'.cell? ⟨n, 1, none⟩ = some (.string ⟨N.toArray⟩) ∧ w'.cell? ⟨n, 7, none⟩ = some (.int .u8 fm) ∧ w'.cell? ⟨n, 8, none⟩ = some (.bool fd) ∧ w'.cell? ⟨n, 9, none⟩ = some (.bool fa) ∧ w'.cell? ⟨n, 10, none⟩ = some (.bool fb)
theorem SN.below {n : Nat} {N : List UInt8} {fm : Int} {fd fa fb : Bool} {w a b : World} (h : SN n N fm fd fa fb w a) (hm : Below a.heap.size a b) : SN n N fm fd fa fb w b := by
  obtain ⟨h1, h2, h3⟩ := h
  have q : ∀ j, b.cell? ⟨n, j, none⟩ = a.cell? ⟨n, j, none⟩ := fun j => hm.cell h2
  refine ⟨h1.trans (hm.mono h1.size), Nat.lt_of_lt_of_le h2 hm.size, ?_⟩
  simp only [q]
  exact h3
theorem kind_bel (op : Int) (w : World) : Calls Tryd.prog 19 #[.int .i64 op] w fun e w' => e = .returned (.int .i64 (W.kind op)) ∧ Below w.heap.size w w' :=
  (kind_any op w).mono fun e w' ⟨h, hk⟩ => ⟨h, by rw [← hk]; exact Below.refl _ _⟩
theorem rkind_bel (op : Int) (w : World) : Calls Tryd.prog 20 #[.int .i64 op] w fun e w' => e = .returned (.int .i64 (W.kind op)) ∧ Below w.heap.size w w' :=
  (rkind_any op w).mono fun e w' ⟨h, hk⟩ => ⟨h, by rw [← hk]; exact Below.refl _ _⟩

set_option maxRecDepth 100000 in
set_option maxHeartbeats 6400000 in
theorem isanames_t (A : Nat → Addr) (op : Int) (L N : List UInt8) (o oc f3 f7 fm wh kd : Int) (h3 h7 fd fa fb fc pr fi : Bool) (w : World) (hS : Sent A w) (hOf : Hid (∀ w, Calls Tryd.prog 16 #[.int .i64 op] w fun e w' => e = .returned (.tuple #[.agg #[.int .i64 o, .string ⟨N.toArray⟩, .int .u32 oc, .int .u32 f3, .int .u32 f7, .bool h3, .bool h7, .int .u8 fm, .bool fd, .bool fa, .bool fb, .bool fc, .int .u32 wh, .bool pr], .bool true]) ∧ Below w.heap.size w w'))
    (n1 : Hid (W.nm op = N)) (u1 : Hid ((W.shp op).rd = fd)) (u2 : Hid ((W.shp op).rs1 = fa)) (u3 : Hid ((W.shp op).rs2 = fb)) (u4 : Hid (W.hasImm (W.shp op) = fi)) (u5 : (fm != 0) = fi) (k1 : Hid (W.kind op = kd)) (X : Int) (x1 : Hid (max 0 (W.fidx L 0 70) = X)) (x2 : Hid (W.wantF L 69 = X)) (x3 : Hid (max 0 (W.fidx N 0 70) = op)) :
    Calls Tryd.prog 5 #[.int .i64 op, .string ⟨L.toArray⟩] w fun e w' => e = .returned (.bool true) ∧ Below w.heap.size w w' := by
  have hb : Below w.heap.size w w := Below.refl _ _
  have HS : Hid (Sent A w) := hS
  clear hS
  go_enter Tryd.func5, Tryd.ntmps5
  go_wp2_with (first
    | (go_at_call 9; refine (from_ (first_any A _ HS.out) hb).mono ?_; clear hb; rintro e w1 ⟨rfl, hb⟩)
    | (go_at_call 16; refine (from_ (hOf.out _) hb).mono ?_; clear hb; rintro e w2 ⟨rfl, hb⟩)
    | (go_at_call 17; refine (uses_any op _).mono ?_; rintro e w3 ⟨rfl, hm⟩; have s3 : Hid (SN w2.heap.size N fm fd fa fb w w3) := SN.below ⟨hb.alloc hb.size _, by simp, by simp [go_sem], by simp [go_sem], by simp [go_sem], by simp [go_sem], by simp [go_sem]⟩ hm; clear hm; rw [u1.out, u2.out, u3.out, u4.out]))
  have hS0 : SN w2.heap.size N fm fd fa fb w w3.drew := s3.out.below (Below.refl _ _).drew
  go_region_held3 (fun w' => Below w.heap.size w w' ∧ w2.heap.size < w'.heap.size ∧ w'.cell? ⟨w2.heap.size, 1, none⟩ = some (.string ⟨N.toArray⟩) ∧ w'.cell? ⟨w2.heap.size, 7, none⟩ = some (.int .u8 fm) ∧ w'.cell? ⟨w2.heap.size, 8, none⟩ = some (.bool fd) ∧ w'.cell? ⟨w2.heap.size, 9, none⟩ = some (.bool fa) ∧ w'.cell? ⟨w2.heap.size, 10, none⟩ = some (.bool fb))
    (first
      | with_reducible assumption
      | (with_reducible refine SN.below (n := w2.heap.size) (N := N) (fm := fm) (fd := fd) (fa := fa) (fb := fb) (w := w) ?_ hm; with_reducible assumption)
      | (refine SN.below (n := w2.heap.size) (N := N) (fm := fm) (fd := fd) (fa := fa) (fb := fb) (w := w) ?_ hm; assumption))
    (first
      | (go_at_call 18; refine (name_any op _).mono ?_; rintro e w' ⟨rfl, hm⟩; rw [n1.out])
      | (go_at_call 19; refine (kind_bel op _).mono ?_; rintro e w' ⟨rfl, hm⟩; rw [k1.out])
      | (go_at_call 20; refine (rkind_bel op _).mono ?_; rintro e w' ⟨rfl, hm⟩; rw [k1.out]))
  have hB : Hid (Below w.heap.size w w') := (by (go_split_ands; assumption) : Below w.heap.size w w')
  clear hS0 s3
  go_wp2_with (go_at_call 21; refine (rows_tb _).mono ?_; rintro e w5 ⟨g, rfl, hT, hm⟩; have HT : Hid (Tb g w5) := hT; have hgl := hT.lt; have hB5 : Hid (Below w.heap.size w w5) := hB.out.trans (hm.mono hB.out.size); clear hT hm)
  go_loopw [12, 14] (fun wv i wr => ∃ j : Nat, j ≤ 69 ∧ wv = .int .i64 (W.wantF L j) ∧ i = .int .i64 j ∧ wr = w5) (fun _ i _ => (69 - intOf i).toNat)
  case atStart => exact ⟨0, by omega, rfl, rfl, rfl⟩
  case round =>
    obtain ⟨j, hj, rfl, rfl, rfl⟩ := hrel
    have hj0 : (0 : Int) ≤ (j : Int) := by omega
    by_cases hlt : j < 69
    · have hj1 : (j : Int) < 69 := by omega
      have c0 : wr.cell? ⟨g, j * 14, none⟩ = some (.int .i64 ((j : Int) + 1)) := HT.out.cells j 0 hlt (by decide)
      have c1 : wr.cell? ⟨g, j * 14 + 1, none⟩ = some (.string ⟨(W.nameAt (j + 1)).toArray⟩) := HT.out.cells j 1 hlt (by decide)
      have hw : W.wantF L (j + 1) = bif W.nameAt (j + 1) == L then (j : Int) + 1 else W.wantF L j := rfl
      cases ht : (W.nameAt (j + 1) == L) <;> rw [ht] at hw
      · have H2 : Hid (W.wantF L (j + 1) = W.wantF L j) := hw
        clear hw
        generalize W.nameAt (j + 1) = nk at *
        go_wp2
        go_roundw
        case rel => exact ⟨j + 1, by omega, by rw [H2.out], by go_num, trivial⟩
        case measure => simp [intOf]; omega
      · have H2 : Hid (W.wantF L (j + 1) = (j : Int) + 1) := hw
        clear hw
        generalize W.nameAt (j + 1) = nk at *
        go_wp2
        go_roundw
        case rel => exact ⟨j + 1, by omega, by rw [H2.out], by go_num, trivial⟩
        case measure => simp [intOf]; omega
    · obtain rfl : j = 69 := by omega
      rw [x2.out]
      clear HT
      go_wp2_with (first
        | (go_at_call_of 22 (Value.string ⟨L.toArray⟩); refine (from_ (op_any L _) hB5.out).mono ?_; clear hB5; rintro e w6 ⟨rfl, hb6⟩; have hB5 : Hid (Below w.heap.size w w6) := hb6; clear hb6; rw [x1.out])
        | (go_at_call_of 22 (Value.string ⟨N.toArray⟩); refine (from_ (op_any N _) hB5.out).mono ?_; clear hB5; rintro e w6 ⟨rfl, hb6⟩; have hB5 : Hid (Below w.heap.size w w6) := hb6; clear hb6; rw [x3.out])
        | (go_at_call 18; refine (from_ (name_any op _) hB5.out).mono ?_; clear hB5; rintro e w6 ⟨rfl, hb6⟩; have hB5 : Hid (Below w.heap.size w w6) := hb6; clear hb6; rw [n1.out]))
      go_ret
      exact ⟨rfl, hB5.out⟩

set_option maxRecDepth 100000 in
set_option maxHeartbeats 6400000 in
theorem isanames_f (A : Nat → Addr) (op : Int) (L N : List UInt8) (o oc f3 f7 fm wh kd : Int) (h3 h7 fd fa fb fc pr fi : Bool) (w : World) (hS : Sent A w) (hOf : Hid (∀ w, Calls Tryd.prog 16 #[.int .i64 op] w fun e w' => e = .returned (.tuple #[.agg #[.int .i64 o, .string ⟨N.toArray⟩, .int .u32 oc, .int .u32 f3, .int .u32 f7, .bool h3, .bool h7, .int .u8 fm, .bool fd, .bool fa, .bool fb, .bool fc, .int .u32 wh, .bool pr], .bool false]) ∧ Below w.heap.size w w'))
    (n1 : Hid (W.nm op = N)) (u1 : Hid ((W.shp op).rd = fd)) (u2 : Hid ((W.shp op).rs1 = fa)) (u3 : Hid ((W.shp op).rs2 = fb)) (u4 : Hid (W.hasImm (W.shp op) = fi)) (u5 : (fm != 0) = fi) (k1 : Hid (W.kind op = kd)) (X : Int) (x1 : Hid (max 0 (W.fidx L 0 70) = X)) (x2 : Hid (W.wantF L 69 = X)) :
    Calls Tryd.prog 5 #[.int .i64 op, .string ⟨L.toArray⟩] w fun e w' => e = .returned (.bool true) ∧ Below w.heap.size w w' := by
  have hb : Below w.heap.size w w := Below.refl _ _
  have HS : Hid (Sent A w) := hS
  clear hS
  go_enter Tryd.func5, Tryd.ntmps5
  go_wp2_with (first
    | (go_at_call 9; refine (from_ (first_any A _ HS.out) hb).mono ?_; clear hb; rintro e w1 ⟨rfl, hb⟩)
    | (go_at_call 16; refine (from_ (hOf.out _) hb).mono ?_; clear hb; rintro e w2 ⟨rfl, hb⟩)
    | (go_at_call 17; refine (uses_any op _).mono ?_; rintro e w3 ⟨rfl, hm⟩; have s3 : Hid (SN w2.heap.size N fm fd fa fb w w3) := SN.below ⟨hb.alloc hb.size _, by simp, by simp [go_sem], by simp [go_sem], by simp [go_sem], by simp [go_sem], by simp [go_sem]⟩ hm; clear hm; rw [u1.out, u2.out, u3.out, u4.out]))
  have hS0 : SN w2.heap.size N fm fd fa fb w w3.drew := s3.out.below (Below.refl _ _).drew
  go_region_held3 (fun w' => Below w.heap.size w w' ∧ w2.heap.size < w'.heap.size ∧ w'.cell? ⟨w2.heap.size, 1, none⟩ = some (.string ⟨N.toArray⟩) ∧ w'.cell? ⟨w2.heap.size, 7, none⟩ = some (.int .u8 fm) ∧ w'.cell? ⟨w2.heap.size, 8, none⟩ = some (.bool fd) ∧ w'.cell? ⟨w2.heap.size, 9, none⟩ = some (.bool fa) ∧ w'.cell? ⟨w2.heap.size, 10, none⟩ = some (.bool fb))
    (first
      | with_reducible assumption
      | (with_reducible refine SN.below (n := w2.heap.size) (N := N) (fm := fm) (fd := fd) (fa := fa) (fb := fb) (w := w) ?_ hm; with_reducible assumption)
      | (refine SN.below (n := w2.heap.size) (N := N) (fm := fm) (fd := fd) (fa := fa) (fb := fb) (w := w) ?_ hm; assumption))
    (first
      | (go_at_call 18; refine (name_any op _).mono ?_; rintro e w' ⟨rfl, hm⟩; rw [n1.out])
      | (go_at_call 19; refine (kind_bel op _).mono ?_; rintro e w' ⟨rfl, hm⟩; rw [k1.out])
      | (go_at_call 20; refine (rkind_bel op _).mono ?_; rintro e w' ⟨rfl, hm⟩; rw [k1.out]))
  have hB : Hid (Below w.heap.size w w') := (by (go_split_ands; assumption) : Below w.heap.size w w')
  clear hS0 s3
  go_wp2_with (go_at_call 21; refine (rows_tb _).mono ?_; rintro e w5 ⟨g, rfl, hT, hm⟩; have HT : Hid (Tb g w5) := hT; have hgl := hT.lt; have hB5 : Hid (Below w.heap.size w w5) := hB.out.trans (hm.mono hB.out.size); clear hT hm)
  go_loopw [12, 14] (fun wv i wr => ∃ j : Nat, j ≤ 69 ∧ wv = .int .i64 (W.wantF L j) ∧ i = .int .i64 j ∧ wr = w5) (fun _ i _ => (69 - intOf i).toNat)
  case atStart => exact ⟨0, by omega, rfl, rfl, rfl⟩
  case round =>
    obtain ⟨j, hj, rfl, rfl, rfl⟩ := hrel
    have hj0 : (0 : Int) ≤ (j : Int) := by omega
    by_cases hlt : j < 69
    · have hj1 : (j : Int) < 69 := by omega
      have c0 : wr.cell? ⟨g, j * 14, none⟩ = some (.int .i64 ((j : Int) + 1)) := HT.out.cells j 0 hlt (by decide)
      have c1 : wr.cell? ⟨g, j * 14 + 1, none⟩ = some (.string ⟨(W.nameAt (j + 1)).toArray⟩) := HT.out.cells j 1 hlt (by decide)
      have hw : W.wantF L (j + 1) = bif W.nameAt (j + 1) == L then (j : Int) + 1 else W.wantF L j := rfl
      cases ht : (W.nameAt (j + 1) == L) <;> rw [ht] at hw
      · have H2 : Hid (W.wantF L (j + 1) = W.wantF L j) := hw
        clear hw
        generalize W.nameAt (j + 1) = nk at *
        go_wp2
        go_roundw
        case rel => exact ⟨j + 1, by omega, by rw [H2.out], by go_num, trivial⟩
        case measure => simp [intOf]; omega
      · have H2 : Hid (W.wantF L (j + 1) = (j : Int) + 1) := hw
        clear hw
        generalize W.nameAt (j + 1) = nk at *
        go_wp2
        go_roundw
        case rel => exact ⟨j + 1, by omega, by rw [H2.out], by go_num, trivial⟩
        case measure => simp [intOf]; omega
    · obtain rfl : j = 69 := by omega
      rw [x2.out]
      clear HT
      go_wp2_with (first
        | (go_at_call_of 22 (Value.string ⟨L.toArray⟩); refine (from_ (op_any L _) hB5.out).mono ?_; clear hB5; rintro e w6 ⟨rfl, hb6⟩; have hB5 : Hid (Below w.heap.size w w6) := hb6; clear hb6; rw [x1.out]))
      go_ret
      exact ⟨rfl, hB5.out⟩

namespace W
theorem tab : ((List.range 70).all fun k => decide (max 0 (fidx (nameAt k) 0 70) = wantF (nameAt k) 69)) = true := by decide +kernel
theorem tab2 : ((List.range 69).all fun (k : Nat) => decide (max 0 (fidx (nameAt (k + 1)) 0 70) = (k : Int) + 1) && ((fmL.getD k 0 != 0) == hasImm (shp ((k : Int) + 1)))) = true := by decide +kernel
theorem fidx_none {L : List UInt8} (h : ∀ k, k < 70 → ¬ L = nameAt k) : ∀ n k, k + n ≤ 70 → fidx L k n = -1
  | 0, _, _ => rfl
  | n + 1, k, hk => by
    rw [fidx, beq_eq_false_iff_ne.2 (h k (by omega)), cond_false]
    exact fidx_none h n (k + 1) (by omega)
theorem wantF_none {L : List UInt8} (h : ∀ k, k < 70 → ¬ L = nameAt k) : ∀ j, j ≤ 69 → wantF L j = 0
  | 0, _ => rfl
  | j + 1, hj => by
    rw [wantF, beq_eq_false_iff_ne.2 (fun e => h (j + 1) (by omega) e.symm), cond_false]
    exact wantF_none h j (by omega)
theorem op_want (L : List UInt8) : wantF L 69 = max 0 (fidx L 0 70) := by
  by_cases h : ∃ k, k < 70 ∧ L = nameAt k
  · obtain ⟨k, hk, rfl⟩ := h
    have := List.all_eq_true.1 tab k (List.mem_range.2 hk)
    exact (of_decide_eq_true this).symm
  · have h' : ∀ k, k < 70 → ¬ L = nameAt k := fun k hk e => h ⟨k, hk, e⟩
    rw [fidx_none h' 70 0 (by omega), wantF_none h' 69 (by omega)]
    rfl
theorem shp_far {op : Int} (h : ¬ (1 ≤ op ∧ op ≤ 69)) : shp op = ⟨0, false, false, false, false, false, 0, 0, 0⟩ := by
  have e : ∀ k : Int, 1 ≤ k → k ≤ 69 → (op == k) = false := fun k h1 h2 => by simp; omega
  have g : ∀ a b : Int, 1 ≤ a → b ≤ 69 → fr a op b = false := fun a b h1 h2 => by simp [fr]; omega
  simp only [shp, e 1 (by decide) (by decide), e 2 (by decide) (by decide), e 3 (by decide) (by decide), e 4 (by decide) (by decide), e 38 (by decide) (by decide), e 44 (by decide) (by decide), e 59 (by decide) (by decide), g 11 15 (by decide) (by decide), g 19 24 (by decide) (by decide), g 5 10 (by decide) (by decide), g 16 18 (by decide) (by decide), g 25 27 (by decide) (by decide), g 28 37 (by decide) (by decide), g 51 58 (by decide) (by decide), g 39 43 (by decide) (by decide), g 45 47 (by decide) (by decide), g 48 50 (by decide) (by decide), g 60 69 (by decide) (by decide), cond_false]
end W

theorem isanames_walk (A : Nat → Addr) (op : Int) (nm : ByteArray) (_o0 : -9223372036854775808 ≤ op) (_o1 : op ≤ 9223372036854775807) (w : World) (hS : Sent A w) :
    Calls Tryd.prog 5 #[.int .i64 op, .string nm] w fun e w' => e = .returned (.bool true) ∧ Below w.heap.size w w' := by
  obtain ⟨L, rfl⟩ : ∃ L : List UInt8, nm = ⟨L.toArray⟩ := ⟨nm.data.toList, by cases nm; simp⟩
  by_cases h : 1 ≤ op ∧ op ≤ 69
  · obtain ⟨k, rfl, hk⟩ : ∃ k : Nat, op = (k : Int) + 1 ∧ k < 69 := ⟨(op - 1).toNat, by omega, by omega⟩
    have ek : ((k : Int) + 1).toNat - 1 = k := by omega
    have en : ((k : Int) + 1).toNat = k + 1 := by omega
    have hkn : W.known ((k : Int) + 1) = true := by simp [W.known, W.fr]; omega
    have hn : W.nm ((k : Int) + 1) = W.nameAt (k + 1) := by rw [W.nm, hkn, en]; rfl
    have ht := List.all_eq_true.1 W.tab2 k (List.mem_range.2 hk)
    rw [Bool.and_eq_true, beq_iff_eq] at ht
    have hOf : ∀ w, Calls Tryd.prog 16 #[.int .i64 ((k : Int) + 1)] w fun e w' => e = .returned (.tuple #[rwV (W.rw k), .bool true]) ∧ Below w.heap.size w w' := fun w => by
      have := of_some ((k : Int) + 1) h.1 h.2 w
      rwa [ek] at this
    have hx3 : max 0 (W.fidx (W.nameAt (k + 1)) 0 70) = (k : Int) + 1 := of_decide_eq_true ht.1
    exact isanames_t A _ L (W.nameAt (k + 1)) _ _ _ _ _ _ _ _ _ _ _ _ _ _ _ w hS hOf hn rfl rfl rfl rfl ht.2 rfl _ rfl (W.op_want L) hx3
  · have hs := W.shp_far h
    have hkn : W.known op = false := by simp [W.known, W.fr]; omega
    have hn : W.nm op = [] := by rw [W.nm, hkn]; rfl
    have hI : W.hasImm (W.shp op) = false := by rw [hs]; rfl
    have r1 : (W.shp op).rd = false := by rw [hs]
    have r2 : (W.shp op).rs1 = false := by rw [hs]
    have r3 : (W.shp op).rs2 = false := by rw [hs]
    exact isanames_f A op L [] 0 0 0 0 0 0 _ false false false false false false false false w hS (of_none op h) hn r1 r2 r3 hI rfl rfl _ rfl (W.op_want L)
end Go.Proofs.YtheajilopplchaaDoor
