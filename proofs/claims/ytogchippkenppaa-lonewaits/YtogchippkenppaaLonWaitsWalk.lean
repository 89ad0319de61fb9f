/- LoneWaits: the walk. -/
import Derived.Test.YtogchippkenppaaLonEq
namespace Go.Proofs.Ytogchippkenppaa
open Go.ChangeShapes Go.WideShapes Go.ChangeAt Go.RowKit
set_option linter.unusedVariables false
set_option linter.unusedSimpArgs false
attribute [local go_sem ↓] ldM_eq stM_eq bdM_eq bsM_eq
variable {n0 b : Nat} {s s' : W.Lo} {w w' w'' w0 w2 : World}

def W.knd (wr : Bool) : Int := if wr = true then 2 else 1
def W.wnt (wr di al : Bool) : Int := if wr = true ∧ di = true then 4 else if wr = true ∨ al = true then 2 else 1
def W.sw (wr : Bool) : W.Lo := ⟨5, 2, W.knd wr, 0, 0, 0, 0, 0⟩
structure W.Wa (wr : Bool) : Prop where
  a : (W.lo0 5 2).ask wr = (W.sw wr, [⟨W.knd wr, 5, 2, -1, 0, 0, 0, 0, false, false, false⟩], true)
  t : (W.sw wr).ask true = (W.sw wr, [], false)
  f : (W.sw wr).ask false = (W.sw wr, [], false)
  e : (W.sw wr).evict = (W.sw wr, [], false)
  cf : (W.sw wr).can false = false
  ct : (W.sw wr).can true = false
  s : ∀ x0 x1 x2 x3, (W.sw wr).set x0 x1 x2 x3 = (W.sw wr, false)
  g : (W.sw wr).tk (W.down 8 5 2) = false
  p : (W.sw wr).tk (W.down 9 5 2) = false
  d : ∀ di al x0 x1 x2 x3, (W.sw wr).take ⟨7, 5, -1, 2, x0, x1, x2, x3, true, di, al⟩ = (⟨5, 2, 0, W.wnt wr di al, x0, x1, x2, x3⟩, [⟨12, 5, 2, -1, 0, 0, 0, 0, false, false, false⟩], false)
theorem W.wa (wr : Bool) : W.Wa wr := by
  cases wr
  all_goals
    refine ⟨rfl, rfl, rfl, rfl, rfl, rfl, fun _ _ _ _ => rfl, rfl, rfl, fun di al _ _ _ _ => ?_⟩
    cases di <;> cases al <;> rfl
theorem bdM_w (x0 x1 x2 x3 : Int) (di al : Bool) (w : World) : (bdM #[(0, .int .i64 7), (1, .int .i64 5), (2, .int .i64 (-1)), (3, .int .i64 2), (4, .agg #[.int .u32 x0, .int .u32 x1, .int .u32 x2, .int .u32 x3]), (5, .bool true), (6, .bool di), (7, .bool al)]).run Try.prog w = .ok (mgV ⟨7, 5, -1, 2, x0, x1, x2, x3, true, di, al⟩) w := by kernel_rfl
set_option maxRecDepth 10000 in
set_option maxHeartbeats 3200000 in
theorem loneWaits_0 (x0 x1 x2 x3 : Int) (w : World) : Calls Try.prog 5 #[.bool false, .bool false, .bool false, .agg #[.int .u32 x0, .int .u32 x1, .int .u32 x2, .int .u32 x3]] w fun e w' => e = .returned (.bool true) ∧ Below w.heap.size w w' := by
  have hba := below_alloc w (.cells #[.int .u32 x0, .int .u32 x1, .int .u32 x2, .int .u32 x3] 29)
  have la : Rw w.heap.size #[.int .u32 x0, .int .u32 x1, .int .u32 x2, .int .u32 x3] 29 (w.alloc (.cells #[.int .u32 x0, .int .u32 x1, .int .u32 x2, .int .u32 x3] 29)) := rw_new w _ _
  have HB : Hid (Below w.heap.size w _ ∧ Rw w.heap.size #[.int .u32 x0, .int .u32 x1, .int .u32 x2, .int .u32 x3] 29 _) := ⟨hba, la⟩
  clear hba la
  have bd8 := bdM_down 8 5 2
  have bd9 := bdM_down 9 5 2
  have WA : Hid (W.Wa false) := W.wa false
  have hk : W.knd false = 1 := rfl
  go_enter Try.func5, Try.ntmps5
  go_wp2_with (fail)
  generalize World.alloc w _ = W1 at *
  refine (first19_any W1).mono ?_
  rintro e w1 ⟨rfl, hb1⟩
  have HB1 : Hid (Below w.heap.size w w1 ∧ Rw w.heap.size #[.int .u32 x0, .int .u32 x1, .int .u32 x2, .int .u32 x3] 29 w1) := ⟨HB.out.1.trans (hb1.mono HB.out.1.size), HB.out.2.below hb1⟩
  clear hb1 HB
  go_wp2_with (fail)
  refine (new_any 5 2 w1).mono ?_
  rintro e w2 ⟨rfl, hH, hb⟩
  have HH : Hid (Lq w1.heap.size w1.heap.size (W.lo0 5 2) w1 w2 ∧ Rw w.heap.size #[.int .u32 x0, .int .u32 x1, .int .u32 x2, .int .u32 x3] 29 w2 ∧ w.heap.size < w1.heap.size) := ⟨Lq.new 5 2 w1 w2 hH hb, HB1.out.2.below hb, HB1.out.2.lt⟩
  have HE : Hid (Below w.heap.size w w1) := HB1.out.1
  clear hH hb HB1
  have HN : Hid (∀ wz : World, Below w1.heap.size w1 wz → Below w.heap.size w wz) := fun wz h => HE.out.trans (h.mono HE.out.size)
  clear HE
  generalize w.heap.size = db at HH ⊢
  generalize w1.heap.size = b at HH HN ⊢
  -- it asks
  go_wp2_with (fail)
  refine (HH.out.1.ask false).mono ?_
  rintro e w3 ⟨sl, rfl, r⟩
  rw [WA.out.a] at r ⊢
  obtain ⟨g1, o1, c1, rfl, l1, n1, q1⟩ := r.one HH.out.1.h.lt
  have hz : w3.cell? ⟨g1, o1, none⟩ = some (.int .i64 1) := by rw [← hk]; exact q1 0 _ rfl
  have hz1 : w3.cell? ⟨g1, o1 + 1, none⟩ = some (.int .i64 5) := q1 1 _ rfl
  have hz2 : w3.cell? ⟨g1, o1 + 2, none⟩ = some (.int .i64 2) := q1 2 _ rfl
  have hz3 : w3.cell? ⟨g1, o1 + 3, none⟩ = some (.int .i64 (-1)) := q1 3 _ rfl
  have HA : Hid (Lq b b (W.sw false) w1 w3 ∧ Rw db #[.int .u32 x0, .int .u32 x1, .int .u32 x2, .int .u32 x3] 29 w3 ∧ db < b) := ⟨r.q, (r.k db HH.out.2.1.lt (by have := HH.out.2.2; omega)).trans HH.out.2.1, HH.out.2.2⟩
  clear r q1 l1 n1 HH
  unfold slV
  dsimp only
  go_wp2_with (fail)
  refine (waits_any HA.out.1.h).mono ?_
  rintro e w4 ⟨rfl, rfl⟩
  have hw : (W.sw false).wt = 1 := rfl
  rw [hw]
  go_wp2_with (fail)
  clear hz hz1 hz2 hz3 hw
  refine (HA.out.1.ask true).mono ?_
  rintro e w4 ⟨s4, rfl, r⟩
  rw [WA.out.t] at r ⊢
  have HA4 : Hid (Lq b b (W.sw false) w1 w4 ∧ Rw db #[.int .u32 x0, .int .u32 x1, .int .u32 x2, .int .u32 x3] 29 w4 ∧ db < b) := ⟨r.q, (r.k db HA.out.2.1.lt (by have := HA.out.2.2; omega)).trans HA.out.2.1, HA.out.2.2⟩
  clear r HA
  go_wp2_with (fail)
  refine (HA4.out.1.ask false).mono ?_
  rintro e w5 ⟨s5, rfl, r⟩
  rw [WA.out.f] at r ⊢
  have HA5 : Hid (Lq b b (W.sw false) w1 w5 ∧ Rw db #[.int .u32 x0, .int .u32 x1, .int .u32 x2, .int .u32 x3] 29 w5 ∧ db < b) := ⟨r.q, (r.k db HA4.out.2.1.lt (by have := HA4.out.2.2; omega)).trans HA4.out.2.1, HA4.out.2.2⟩
  clear r HA4
  go_wp2_with (fail)
  refine (HA5.out.1.evict).mono ?_
  rintro e w6 ⟨s6, rfl, r⟩
  rw [WA.out.e] at r ⊢
  have HA6 : Hid (Lq b b (W.sw false) w1 w6 ∧ Rw db #[.int .u32 x0, .int .u32 x1, .int .u32 x2, .int .u32 x3] 29 w6 ∧ db < b) := ⟨r.q, (r.k db HA5.out.2.1.lt (by have := HA5.out.2.2; omega)).trans HA5.out.2.1, HA5.out.2.2⟩
  clear r HA5
  go_wp2_with (fail)
  refine (can_any HA6.out.1.h false).mono ?_
  rintro e w7 ⟨rfl, rfl⟩
  rw [WA.out.cf]
  go_wp2_with (fail)
  refine (can_any HA6.out.1.h true).mono ?_
  rintro e w7 ⟨rfl, rfl⟩
  rw [WA.out.ct]
  have y0 := HA6.out.2.1.c 0 rfl
  have y1 := HA6.out.2.1.c 1 rfl
  have y2 := HA6.out.2.1.c 2 rfl
  have y3 := HA6.out.2.1.c 3 rfl
  go_wp2_with (fail)
  refine (HA6.out.1.set x0 x1 x2 x3).mono ?_
  rintro e w7 ⟨rfl, r1, r2, r3⟩
  rw [WA.out.s] at r1 ⊢
  have HA7 : Hid (Lq b b (W.sw false) w1 w7 ∧ Rw db #[.int .u32 x0, .int .u32 x1, .int .u32 x2, .int .u32 x3] 29 w7 ∧ db < b) := ⟨r1, (r2 db HA6.out.2.1.lt (by have := HA6.out.2.2; omega)).trans HA6.out.2.1, HA6.out.2.2⟩
  clear r1 r2 r3 HA6 y0 y1 y2 y3
  go_wp2_with (fail)
  refine (takes_any HA7.out.1.h (W.down 8 5 2)).mono ?_
  rintro e w8 ⟨rfl, hb8⟩
  rw [WA.out.g]
  have HA8 : Hid (Lq b b (W.sw false) w1 w8 ∧ Rw db #[.int .u32 x0, .int .u32 x1, .int .u32 x2, .int .u32 x3] 29 w8 ∧ db < b) := ⟨HA7.out.1.below hb8, HA7.out.2.1.below hb8, HA7.out.2.2⟩
  clear hb8 HA7
  go_wp2_with (fail)
  refine (takes_any HA8.out.1.h (W.down 9 5 2)).mono ?_
  rintro e w9 ⟨rfl, hb9⟩
  rw [WA.out.p]
  have HA9 : Hid (Lq b b (W.sw false) w1 w9 ∧ Rw db #[.int .u32 x0, .int .u32 x1, .int .u32 x2, .int .u32 x3] 29 w9 ∧ db < b) := ⟨HA8.out.1.below hb9, HA8.out.2.1.below hb9, HA8.out.2.2⟩
  clear hb9 HA8 bd8 bd9
  have y0 := HA9.out.2.1.c 0 rfl
  have y1 := HA9.out.2.1.c 1 rfl
  have y2 := HA9.out.2.1.c 2 rfl
  have y3 := HA9.out.2.1.c 3 rfl
  have bdw := bdM_w x0 x1 x2 x3 false false
  go_wp2_with (fail)
  refine (HA9.out.1.take ⟨7, 5, -1, 2, x0, x1, x2, x3, true, false, false⟩).mono ?_
  rintro e w10 ⟨s10, rfl, r⟩
  rw [WA.out.d] at r ⊢
  have hwn : W.wnt false false false = 1 := rfl
  rw [hwn] at r
  have HX : Hid (Lq b b ⟨5, 2, 0, 1, x0, x1, x2, x3⟩ w1 w10 ∧ Rw db #[.int .u32 x0, .int .u32 x1, .int .u32 x2, .int .u32 x3] 29 w10 ∧ db < b) := ⟨r.q, (r.k db HA9.out.2.1.lt (by have := HA9.out.2.2; omega)).trans HA9.out.2.1, HA9.out.2.2⟩
  clear r HA9 y0 y1 y2 y3 bdw WA hwn hk
  go_wp2_with (fail)
  refine (data_any HX.out.1.h).mono ?_
  rintro e w11 ⟨rfl, hb11⟩
  have hst : W.Lo.st ⟨5, 2, 0, 1, x0, x1, x2, x3⟩ = 1 := rfl
  rw [hst, if_neg (by decide)]
  have HY : Hid (Lq b b ⟨5, 2, 0, 1, x0, x1, x2, x3⟩ w1 w11 ∧ Rw db #[.int .u32 x0, .int .u32 x1, .int .u32 x2, .int .u32 x3] 29 w11 ∧ db < b) := ⟨HX.out.1.below hb11, HX.out.2.1.below hb11, HX.out.2.2⟩
  clear hb11 HX
  have hb12 := below_alloc w11 (.cells #[.int .u32 x0, .int .u32 x1, .int .u32 x2, .int .u32 x3] 29)
  have y0 := HY.out.2.1.c 0 rfl
  have y1 := HY.out.2.1.c 1 rfl
  have y2 := HY.out.2.1.c 2 rfl
  have y3 := HY.out.2.1.c 3 rfl
  have HZ : Hid (Lq b b ⟨5, 2, 0, 1, x0, x1, x2, x3⟩ w1 (w11.alloc (.cells #[.int .u32 x0, .int .u32 x1, .int .u32 x2, .int .u32 x3] 29))) := HY.out.1.below hb12
  have hdl : db < w11.heap.size := HY.out.2.1.lt
  have heq := eqLn x0 x1 x2 x3
  clear hb12 HY
  unfold lineV
  go_wp2_with (fail)
  refine (state_any HZ.out.h).mono ?_
  rintro e w12 ⟨rfl, rfl⟩
  rw [hst]
  go_wp2_with (fail)
  refine (can_any HZ.out.h false).mono ?_
  rintro e w12 ⟨rfl, rfl⟩
  have hcf : W.Lo.can ⟨5, 2, 0, 1, x0, x1, x2, x3⟩ false = true := rfl
  rw [hcf]
  go_wp2_with (fail)
  refine (can_any HZ.out.h true).mono ?_
  rintro e w12 ⟨rfl, rfl⟩
  have hct : W.Lo.can ⟨5, 2, 0, 1, x0, x1, x2, x3⟩ true = false := rfl
  rw [hct]
  go_wp2_with (fail)
  refine (waits_any HZ.out.h).mono ?_
  rintro e w12 ⟨rfl, rfl⟩
  go_wp2_with (fail)
  go_ret
  exact ⟨rfl, HN.out _ HZ.out.b⟩

set_option maxRecDepth 10000 in
set_option maxHeartbeats 3200000 in
theorem loneWaits_1 (x0 x1 x2 x3 : Int) (w : World) : Calls Try.prog 5 #[.bool true, .bool false, .bool false, .agg #[.int .u32 x0, .int .u32 x1, .int .u32 x2, .int .u32 x3]] w fun e w' => e = .returned (.bool true) ∧ Below w.heap.size w w' := by
  have hba := below_alloc w (.cells #[.int .u32 x0, .int .u32 x1, .int .u32 x2, .int .u32 x3] 29)
  have la : Rw w.heap.size #[.int .u32 x0, .int .u32 x1, .int .u32 x2, .int .u32 x3] 29 (w.alloc (.cells #[.int .u32 x0, .int .u32 x1, .int .u32 x2, .int .u32 x3] 29)) := rw_new w _ _
  have HB : Hid (Below w.heap.size w _ ∧ Rw w.heap.size #[.int .u32 x0, .int .u32 x1, .int .u32 x2, .int .u32 x3] 29 _) := ⟨hba, la⟩
  clear hba la
  have bd8 := bdM_down 8 5 2
  have bd9 := bdM_down 9 5 2
  have WA : Hid (W.Wa true) := W.wa true
  have hk : W.knd true = 2 := rfl
  go_enter Try.func5, Try.ntmps5
  go_wp2_with (fail)
  generalize World.alloc w _ = W1 at *
  refine (first19_any W1).mono ?_
  rintro e w1 ⟨rfl, hb1⟩
  have HB1 : Hid (Below w.heap.size w w1 ∧ Rw w.heap.size #[.int .u32 x0, .int .u32 x1, .int .u32 x2, .int .u32 x3] 29 w1) := ⟨HB.out.1.trans (hb1.mono HB.out.1.size), HB.out.2.below hb1⟩
  clear hb1 HB
  go_wp2_with (fail)
  refine (new_any 5 2 w1).mono ?_
  rintro e w2 ⟨rfl, hH, hb⟩
  have HH : Hid (Lq w1.heap.size w1.heap.size (W.lo0 5 2) w1 w2 ∧ Rw w.heap.size #[.int .u32 x0, .int .u32 x1, .int .u32 x2, .int .u32 x3] 29 w2 ∧ w.heap.size < w1.heap.size) := ⟨Lq.new 5 2 w1 w2 hH hb, HB1.out.2.below hb, HB1.out.2.lt⟩
  have HE : Hid (Below w.heap.size w w1) := HB1.out.1
  clear hH hb HB1
  have HN : Hid (∀ wz : World, Below w1.heap.size w1 wz → Below w.heap.size w wz) := fun wz h => HE.out.trans (h.mono HE.out.size)
  clear HE
  generalize w.heap.size = db at HH ⊢
  generalize w1.heap.size = b at HH HN ⊢
  -- it asks
  go_wp2_with (fail)
  refine (HH.out.1.ask true).mono ?_
  rintro e w3 ⟨sl, rfl, r⟩
  rw [WA.out.a] at r ⊢
  obtain ⟨g1, o1, c1, rfl, l1, n1, q1⟩ := r.one HH.out.1.h.lt
  have hz : w3.cell? ⟨g1, o1, none⟩ = some (.int .i64 2) := by rw [← hk]; exact q1 0 _ rfl
  have hz1 : w3.cell? ⟨g1, o1 + 1, none⟩ = some (.int .i64 5) := q1 1 _ rfl
  have hz2 : w3.cell? ⟨g1, o1 + 2, none⟩ = some (.int .i64 2) := q1 2 _ rfl
  have hz3 : w3.cell? ⟨g1, o1 + 3, none⟩ = some (.int .i64 (-1)) := q1 3 _ rfl
  have HA : Hid (Lq b b (W.sw true) w1 w3 ∧ Rw db #[.int .u32 x0, .int .u32 x1, .int .u32 x2, .int .u32 x3] 29 w3 ∧ db < b) := ⟨r.q, (r.k db HH.out.2.1.lt (by have := HH.out.2.2; omega)).trans HH.out.2.1, HH.out.2.2⟩
  clear r q1 l1 n1 HH
  unfold slV
  dsimp only
  go_wp2_with (fail)
  refine (waits_any HA.out.1.h).mono ?_
  rintro e w4 ⟨rfl, rfl⟩
  have hw : (W.sw true).wt = 2 := rfl
  rw [hw]
  go_wp2_with (fail)
  clear hz hz1 hz2 hz3 hw
  refine (HA.out.1.ask true).mono ?_
  rintro e w4 ⟨s4, rfl, r⟩
  rw [WA.out.t] at r ⊢
  have HA4 : Hid (Lq b b (W.sw true) w1 w4 ∧ Rw db #[.int .u32 x0, .int .u32 x1, .int .u32 x2, .int .u32 x3] 29 w4 ∧ db < b) := ⟨r.q, (r.k db HA.out.2.1.lt (by have := HA.out.2.2; omega)).trans HA.out.2.1, HA.out.2.2⟩
  clear r HA
  go_wp2_with (fail)
  refine (HA4.out.1.ask false).mono ?_
  rintro e w5 ⟨s5, rfl, r⟩
  rw [WA.out.f] at r ⊢
  have HA5 : Hid (Lq b b (W.sw true) w1 w5 ∧ Rw db #[.int .u32 x0, .int .u32 x1, .int .u32 x2, .int .u32 x3] 29 w5 ∧ db < b) := ⟨r.q, (r.k db HA4.out.2.1.lt (by have := HA4.out.2.2; omega)).trans HA4.out.2.1, HA4.out.2.2⟩
  clear r HA4
  go_wp2_with (fail)
  refine (HA5.out.1.evict).mono ?_
  rintro e w6 ⟨s6, rfl, r⟩
  rw [WA.out.e] at r ⊢
  have HA6 : Hid (Lq b b (W.sw true) w1 w6 ∧ Rw db #[.int .u32 x0, .int .u32 x1, .int .u32 x2, .int .u32 x3] 29 w6 ∧ db < b) := ⟨r.q, (r.k db HA5.out.2.1.lt (by have := HA5.out.2.2; omega)).trans HA5.out.2.1, HA5.out.2.2⟩
  clear r HA5
  go_wp2_with (fail)
  refine (can_any HA6.out.1.h false).mono ?_
  rintro e w7 ⟨rfl, rfl⟩
  rw [WA.out.cf]
  go_wp2_with (fail)
  refine (can_any HA6.out.1.h true).mono ?_
  rintro e w7 ⟨rfl, rfl⟩
  rw [WA.out.ct]
  have y0 := HA6.out.2.1.c 0 rfl
  have y1 := HA6.out.2.1.c 1 rfl
  have y2 := HA6.out.2.1.c 2 rfl
  have y3 := HA6.out.2.1.c 3 rfl
  go_wp2_with (fail)
  refine (HA6.out.1.set x0 x1 x2 x3).mono ?_
  rintro e w7 ⟨rfl, r1, r2, r3⟩
  rw [WA.out.s] at r1 ⊢
  have HA7 : Hid (Lq b b (W.sw true) w1 w7 ∧ Rw db #[.int .u32 x0, .int .u32 x1, .int .u32 x2, .int .u32 x3] 29 w7 ∧ db < b) := ⟨r1, (r2 db HA6.out.2.1.lt (by have := HA6.out.2.2; omega)).trans HA6.out.2.1, HA6.out.2.2⟩
  clear r1 r2 r3 HA6 y0 y1 y2 y3
  go_wp2_with (fail)
  refine (takes_any HA7.out.1.h (W.down 8 5 2)).mono ?_
  rintro e w8 ⟨rfl, hb8⟩
  rw [WA.out.g]
  have HA8 : Hid (Lq b b (W.sw true) w1 w8 ∧ Rw db #[.int .u32 x0, .int .u32 x1, .int .u32 x2, .int .u32 x3] 29 w8 ∧ db < b) := ⟨HA7.out.1.below hb8, HA7.out.2.1.below hb8, HA7.out.2.2⟩
  clear hb8 HA7
  go_wp2_with (fail)
  refine (takes_any HA8.out.1.h (W.down 9 5 2)).mono ?_
  rintro e w9 ⟨rfl, hb9⟩
  rw [WA.out.p]
  have HA9 : Hid (Lq b b (W.sw true) w1 w9 ∧ Rw db #[.int .u32 x0, .int .u32 x1, .int .u32 x2, .int .u32 x3] 29 w9 ∧ db < b) := ⟨HA8.out.1.below hb9, HA8.out.2.1.below hb9, HA8.out.2.2⟩
  clear hb9 HA8 bd8 bd9
  have y0 := HA9.out.2.1.c 0 rfl
  have y1 := HA9.out.2.1.c 1 rfl
  have y2 := HA9.out.2.1.c 2 rfl
  have y3 := HA9.out.2.1.c 3 rfl
  have bdw := bdM_w x0 x1 x2 x3 false false
  go_wp2_with (fail)
  refine (HA9.out.1.take ⟨7, 5, -1, 2, x0, x1, x2, x3, true, false, false⟩).mono ?_
  rintro e w10 ⟨s10, rfl, r⟩
  rw [WA.out.d] at r ⊢
  have hwn : W.wnt true false false = 2 := rfl
  rw [hwn] at r
  have HX : Hid (Lq b b ⟨5, 2, 0, 2, x0, x1, x2, x3⟩ w1 w10 ∧ Rw db #[.int .u32 x0, .int .u32 x1, .int .u32 x2, .int .u32 x3] 29 w10 ∧ db < b) := ⟨r.q, (r.k db HA9.out.2.1.lt (by have := HA9.out.2.2; omega)).trans HA9.out.2.1, HA9.out.2.2⟩
  clear r HA9 y0 y1 y2 y3 bdw WA hwn hk
  go_wp2_with (fail)
  refine (data_any HX.out.1.h).mono ?_
  rintro e w11 ⟨rfl, hb11⟩
  have hst : W.Lo.st ⟨5, 2, 0, 2, x0, x1, x2, x3⟩ = 2 := rfl
  rw [hst, if_neg (by decide)]
  have HY : Hid (Lq b b ⟨5, 2, 0, 2, x0, x1, x2, x3⟩ w1 w11 ∧ Rw db #[.int .u32 x0, .int .u32 x1, .int .u32 x2, .int .u32 x3] 29 w11 ∧ db < b) := ⟨HX.out.1.below hb11, HX.out.2.1.below hb11, HX.out.2.2⟩
  clear hb11 HX
  have hb12 := below_alloc w11 (.cells #[.int .u32 x0, .int .u32 x1, .int .u32 x2, .int .u32 x3] 29)
  have y0 := HY.out.2.1.c 0 rfl
  have y1 := HY.out.2.1.c 1 rfl
  have y2 := HY.out.2.1.c 2 rfl
  have y3 := HY.out.2.1.c 3 rfl
  have HZ : Hid (Lq b b ⟨5, 2, 0, 2, x0, x1, x2, x3⟩ w1 (w11.alloc (.cells #[.int .u32 x0, .int .u32 x1, .int .u32 x2, .int .u32 x3] 29))) := HY.out.1.below hb12
  have hdl : db < w11.heap.size := HY.out.2.1.lt
  have heq := eqLn x0 x1 x2 x3
  clear hb12 HY
  unfold lineV
  go_wp2_with (fail)
  refine (state_any HZ.out.h).mono ?_
  rintro e w12 ⟨rfl, rfl⟩
  rw [hst]
  go_wp2_with (fail)
  refine (can_any HZ.out.h false).mono ?_
  rintro e w12 ⟨rfl, rfl⟩
  have hcf : W.Lo.can ⟨5, 2, 0, 2, x0, x1, x2, x3⟩ false = true := rfl
  rw [hcf]
  go_wp2_with (fail)
  refine (can_any HZ.out.h true).mono ?_
  rintro e w12 ⟨rfl, rfl⟩
  have hct : W.Lo.can ⟨5, 2, 0, 2, x0, x1, x2, x3⟩ true = true := rfl
  rw [hct]
  go_wp2_with (fail)
  refine (waits_any HZ.out.h).mono ?_
  rintro e w12 ⟨rfl, rfl⟩
  go_wp2_with (fail)
  go_ret
  exact ⟨rfl, HN.out _ HZ.out.b⟩

set_option maxRecDepth 10000 in
set_option maxHeartbeats 3200000 in
theorem loneWaits_2 (x0 x1 x2 x3 : Int) (w : World) : Calls Try.prog 5 #[.bool false, .bool true, .bool false, .agg #[.int .u32 x0, .int .u32 x1, .int .u32 x2, .int .u32 x3]] w fun e w' => e = .returned (.bool true) ∧ Below w.heap.size w w' := by
  have hba := below_alloc w (.cells #[.int .u32 x0, .int .u32 x1, .int .u32 x2, .int .u32 x3] 29)
  have la : Rw w.heap.size #[.int .u32 x0, .int .u32 x1, .int .u32 x2, .int .u32 x3] 29 (w.alloc (.cells #[.int .u32 x0, .int .u32 x1, .int .u32 x2, .int .u32 x3] 29)) := rw_new w _ _
  have HB : Hid (Below w.heap.size w _ ∧ Rw w.heap.size #[.int .u32 x0, .int .u32 x1, .int .u32 x2, .int .u32 x3] 29 _) := ⟨hba, la⟩
  clear hba la
  have bd8 := bdM_down 8 5 2
  have bd9 := bdM_down 9 5 2
  have WA : Hid (W.Wa false) := W.wa false
  have hk : W.knd false = 1 := rfl
  go_enter Try.func5, Try.ntmps5
  go_wp2_with (fail)
  generalize World.alloc w _ = W1 at *
  refine (first19_any W1).mono ?_
  rintro e w1 ⟨rfl, hb1⟩
  have HB1 : Hid (Below w.heap.size w w1 ∧ Rw w.heap.size #[.int .u32 x0, .int .u32 x1, .int .u32 x2, .int .u32 x3] 29 w1) := ⟨HB.out.1.trans (hb1.mono HB.out.1.size), HB.out.2.below hb1⟩
  clear hb1 HB
  go_wp2_with (fail)
  refine (new_any 5 2 w1).mono ?_
  rintro e w2 ⟨rfl, hH, hb⟩
  have HH : Hid (Lq w1.heap.size w1.heap.size (W.lo0 5 2) w1 w2 ∧ Rw w.heap.size #[.int .u32 x0, .int .u32 x1, .int .u32 x2, .int .u32 x3] 29 w2 ∧ w.heap.size < w1.heap.size) := ⟨Lq.new 5 2 w1 w2 hH hb, HB1.out.2.below hb, HB1.out.2.lt⟩
  have HE : Hid (Below w.heap.size w w1) := HB1.out.1
  clear hH hb HB1
  have HN : Hid (∀ wz : World, Below w1.heap.size w1 wz → Below w.heap.size w wz) := fun wz h => HE.out.trans (h.mono HE.out.size)
  clear HE
  generalize w.heap.size = db at HH ⊢
  generalize w1.heap.size = b at HH HN ⊢
  -- it asks
  go_wp2_with (fail)
  refine (HH.out.1.ask false).mono ?_
  rintro e w3 ⟨sl, rfl, r⟩
  rw [WA.out.a] at r ⊢
  obtain ⟨g1, o1, c1, rfl, l1, n1, q1⟩ := r.one HH.out.1.h.lt
  have hz : w3.cell? ⟨g1, o1, none⟩ = some (.int .i64 1) := by rw [← hk]; exact q1 0 _ rfl
  have hz1 : w3.cell? ⟨g1, o1 + 1, none⟩ = some (.int .i64 5) := q1 1 _ rfl
  have hz2 : w3.cell? ⟨g1, o1 + 2, none⟩ = some (.int .i64 2) := q1 2 _ rfl
  have hz3 : w3.cell? ⟨g1, o1 + 3, none⟩ = some (.int .i64 (-1)) := q1 3 _ rfl
  have HA : Hid (Lq b b (W.sw false) w1 w3 ∧ Rw db #[.int .u32 x0, .int .u32 x1, .int .u32 x2, .int .u32 x3] 29 w3 ∧ db < b) := ⟨r.q, (r.k db HH.out.2.1.lt (by have := HH.out.2.2; omega)).trans HH.out.2.1, HH.out.2.2⟩
  clear r q1 l1 n1 HH
  unfold slV
  dsimp only
  go_wp2_with (fail)
  refine (waits_any HA.out.1.h).mono ?_
  rintro e w4 ⟨rfl, rfl⟩
  have hw : (W.sw false).wt = 1 := rfl
  rw [hw]
  go_wp2_with (fail)
  clear hz hz1 hz2 hz3 hw
  refine (HA.out.1.ask true).mono ?_
  rintro e w4 ⟨s4, rfl, r⟩
  rw [WA.out.t] at r ⊢
  have HA4 : Hid (Lq b b (W.sw false) w1 w4 ∧ Rw db #[.int .u32 x0, .int .u32 x1, .int .u32 x2, .int .u32 x3] 29 w4 ∧ db < b) := ⟨r.q, (r.k db HA.out.2.1.lt (by have := HA.out.2.2; omega)).trans HA.out.2.1, HA.out.2.2⟩
  clear r HA
  go_wp2_with (fail)
  refine (HA4.out.1.ask false).mono ?_
  rintro e w5 ⟨s5, rfl, r⟩
  rw [WA.out.f] at r ⊢
  have HA5 : Hid (Lq b b (W.sw false) w1 w5 ∧ Rw db #[.int .u32 x0, .int .u32 x1, .int .u32 x2, .int .u32 x3] 29 w5 ∧ db < b) := ⟨r.q, (r.k db HA4.out.2.1.lt (by have := HA4.out.2.2; omega)).trans HA4.out.2.1, HA4.out.2.2⟩
  clear r HA4
  go_wp2_with (fail)
  refine (HA5.out.1.evict).mono ?_
  rintro e w6 ⟨s6, rfl, r⟩
  rw [WA.out.e] at r ⊢
  have HA6 : Hid (Lq b b (W.sw false) w1 w6 ∧ Rw db #[.int .u32 x0, .int .u32 x1, .int .u32 x2, .int .u32 x3] 29 w6 ∧ db < b) := ⟨r.q, (r.k db HA5.out.2.1.lt (by have := HA5.out.2.2; omega)).trans HA5.out.2.1, HA5.out.2.2⟩
  clear r HA5
  go_wp2_with (fail)
  refine (can_any HA6.out.1.h false).mono ?_
  rintro e w7 ⟨rfl, rfl⟩
  rw [WA.out.cf]
  go_wp2_with (fail)
  refine (can_any HA6.out.1.h true).mono ?_
  rintro e w7 ⟨rfl, rfl⟩
  rw [WA.out.ct]
  have y0 := HA6.out.2.1.c 0 rfl
  have y1 := HA6.out.2.1.c 1 rfl
  have y2 := HA6.out.2.1.c 2 rfl
  have y3 := HA6.out.2.1.c 3 rfl
  go_wp2_with (fail)
  refine (HA6.out.1.set x0 x1 x2 x3).mono ?_
  rintro e w7 ⟨rfl, r1, r2, r3⟩
  rw [WA.out.s] at r1 ⊢
  have HA7 : Hid (Lq b b (W.sw false) w1 w7 ∧ Rw db #[.int .u32 x0, .int .u32 x1, .int .u32 x2, .int .u32 x3] 29 w7 ∧ db < b) := ⟨r1, (r2 db HA6.out.2.1.lt (by have := HA6.out.2.2; omega)).trans HA6.out.2.1, HA6.out.2.2⟩
  clear r1 r2 r3 HA6 y0 y1 y2 y3
  go_wp2_with (fail)
  refine (takes_any HA7.out.1.h (W.down 8 5 2)).mono ?_
  rintro e w8 ⟨rfl, hb8⟩
  rw [WA.out.g]
  have HA8 : Hid (Lq b b (W.sw false) w1 w8 ∧ Rw db #[.int .u32 x0, .int .u32 x1, .int .u32 x2, .int .u32 x3] 29 w8 ∧ db < b) := ⟨HA7.out.1.below hb8, HA7.out.2.1.below hb8, HA7.out.2.2⟩
  clear hb8 HA7
  go_wp2_with (fail)
  refine (takes_any HA8.out.1.h (W.down 9 5 2)).mono ?_
  rintro e w9 ⟨rfl, hb9⟩
  rw [WA.out.p]
  have HA9 : Hid (Lq b b (W.sw false) w1 w9 ∧ Rw db #[.int .u32 x0, .int .u32 x1, .int .u32 x2, .int .u32 x3] 29 w9 ∧ db < b) := ⟨HA8.out.1.below hb9, HA8.out.2.1.below hb9, HA8.out.2.2⟩
  clear hb9 HA8 bd8 bd9
  have y0 := HA9.out.2.1.c 0 rfl
  have y1 := HA9.out.2.1.c 1 rfl
  have y2 := HA9.out.2.1.c 2 rfl
  have y3 := HA9.out.2.1.c 3 rfl
  have bdw := bdM_w x0 x1 x2 x3 true false
  go_wp2_with (fail)
  refine (HA9.out.1.take ⟨7, 5, -1, 2, x0, x1, x2, x3, true, true, false⟩).mono ?_
  rintro e w10 ⟨s10, rfl, r⟩
  rw [WA.out.d] at r ⊢
  have hwn : W.wnt false true false = 1 := rfl
  rw [hwn] at r
  have HX : Hid (Lq b b ⟨5, 2, 0, 1, x0, x1, x2, x3⟩ w1 w10 ∧ Rw db #[.int .u32 x0, .int .u32 x1, .int .u32 x2, .int .u32 x3] 29 w10 ∧ db < b) := ⟨r.q, (r.k db HA9.out.2.1.lt (by have := HA9.out.2.2; omega)).trans HA9.out.2.1, HA9.out.2.2⟩
  clear r HA9 y0 y1 y2 y3 bdw WA hwn hk
  go_wp2_with (fail)
  refine (data_any HX.out.1.h).mono ?_
  rintro e w11 ⟨rfl, hb11⟩
  have hst : W.Lo.st ⟨5, 2, 0, 1, x0, x1, x2, x3⟩ = 1 := rfl
  rw [hst, if_neg (by decide)]
  have HY : Hid (Lq b b ⟨5, 2, 0, 1, x0, x1, x2, x3⟩ w1 w11 ∧ Rw db #[.int .u32 x0, .int .u32 x1, .int .u32 x2, .int .u32 x3] 29 w11 ∧ db < b) := ⟨HX.out.1.below hb11, HX.out.2.1.below hb11, HX.out.2.2⟩
  clear hb11 HX
  have hb12 := below_alloc w11 (.cells #[.int .u32 x0, .int .u32 x1, .int .u32 x2, .int .u32 x3] 29)
  have y0 := HY.out.2.1.c 0 rfl
  have y1 := HY.out.2.1.c 1 rfl
  have y2 := HY.out.2.1.c 2 rfl
  have y3 := HY.out.2.1.c 3 rfl
  have HZ : Hid (Lq b b ⟨5, 2, 0, 1, x0, x1, x2, x3⟩ w1 (w11.alloc (.cells #[.int .u32 x0, .int .u32 x1, .int .u32 x2, .int .u32 x3] 29))) := HY.out.1.below hb12
  have hdl : db < w11.heap.size := HY.out.2.1.lt
  have heq := eqLn x0 x1 x2 x3
  clear hb12 HY
  unfold lineV
  go_wp2_with (fail)
  refine (state_any HZ.out.h).mono ?_
  rintro e w12 ⟨rfl, rfl⟩
  rw [hst]
  go_wp2_with (fail)
  refine (can_any HZ.out.h false).mono ?_
  rintro e w12 ⟨rfl, rfl⟩
  have hcf : W.Lo.can ⟨5, 2, 0, 1, x0, x1, x2, x3⟩ false = true := rfl
  rw [hcf]
  go_wp2_with (fail)
  refine (can_any HZ.out.h true).mono ?_
  rintro e w12 ⟨rfl, rfl⟩
  have hct : W.Lo.can ⟨5, 2, 0, 1, x0, x1, x2, x3⟩ true = false := rfl
  rw [hct]
  go_wp2_with (fail)
  refine (waits_any HZ.out.h).mono ?_
  rintro e w12 ⟨rfl, rfl⟩
  go_wp2_with (fail)
  go_ret
  exact ⟨rfl, HN.out _ HZ.out.b⟩

set_option maxRecDepth 10000 in
set_option maxHeartbeats 3200000 in
theorem loneWaits_3 (x0 x1 x2 x3 : Int) (w : World) : Calls Try.prog 5 #[.bool true, .bool true, .bool false, .agg #[.int .u32 x0, .int .u32 x1, .int .u32 x2, .int .u32 x3]] w fun e w' => e = .returned (.bool true) ∧ Below w.heap.size w w' := by
  have hba := below_alloc w (.cells #[.int .u32 x0, .int .u32 x1, .int .u32 x2, .int .u32 x3] 29)
  have la : Rw w.heap.size #[.int .u32 x0, .int .u32 x1, .int .u32 x2, .int .u32 x3] 29 (w.alloc (.cells #[.int .u32 x0, .int .u32 x1, .int .u32 x2, .int .u32 x3] 29)) := rw_new w _ _
  have HB : Hid (Below w.heap.size w _ ∧ Rw w.heap.size #[.int .u32 x0, .int .u32 x1, .int .u32 x2, .int .u32 x3] 29 _) := ⟨hba, la⟩
  clear hba la
  have bd8 := bdM_down 8 5 2
  have bd9 := bdM_down 9 5 2
  have WA : Hid (W.Wa true) := W.wa true
  have hk : W.knd true = 2 := rfl
  go_enter Try.func5, Try.ntmps5
  go_wp2_with (fail)
  generalize World.alloc w _ = W1 at *
  refine (first19_any W1).mono ?_
  rintro e w1 ⟨rfl, hb1⟩
  have HB1 : Hid (Below w.heap.size w w1 ∧ Rw w.heap.size #[.int .u32 x0, .int .u32 x1, .int .u32 x2, .int .u32 x3] 29 w1) := ⟨HB.out.1.trans (hb1.mono HB.out.1.size), HB.out.2.below hb1⟩
  clear hb1 HB
  go_wp2_with (fail)
  refine (new_any 5 2 w1).mono ?_
  rintro e w2 ⟨rfl, hH, hb⟩
  have HH : Hid (Lq w1.heap.size w1.heap.size (W.lo0 5 2) w1 w2 ∧ Rw w.heap.size #[.int .u32 x0, .int .u32 x1, .int .u32 x2, .int .u32 x3] 29 w2 ∧ w.heap.size < w1.heap.size) := ⟨Lq.new 5 2 w1 w2 hH hb, HB1.out.2.below hb, HB1.out.2.lt⟩
  have HE : Hid (Below w.heap.size w w1) := HB1.out.1
  clear hH hb HB1
  have HN : Hid (∀ wz : World, Below w1.heap.size w1 wz → Below w.heap.size w wz) := fun wz h => HE.out.trans (h.mono HE.out.size)
  clear HE
  generalize w.heap.size = db at HH ⊢
  generalize w1.heap.size = b at HH HN ⊢
  -- it asks
  go_wp2_with (fail)
  refine (HH.out.1.ask true).mono ?_
  rintro e w3 ⟨sl, rfl, r⟩
  rw [WA.out.a] at r ⊢
  obtain ⟨g1, o1, c1, rfl, l1, n1, q1⟩ := r.one HH.out.1.h.lt
  have hz : w3.cell? ⟨g1, o1, none⟩ = some (.int .i64 2) := by rw [← hk]; exact q1 0 _ rfl
  have hz1 : w3.cell? ⟨g1, o1 + 1, none⟩ = some (.int .i64 5) := q1 1 _ rfl
  have hz2 : w3.cell? ⟨g1, o1 + 2, none⟩ = some (.int .i64 2) := q1 2 _ rfl
  have hz3 : w3.cell? ⟨g1, o1 + 3, none⟩ = some (.int .i64 (-1)) := q1 3 _ rfl
  have HA : Hid (Lq b b (W.sw true) w1 w3 ∧ Rw db #[.int .u32 x0, .int .u32 x1, .int .u32 x2, .int .u32 x3] 29 w3 ∧ db < b) := ⟨r.q, (r.k db HH.out.2.1.lt (by have := HH.out.2.2; omega)).trans HH.out.2.1, HH.out.2.2⟩
  clear r q1 l1 n1 HH
  unfold slV
  dsimp only
  go_wp2_with (fail)
  refine (waits_any HA.out.1.h).mono ?_
  rintro e w4 ⟨rfl, rfl⟩
  have hw : (W.sw true).wt = 2 := rfl
  rw [hw]
  go_wp2_with (fail)
  clear hz hz1 hz2 hz3 hw
  refine (HA.out.1.ask true).mono ?_
  rintro e w4 ⟨s4, rfl, r⟩
  rw [WA.out.t] at r ⊢
  have HA4 : Hid (Lq b b (W.sw true) w1 w4 ∧ Rw db #[.int .u32 x0, .int .u32 x1, .int .u32 x2, .int .u32 x3] 29 w4 ∧ db < b) := ⟨r.q, (r.k db HA.out.2.1.lt (by have := HA.out.2.2; omega)).trans HA.out.2.1, HA.out.2.2⟩
  clear r HA
  go_wp2_with (fail)
  refine (HA4.out.1.ask false).mono ?_
  rintro e w5 ⟨s5, rfl, r⟩
  rw [WA.out.f] at r ⊢
  have HA5 : Hid (Lq b b (W.sw true) w1 w5 ∧ Rw db #[.int .u32 x0, .int .u32 x1, .int .u32 x2, .int .u32 x3] 29 w5 ∧ db < b) := ⟨r.q, (r.k db HA4.out.2.1.lt (by have := HA4.out.2.2; omega)).trans HA4.out.2.1, HA4.out.2.2⟩
  clear r HA4
  go_wp2_with (fail)
  refine (HA5.out.1.evict).mono ?_
  rintro e w6 ⟨s6, rfl, r⟩
  rw [WA.out.e] at r ⊢
  have HA6 : Hid (Lq b b (W.sw true) w1 w6 ∧ Rw db #[.int .u32 x0, .int .u32 x1, .int .u32 x2, .int .u32 x3] 29 w6 ∧ db < b) := ⟨r.q, (r.k db HA5.out.2.1.lt (by have := HA5.out.2.2; omega)).trans HA5.out.2.1, HA5.out.2.2⟩
  clear r HA5
  go_wp2_with (fail)
  refine (can_any HA6.out.1.h false).mono ?_
  rintro e w7 ⟨rfl, rfl⟩
  rw [WA.out.cf]
  go_wp2_with (fail)
  refine (can_any HA6.out.1.h true).mono ?_
  rintro e w7 ⟨rfl, rfl⟩
  rw [WA.out.ct]
  have y0 := HA6.out.2.1.c 0 rfl
  have y1 := HA6.out.2.1.c 1 rfl
  have y2 := HA6.out.2.1.c 2 rfl
  have y3 := HA6.out.2.1.c 3 rfl
  go_wp2_with (fail)
  refine (HA6.out.1.set x0 x1 x2 x3).mono ?_
  rintro e w7 ⟨rfl, r1, r2, r3⟩
  rw [WA.out.s] at r1 ⊢
  have HA7 : Hid (Lq b b (W.sw true) w1 w7 ∧ Rw db #[.int .u32 x0, .int .u32 x1, .int .u32 x2, .int .u32 x3] 29 w7 ∧ db < b) := ⟨r1, (r2 db HA6.out.2.1.lt (by have := HA6.out.2.2; omega)).trans HA6.out.2.1, HA6.out.2.2⟩
  clear r1 r2 r3 HA6 y0 y1 y2 y3
  go_wp2_with (fail)
  refine (takes_any HA7.out.1.h (W.down 8 5 2)).mono ?_
  rintro e w8 ⟨rfl, hb8⟩
  rw [WA.out.g]
  have HA8 : Hid (Lq b b (W.sw true) w1 w8 ∧ Rw db #[.int .u32 x0, .int .u32 x1, .int .u32 x2, .int .u32 x3] 29 w8 ∧ db < b) := ⟨HA7.out.1.below hb8, HA7.out.2.1.below hb8, HA7.out.2.2⟩
  clear hb8 HA7
  go_wp2_with (fail)
  refine (takes_any HA8.out.1.h (W.down 9 5 2)).mono ?_
  rintro e w9 ⟨rfl, hb9⟩
  rw [WA.out.p]
  have HA9 : Hid (Lq b b (W.sw true) w1 w9 ∧ Rw db #[.int .u32 x0, .int .u32 x1, .int .u32 x2, .int .u32 x3] 29 w9 ∧ db < b) := ⟨HA8.out.1.below hb9, HA8.out.2.1.below hb9, HA8.out.2.2⟩
  clear hb9 HA8 bd8 bd9
  have y0 := HA9.out.2.1.c 0 rfl
  have y1 := HA9.out.2.1.c 1 rfl
  have y2 := HA9.out.2.1.c 2 rfl
  have y3 := HA9.out.2.1.c 3 rfl
  have bdw := bdM_w x0 x1 x2 x3 true false
  go_wp2_with (fail)
  refine (HA9.out.1.take ⟨7, 5, -1, 2, x0, x1, x2, x3, true, true, false⟩).mono ?_
  rintro e w10 ⟨s10, rfl, r⟩
  rw [WA.out.d] at r ⊢
  have hwn : W.wnt true true false = 4 := rfl
  rw [hwn] at r
  have HX : Hid (Lq b b ⟨5, 2, 0, 4, x0, x1, x2, x3⟩ w1 w10 ∧ Rw db #[.int .u32 x0, .int .u32 x1, .int .u32 x2, .int .u32 x3] 29 w10 ∧ db < b) := ⟨r.q, (r.k db HA9.out.2.1.lt (by have := HA9.out.2.2; omega)).trans HA9.out.2.1, HA9.out.2.2⟩
  clear r HA9 y0 y1 y2 y3 bdw WA hwn hk
  go_wp2_with (fail)
  refine (data_any HX.out.1.h).mono ?_
  rintro e w11 ⟨rfl, hb11⟩
  have hst : W.Lo.st ⟨5, 2, 0, 4, x0, x1, x2, x3⟩ = 4 := rfl
  rw [hst, if_neg (by decide)]
  have HY : Hid (Lq b b ⟨5, 2, 0, 4, x0, x1, x2, x3⟩ w1 w11 ∧ Rw db #[.int .u32 x0, .int .u32 x1, .int .u32 x2, .int .u32 x3] 29 w11 ∧ db < b) := ⟨HX.out.1.below hb11, HX.out.2.1.below hb11, HX.out.2.2⟩
  clear hb11 HX
  have hb12 := below_alloc w11 (.cells #[.int .u32 x0, .int .u32 x1, .int .u32 x2, .int .u32 x3] 29)
  have y0 := HY.out.2.1.c 0 rfl
  have y1 := HY.out.2.1.c 1 rfl
  have y2 := HY.out.2.1.c 2 rfl
  have y3 := HY.out.2.1.c 3 rfl
  have HZ : Hid (Lq b b ⟨5, 2, 0, 4, x0, x1, x2, x3⟩ w1 (w11.alloc (.cells #[.int .u32 x0, .int .u32 x1, .int .u32 x2, .int .u32 x3] 29))) := HY.out.1.below hb12
  have hdl : db < w11.heap.size := HY.out.2.1.lt
  have heq := eqLn x0 x1 x2 x3
  clear hb12 HY
  unfold lineV
  go_wp2_with (fail)
  refine (state_any HZ.out.h).mono ?_
  rintro e w12 ⟨rfl, rfl⟩
  rw [hst]
  go_wp2_with (fail)
  refine (can_any HZ.out.h false).mono ?_
  rintro e w12 ⟨rfl, rfl⟩
  have hcf : W.Lo.can ⟨5, 2, 0, 4, x0, x1, x2, x3⟩ false = true := rfl
  rw [hcf]
  go_wp2_with (fail)
  refine (can_any HZ.out.h true).mono ?_
  rintro e w12 ⟨rfl, rfl⟩
  have hct : W.Lo.can ⟨5, 2, 0, 4, x0, x1, x2, x3⟩ true = true := rfl
  rw [hct]
  go_wp2_with (fail)
  refine (waits_any HZ.out.h).mono ?_
  rintro e w12 ⟨rfl, rfl⟩
  go_wp2_with (fail)
  go_ret
  exact ⟨rfl, HN.out _ HZ.out.b⟩

set_option maxRecDepth 10000 in
set_option maxHeartbeats 3200000 in
theorem loneWaits_4 (x0 x1 x2 x3 : Int) (w : World) : Calls Try.prog 5 #[.bool false, .bool false, .bool true, .agg #[.int .u32 x0, .int .u32 x1, .int .u32 x2, .int .u32 x3]] w fun e w' => e = .returned (.bool true) ∧ Below w.heap.size w w' := by
  have hba := below_alloc w (.cells #[.int .u32 x0, .int .u32 x1, .int .u32 x2, .int .u32 x3] 29)
  have la : Rw w.heap.size #[.int .u32 x0, .int .u32 x1, .int .u32 x2, .int .u32 x3] 29 (w.alloc (.cells #[.int .u32 x0, .int .u32 x1, .int .u32 x2, .int .u32 x3] 29)) := rw_new w _ _
  have HB : Hid (Below w.heap.size w _ ∧ Rw w.heap.size #[.int .u32 x0, .int .u32 x1, .int .u32 x2, .int .u32 x3] 29 _) := ⟨hba, la⟩
  clear hba la
  have bd8 := bdM_down 8 5 2
  have bd9 := bdM_down 9 5 2
  have WA : Hid (W.Wa false) := W.wa false
  have hk : W.knd false = 1 := rfl
  go_enter Try.func5, Try.ntmps5
  go_wp2_with (fail)
  generalize World.alloc w _ = W1 at *
  refine (first19_any W1).mono ?_
  rintro e w1 ⟨rfl, hb1⟩
  have HB1 : Hid (Below w.heap.size w w1 ∧ Rw w.heap.size #[.int .u32 x0, .int .u32 x1, .int .u32 x2, .int .u32 x3] 29 w1) := ⟨HB.out.1.trans (hb1.mono HB.out.1.size), HB.out.2.below hb1⟩
  clear hb1 HB
  go_wp2_with (fail)
  refine (new_any 5 2 w1).mono ?_
  rintro e w2 ⟨rfl, hH, hb⟩
  have HH : Hid (Lq w1.heap.size w1.heap.size (W.lo0 5 2) w1 w2 ∧ Rw w.heap.size #[.int .u32 x0, .int .u32 x1, .int .u32 x2, .int .u32 x3] 29 w2 ∧ w.heap.size < w1.heap.size) := ⟨Lq.new 5 2 w1 w2 hH hb, HB1.out.2.below hb, HB1.out.2.lt⟩
  have HE : Hid (Below w.heap.size w w1) := HB1.out.1
  clear hH hb HB1
  have HN : Hid (∀ wz : World, Below w1.heap.size w1 wz → Below w.heap.size w wz) := fun wz h => HE.out.trans (h.mono HE.out.size)
  clear HE
  generalize w.heap.size = db at HH ⊢
  generalize w1.heap.size = b at HH HN ⊢
  -- it asks
  go_wp2_with (fail)
  refine (HH.out.1.ask false).mono ?_
  rintro e w3 ⟨sl, rfl, r⟩
  rw [WA.out.a] at r ⊢
  obtain ⟨g1, o1, c1, rfl, l1, n1, q1⟩ := r.one HH.out.1.h.lt
  have hz : w3.cell? ⟨g1, o1, none⟩ = some (.int .i64 1) := by rw [← hk]; exact q1 0 _ rfl
  have hz1 : w3.cell? ⟨g1, o1 + 1, none⟩ = some (.int .i64 5) := q1 1 _ rfl
  have hz2 : w3.cell? ⟨g1, o1 + 2, none⟩ = some (.int .i64 2) := q1 2 _ rfl
  have hz3 : w3.cell? ⟨g1, o1 + 3, none⟩ = some (.int .i64 (-1)) := q1 3 _ rfl
  have HA : Hid (Lq b b (W.sw false) w1 w3 ∧ Rw db #[.int .u32 x0, .int .u32 x1, .int .u32 x2, .int .u32 x3] 29 w3 ∧ db < b) := ⟨r.q, (r.k db HH.out.2.1.lt (by have := HH.out.2.2; omega)).trans HH.out.2.1, HH.out.2.2⟩
  clear r q1 l1 n1 HH
  unfold slV
  dsimp only
  go_wp2_with (fail)
  refine (waits_any HA.out.1.h).mono ?_
  rintro e w4 ⟨rfl, rfl⟩
  have hw : (W.sw false).wt = 1 := rfl
  rw [hw]
  go_wp2_with (fail)
  clear hz hz1 hz2 hz3 hw
  refine (HA.out.1.ask true).mono ?_
  rintro e w4 ⟨s4, rfl, r⟩
  rw [WA.out.t] at r ⊢
  have HA4 : Hid (Lq b b (W.sw false) w1 w4 ∧ Rw db #[.int .u32 x0, .int .u32 x1, .int .u32 x2, .int .u32 x3] 29 w4 ∧ db < b) := ⟨r.q, (r.k db HA.out.2.1.lt (by have := HA.out.2.2; omega)).trans HA.out.2.1, HA.out.2.2⟩
  clear r HA
  go_wp2_with (fail)
  refine (HA4.out.1.ask false).mono ?_
  rintro e w5 ⟨s5, rfl, r⟩
  rw [WA.out.f] at r ⊢
  have HA5 : Hid (Lq b b (W.sw false) w1 w5 ∧ Rw db #[.int .u32 x0, .int .u32 x1, .int .u32 x2, .int .u32 x3] 29 w5 ∧ db < b) := ⟨r.q, (r.k db HA4.out.2.1.lt (by have := HA4.out.2.2; omega)).trans HA4.out.2.1, HA4.out.2.2⟩
  clear r HA4
  go_wp2_with (fail)
  refine (HA5.out.1.evict).mono ?_
  rintro e w6 ⟨s6, rfl, r⟩
  rw [WA.out.e] at r ⊢
  have HA6 : Hid (Lq b b (W.sw false) w1 w6 ∧ Rw db #[.int .u32 x0, .int .u32 x1, .int .u32 x2, .int .u32 x3] 29 w6 ∧ db < b) := ⟨r.q, (r.k db HA5.out.2.1.lt (by have := HA5.out.2.2; omega)).trans HA5.out.2.1, HA5.out.2.2⟩
  clear r HA5
  go_wp2_with (fail)
  refine (can_any HA6.out.1.h false).mono ?_
  rintro e w7 ⟨rfl, rfl⟩
  rw [WA.out.cf]
  go_wp2_with (fail)
  refine (can_any HA6.out.1.h true).mono ?_
  rintro e w7 ⟨rfl, rfl⟩
  rw [WA.out.ct]
  have y0 := HA6.out.2.1.c 0 rfl
  have y1 := HA6.out.2.1.c 1 rfl
  have y2 := HA6.out.2.1.c 2 rfl
  have y3 := HA6.out.2.1.c 3 rfl
  go_wp2_with (fail)
  refine (HA6.out.1.set x0 x1 x2 x3).mono ?_
  rintro e w7 ⟨rfl, r1, r2, r3⟩
  rw [WA.out.s] at r1 ⊢
  have HA7 : Hid (Lq b b (W.sw false) w1 w7 ∧ Rw db #[.int .u32 x0, .int .u32 x1, .int .u32 x2, .int .u32 x3] 29 w7 ∧ db < b) := ⟨r1, (r2 db HA6.out.2.1.lt (by have := HA6.out.2.2; omega)).trans HA6.out.2.1, HA6.out.2.2⟩
  clear r1 r2 r3 HA6 y0 y1 y2 y3
  go_wp2_with (fail)
  refine (takes_any HA7.out.1.h (W.down 8 5 2)).mono ?_
  rintro e w8 ⟨rfl, hb8⟩
  rw [WA.out.g]
  have HA8 : Hid (Lq b b (W.sw false) w1 w8 ∧ Rw db #[.int .u32 x0, .int .u32 x1, .int .u32 x2, .int .u32 x3] 29 w8 ∧ db < b) := ⟨HA7.out.1.below hb8, HA7.out.2.1.below hb8, HA7.out.2.2⟩
  clear hb8 HA7
  go_wp2_with (fail)
  refine (takes_any HA8.out.1.h (W.down 9 5 2)).mono ?_
  rintro e w9 ⟨rfl, hb9⟩
  rw [WA.out.p]
  have HA9 : Hid (Lq b b (W.sw false) w1 w9 ∧ Rw db #[.int .u32 x0, .int .u32 x1, .int .u32 x2, .int .u32 x3] 29 w9 ∧ db < b) := ⟨HA8.out.1.below hb9, HA8.out.2.1.below hb9, HA8.out.2.2⟩
  clear hb9 HA8 bd8 bd9
  have y0 := HA9.out.2.1.c 0 rfl
  have y1 := HA9.out.2.1.c 1 rfl
  have y2 := HA9.out.2.1.c 2 rfl
  have y3 := HA9.out.2.1.c 3 rfl
  have bdw := bdM_w x0 x1 x2 x3 false true
  go_wp2_with (fail)
  refine (HA9.out.1.take ⟨7, 5, -1, 2, x0, x1, x2, x3, true, false, true⟩).mono ?_
  rintro e w10 ⟨s10, rfl, r⟩
  rw [WA.out.d] at r ⊢
  have hwn : W.wnt false false true = 2 := rfl
  rw [hwn] at r
  have HX : Hid (Lq b b ⟨5, 2, 0, 2, x0, x1, x2, x3⟩ w1 w10 ∧ Rw db #[.int .u32 x0, .int .u32 x1, .int .u32 x2, .int .u32 x3] 29 w10 ∧ db < b) := ⟨r.q, (r.k db HA9.out.2.1.lt (by have := HA9.out.2.2; omega)).trans HA9.out.2.1, HA9.out.2.2⟩
  clear r HA9 y0 y1 y2 y3 bdw WA hwn hk
  go_wp2_with (fail)
  refine (data_any HX.out.1.h).mono ?_
  rintro e w11 ⟨rfl, hb11⟩
  have hst : W.Lo.st ⟨5, 2, 0, 2, x0, x1, x2, x3⟩ = 2 := rfl
  rw [hst, if_neg (by decide)]
  have HY : Hid (Lq b b ⟨5, 2, 0, 2, x0, x1, x2, x3⟩ w1 w11 ∧ Rw db #[.int .u32 x0, .int .u32 x1, .int .u32 x2, .int .u32 x3] 29 w11 ∧ db < b) := ⟨HX.out.1.below hb11, HX.out.2.1.below hb11, HX.out.2.2⟩
  clear hb11 HX
  have hb12 := below_alloc w11 (.cells #[.int .u32 x0, .int .u32 x1, .int .u32 x2, .int .u32 x3] 29)
  have y0 := HY.out.2.1.c 0 rfl
  have y1 := HY.out.2.1.c 1 rfl
  have y2 := HY.out.2.1.c 2 rfl
  have y3 := HY.out.2.1.c 3 rfl
  have HZ : Hid (Lq b b ⟨5, 2, 0, 2, x0, x1, x2, x3⟩ w1 (w11.alloc (.cells #[.int .u32 x0, .int .u32 x1, .int .u32 x2, .int .u32 x3] 29))) := HY.out.1.below hb12
  have hdl : db < w11.heap.size := HY.out.2.1.lt
  have heq := eqLn x0 x1 x2 x3
  clear hb12 HY
  unfold lineV
  go_wp2_with (fail)
  refine (state_any HZ.out.h).mono ?_
  rintro e w12 ⟨rfl, rfl⟩
  rw [hst]
  go_wp2_with (fail)
  refine (can_any HZ.out.h false).mono ?_
  rintro e w12 ⟨rfl, rfl⟩
  have hcf : W.Lo.can ⟨5, 2, 0, 2, x0, x1, x2, x3⟩ false = true := rfl
  rw [hcf]
  go_wp2_with (fail)
  refine (can_any HZ.out.h true).mono ?_
  rintro e w12 ⟨rfl, rfl⟩
  have hct : W.Lo.can ⟨5, 2, 0, 2, x0, x1, x2, x3⟩ true = true := rfl
  rw [hct]
  go_wp2_with (fail)
  refine (waits_any HZ.out.h).mono ?_
  rintro e w12 ⟨rfl, rfl⟩
  go_wp2_with (fail)
  go_ret
  exact ⟨rfl, HN.out _ HZ.out.b⟩

set_option maxRecDepth 10000 in
set_option maxHeartbeats 3200000 in
theorem loneWaits_5 (x0 x1 x2 x3 : Int) (w : World) : Calls Try.prog 5 #[.bool true, .bool false, .bool true, .agg #[.int .u32 x0, .int .u32 x1, .int .u32 x2, .int .u32 x3]] w fun e w' => e = .returned (.bool true) ∧ Below w.heap.size w w' := by
  have hba := below_alloc w (.cells #[.int .u32 x0, .int .u32 x1, .int .u32 x2, .int .u32 x3] 29)
  have la : Rw w.heap.size #[.int .u32 x0, .int .u32 x1, .int .u32 x2, .int .u32 x3] 29 (w.alloc (.cells #[.int .u32 x0, .int .u32 x1, .int .u32 x2, .int .u32 x3] 29)) := rw_new w _ _
  have HB : Hid (Below w.heap.size w _ ∧ Rw w.heap.size #[.int .u32 x0, .int .u32 x1, .int .u32 x2, .int .u32 x3] 29 _) := ⟨hba, la⟩
  clear hba la
  have bd8 := bdM_down 8 5 2
  have bd9 := bdM_down 9 5 2
  have WA : Hid (W.Wa true) := W.wa true
  have hk : W.knd true = 2 := rfl
  go_enter Try.func5, Try.ntmps5
  go_wp2_with (fail)
  generalize World.alloc w _ = W1 at *
  refine (first19_any W1).mono ?_
  rintro e w1 ⟨rfl, hb1⟩
  have HB1 : Hid (Below w.heap.size w w1 ∧ Rw w.heap.size #[.int .u32 x0, .int .u32 x1, .int .u32 x2, .int .u32 x3] 29 w1) := ⟨HB.out.1.trans (hb1.mono HB.out.1.size), HB.out.2.below hb1⟩
  clear hb1 HB
  go_wp2_with (fail)
  refine (new_any 5 2 w1).mono ?_
  rintro e w2 ⟨rfl, hH, hb⟩
  have HH : Hid (Lq w1.heap.size w1.heap.size (W.lo0 5 2) w1 w2 ∧ Rw w.heap.size #[.int .u32 x0, .int .u32 x1, .int .u32 x2, .int .u32 x3] 29 w2 ∧ w.heap.size < w1.heap.size) := ⟨Lq.new 5 2 w1 w2 hH hb, HB1.out.2.below hb, HB1.out.2.lt⟩
  have HE : Hid (Below w.heap.size w w1) := HB1.out.1
  clear hH hb HB1
  have HN : Hid (∀ wz : World, Below w1.heap.size w1 wz → Below w.heap.size w wz) := fun wz h => HE.out.trans (h.mono HE.out.size)
  clear HE
  generalize w.heap.size = db at HH ⊢
  generalize w1.heap.size = b at HH HN ⊢
  -- it asks
  go_wp2_with (fail)
  refine (HH.out.1.ask true).mono ?_
  rintro e w3 ⟨sl, rfl, r⟩
  rw [WA.out.a] at r ⊢
  obtain ⟨g1, o1, c1, rfl, l1, n1, q1⟩ := r.one HH.out.1.h.lt
  have hz : w3.cell? ⟨g1, o1, none⟩ = some (.int .i64 2) := by rw [← hk]; exact q1 0 _ rfl
  have hz1 : w3.cell? ⟨g1, o1 + 1, none⟩ = some (.int .i64 5) := q1 1 _ rfl
  have hz2 : w3.cell? ⟨g1, o1 + 2, none⟩ = some (.int .i64 2) := q1 2 _ rfl
  have hz3 : w3.cell? ⟨g1, o1 + 3, none⟩ = some (.int .i64 (-1)) := q1 3 _ rfl
  have HA : Hid (Lq b b (W.sw true) w1 w3 ∧ Rw db #[.int .u32 x0, .int .u32 x1, .int .u32 x2, .int .u32 x3] 29 w3 ∧ db < b) := ⟨r.q, (r.k db HH.out.2.1.lt (by have := HH.out.2.2; omega)).trans HH.out.2.1, HH.out.2.2⟩
  clear r q1 l1 n1 HH
  unfold slV
  dsimp only
  go_wp2_with (fail)
  refine (waits_any HA.out.1.h).mono ?_
  rintro e w4 ⟨rfl, rfl⟩
  have hw : (W.sw true).wt = 2 := rfl
  rw [hw]
  go_wp2_with (fail)
  clear hz hz1 hz2 hz3 hw
  refine (HA.out.1.ask true).mono ?_
  rintro e w4 ⟨s4, rfl, r⟩
  rw [WA.out.t] at r ⊢
  have HA4 : Hid (Lq b b (W.sw true) w1 w4 ∧ Rw db #[.int .u32 x0, .int .u32 x1, .int .u32 x2, .int .u32 x3] 29 w4 ∧ db < b) := ⟨r.q, (r.k db HA.out.2.1.lt (by have := HA.out.2.2; omega)).trans HA.out.2.1, HA.out.2.2⟩
  clear r HA
  go_wp2_with (fail)
  refine (HA4.out.1.ask false).mono ?_
  rintro e w5 ⟨s5, rfl, r⟩
  rw [WA.out.f] at r ⊢
  have HA5 : Hid (Lq b b (W.sw true) w1 w5 ∧ Rw db #[.int .u32 x0, .int .u32 x1, .int .u32 x2, .int .u32 x3] 29 w5 ∧ db < b) := ⟨r.q, (r.k db HA4.out.2.1.lt (by have := HA4.out.2.2; omega)).trans HA4.out.2.1, HA4.out.2.2⟩
  clear r HA4
  go_wp2_with (fail)
  refine (HA5.out.1.evict).mono ?_
  rintro e w6 ⟨s6, rfl, r⟩
  rw [WA.out.e] at r ⊢
  have HA6 : Hid (Lq b b (W.sw true) w1 w6 ∧ Rw db #[.int .u32 x0, .int .u32 x1, .int .u32 x2, .int .u32 x3] 29 w6 ∧ db < b) := ⟨r.q, (r.k db HA5.out.2.1.lt (by have := HA5.out.2.2; omega)).trans HA5.out.2.1, HA5.out.2.2⟩
  clear r HA5
  go_wp2_with (fail)
  refine (can_any HA6.out.1.h false).mono ?_
  rintro e w7 ⟨rfl, rfl⟩
  rw [WA.out.cf]
  go_wp2_with (fail)
  refine (can_any HA6.out.1.h true).mono ?_
  rintro e w7 ⟨rfl, rfl⟩
  rw [WA.out.ct]
  have y0 := HA6.out.2.1.c 0 rfl
  have y1 := HA6.out.2.1.c 1 rfl
  have y2 := HA6.out.2.1.c 2 rfl
  have y3 := HA6.out.2.1.c 3 rfl
  go_wp2_with (fail)
  refine (HA6.out.1.set x0 x1 x2 x3).mono ?_
  rintro e w7 ⟨rfl, r1, r2, r3⟩
  rw [WA.out.s] at r1 ⊢
  have HA7 : Hid (Lq b b (W.sw true) w1 w7 ∧ Rw db #[.int .u32 x0, .int .u32 x1, .int .u32 x2, .int .u32 x3] 29 w7 ∧ db < b) := ⟨r1, (r2 db HA6.out.2.1.lt (by have := HA6.out.2.2; omega)).trans HA6.out.2.1, HA6.out.2.2⟩
  clear r1 r2 r3 HA6 y0 y1 y2 y3
  go_wp2_with (fail)
  refine (takes_any HA7.out.1.h (W.down 8 5 2)).mono ?_
  rintro e w8 ⟨rfl, hb8⟩
  rw [WA.out.g]
  have HA8 : Hid (Lq b b (W.sw true) w1 w8 ∧ Rw db #[.int .u32 x0, .int .u32 x1, .int .u32 x2, .int .u32 x3] 29 w8 ∧ db < b) := ⟨HA7.out.1.below hb8, HA7.out.2.1.below hb8, HA7.out.2.2⟩
  clear hb8 HA7
  go_wp2_with (fail)
  refine (takes_any HA8.out.1.h (W.down 9 5 2)).mono ?_
  rintro e w9 ⟨rfl, hb9⟩
  rw [WA.out.p]
  have HA9 : Hid (Lq b b (W.sw true) w1 w9 ∧ Rw db #[.int .u32 x0, .int .u32 x1, .int .u32 x2, .int .u32 x3] 29 w9 ∧ db < b) := ⟨HA8.out.1.below hb9, HA8.out.2.1.below hb9, HA8.out.2.2⟩
  clear hb9 HA8 bd8 bd9
  have y0 := HA9.out.2.1.c 0 rfl
  have y1 := HA9.out.2.1.c 1 rfl
  have y2 := HA9.out.2.1.c 2 rfl
  have y3 := HA9.out.2.1.c 3 rfl
  have bdw := bdM_w x0 x1 x2 x3 false true
  go_wp2_with (fail)
  refine (HA9.out.1.take ⟨7, 5, -1, 2, x0, x1, x2, x3, true, false, true⟩).mono ?_
  rintro e w10 ⟨s10, rfl, r⟩
  rw [WA.out.d] at r ⊢
  have hwn : W.wnt true false true = 2 := rfl
  rw [hwn] at r
  have HX : Hid (Lq b b ⟨5, 2, 0, 2, x0, x1, x2, x3⟩ w1 w10 ∧ Rw db #[.int .u32 x0, .int .u32 x1, .int .u32 x2, .int .u32 x3] 29 w10 ∧ db < b) := ⟨r.q, (r.k db HA9.out.2.1.lt (by have := HA9.out.2.2; omega)).trans HA9.out.2.1, HA9.out.2.2⟩
  clear r HA9 y0 y1 y2 y3 bdw WA hwn hk
  go_wp2_with (fail)
  refine (data_any HX.out.1.h).mono ?_
  rintro e w11 ⟨rfl, hb11⟩
  have hst : W.Lo.st ⟨5, 2, 0, 2, x0, x1, x2, x3⟩ = 2 := rfl
  rw [hst, if_neg (by decide)]
  have HY : Hid (Lq b b ⟨5, 2, 0, 2, x0, x1, x2, x3⟩ w1 w11 ∧ Rw db #[.int .u32 x0, .int .u32 x1, .int .u32 x2, .int .u32 x3] 29 w11 ∧ db < b) := ⟨HX.out.1.below hb11, HX.out.2.1.below hb11, HX.out.2.2⟩
  clear hb11 HX
  have hb12 := below_alloc w11 (.cells #[.int .u32 x0, .int .u32 x1, .int .u32 x2, .int .u32 x3] 29)
  have y0 := HY.out.2.1.c 0 rfl
  have y1 := HY.out.2.1.c 1 rfl
  have y2 := HY.out.2.1.c 2 rfl
  have y3 := HY.out.2.1.c 3 rfl
  have HZ : Hid (Lq b b ⟨5, 2, 0, 2, x0, x1, x2, x3⟩ w1 (w11.alloc (.cells #[.int .u32 x0, .int .u32 x1, .int .u32 x2, .int .u32 x3] 29))) := HY.out.1.below hb12
  have hdl : db < w11.heap.size := HY.out.2.1.lt
  have heq := eqLn x0 x1 x2 x3
  clear hb12 HY
  unfold lineV
  go_wp2_with (fail)
  refine (state_any HZ.out.h).mono ?_
  rintro e w12 ⟨rfl, rfl⟩
  rw [hst]
  go_wp2_with (fail)
  refine (can_any HZ.out.h false).mono ?_
  rintro e w12 ⟨rfl, rfl⟩
  have hcf : W.Lo.can ⟨5, 2, 0, 2, x0, x1, x2, x3⟩ false = true := rfl
  rw [hcf]
  go_wp2_with (fail)
  refine (can_any HZ.out.h true).mono ?_
  rintro e w12 ⟨rfl, rfl⟩
  have hct : W.Lo.can ⟨5, 2, 0, 2, x0, x1, x2, x3⟩ true = true := rfl
  rw [hct]
  go_wp2_with (fail)
  refine (waits_any HZ.out.h).mono ?_
  rintro e w12 ⟨rfl, rfl⟩
  go_wp2_with (fail)
  go_ret
  exact ⟨rfl, HN.out _ HZ.out.b⟩

set_option maxRecDepth 10000 in
set_option maxHeartbeats 3200000 in
theorem loneWaits_6 (x0 x1 x2 x3 : Int) (w : World) : Calls Try.prog 5 #[.bool false, .bool true, .bool true, .agg #[.int .u32 x0, .int .u32 x1, .int .u32 x2, .int .u32 x3]] w fun e w' => e = .returned (.bool true) ∧ Below w.heap.size w w' := by
  have hba := below_alloc w (.cells #[.int .u32 x0, .int .u32 x1, .int .u32 x2, .int .u32 x3] 29)
  have la : Rw w.heap.size #[.int .u32 x0, .int .u32 x1, .int .u32 x2, .int .u32 x3] 29 (w.alloc (.cells #[.int .u32 x0, .int .u32 x1, .int .u32 x2, .int .u32 x3] 29)) := rw_new w _ _
  have HB : Hid (Below w.heap.size w _ ∧ Rw w.heap.size #[.int .u32 x0, .int .u32 x1, .int .u32 x2, .int .u32 x3] 29 _) := ⟨hba, la⟩
  clear hba la
  have bd8 := bdM_down 8 5 2
  have bd9 := bdM_down 9 5 2
  have WA : Hid (W.Wa false) := W.wa false
  have hk : W.knd false = 1 := rfl
  go_enter Try.func5, Try.ntmps5
  go_wp2_with (fail)
  generalize World.alloc w _ = W1 at *
  refine (first19_any W1).mono ?_
  rintro e w1 ⟨rfl, hb1⟩
  have HB1 : Hid (Below w.heap.size w w1 ∧ Rw w.heap.size #[.int .u32 x0, .int .u32 x1, .int .u32 x2, .int .u32 x3] 29 w1) := ⟨HB.out.1.trans (hb1.mono HB.out.1.size), HB.out.2.below hb1⟩
  clear hb1 HB
  go_wp2_with (fail)
  refine (new_any 5 2 w1).mono ?_
  rintro e w2 ⟨rfl, hH, hb⟩
  have HH : Hid (Lq w1.heap.size w1.heap.size (W.lo0 5 2) w1 w2 ∧ Rw w.heap.size #[.int .u32 x0, .int .u32 x1, .int .u32 x2, .int .u32 x3] 29 w2 ∧ w.heap.size < w1.heap.size) := ⟨Lq.new 5 2 w1 w2 hH hb, HB1.out.2.below hb, HB1.out.2.lt⟩
  have HE : Hid (Below w.heap.size w w1) := HB1.out.1
  clear hH hb HB1
  have HN : Hid (∀ wz : World, Below w1.heap.size w1 wz → Below w.heap.size w wz) := fun wz h => HE.out.trans (h.mono HE.out.size)
  clear HE
  generalize w.heap.size = db at HH ⊢
  generalize w1.heap.size = b at HH HN ⊢
  -- it asks
  go_wp2_with (fail)
  refine (HH.out.1.ask false).mono ?_
  rintro e w3 ⟨sl, rfl, r⟩
  rw [WA.out.a] at r ⊢
  obtain ⟨g1, o1, c1, rfl, l1, n1, q1⟩ := r.one HH.out.1.h.lt
  have hz : w3.cell? ⟨g1, o1, none⟩ = some (.int .i64 1) := by rw [← hk]; exact q1 0 _ rfl
  have hz1 : w3.cell? ⟨g1, o1 + 1, none⟩ = some (.int .i64 5) := q1 1 _ rfl
  have hz2 : w3.cell? ⟨g1, o1 + 2, none⟩ = some (.int .i64 2) := q1 2 _ rfl
  have hz3 : w3.cell? ⟨g1, o1 + 3, none⟩ = some (.int .i64 (-1)) := q1 3 _ rfl
  have HA : Hid (Lq b b (W.sw false) w1 w3 ∧ Rw db #[.int .u32 x0, .int .u32 x1, .int .u32 x2, .int .u32 x3] 29 w3 ∧ db < b) := ⟨r.q, (r.k db HH.out.2.1.lt (by have := HH.out.2.2; omega)).trans HH.out.2.1, HH.out.2.2⟩
  clear r q1 l1 n1 HH
  unfold slV
  dsimp only
  go_wp2_with (fail)
  refine (waits_any HA.out.1.h).mono ?_
  rintro e w4 ⟨rfl, rfl⟩
  have hw : (W.sw false).wt = 1 := rfl
  rw [hw]
  go_wp2_with (fail)
  clear hz hz1 hz2 hz3 hw
  refine (HA.out.1.ask true).mono ?_
  rintro e w4 ⟨s4, rfl, r⟩
  rw [WA.out.t] at r ⊢
  have HA4 : Hid (Lq b b (W.sw false) w1 w4 ∧ Rw db #[.int .u32 x0, .int .u32 x1, .int .u32 x2, .int .u32 x3] 29 w4 ∧ db < b) := ⟨r.q, (r.k db HA.out.2.1.lt (by have := HA.out.2.2; omega)).trans HA.out.2.1, HA.out.2.2⟩
  clear r HA
  go_wp2_with (fail)
  refine (HA4.out.1.ask false).mono ?_
  rintro e w5 ⟨s5, rfl, r⟩
  rw [WA.out.f] at r ⊢
  have HA5 : Hid (Lq b b (W.sw false) w1 w5 ∧ Rw db #[.int .u32 x0, .int .u32 x1, .int .u32 x2, .int .u32 x3] 29 w5 ∧ db < b) := ⟨r.q, (r.k db HA4.out.2.1.lt (by have := HA4.out.2.2; omega)).trans HA4.out.2.1, HA4.out.2.2⟩
  clear r HA4
  go_wp2_with (fail)
  refine (HA5.out.1.evict).mono ?_
  rintro e w6 ⟨s6, rfl, r⟩
  rw [WA.out.e] at r ⊢
  have HA6 : Hid (Lq b b (W.sw false) w1 w6 ∧ Rw db #[.int .u32 x0, .int .u32 x1, .int .u32 x2, .int .u32 x3] 29 w6 ∧ db < b) := ⟨r.q, (r.k db HA5.out.2.1.lt (by have := HA5.out.2.2; omega)).trans HA5.out.2.1, HA5.out.2.2⟩
  clear r HA5
  go_wp2_with (fail)
  refine (can_any HA6.out.1.h false).mono ?_
  rintro e w7 ⟨rfl, rfl⟩
  rw [WA.out.cf]
  go_wp2_with (fail)
  refine (can_any HA6.out.1.h true).mono ?_
  rintro e w7 ⟨rfl, rfl⟩
  rw [WA.out.ct]
  have y0 := HA6.out.2.1.c 0 rfl
  have y1 := HA6.out.2.1.c 1 rfl
  have y2 := HA6.out.2.1.c 2 rfl
  have y3 := HA6.out.2.1.c 3 rfl
  go_wp2_with (fail)
  refine (HA6.out.1.set x0 x1 x2 x3).mono ?_
  rintro e w7 ⟨rfl, r1, r2, r3⟩
  rw [WA.out.s] at r1 ⊢
  have HA7 : Hid (Lq b b (W.sw false) w1 w7 ∧ Rw db #[.int .u32 x0, .int .u32 x1, .int .u32 x2, .int .u32 x3] 29 w7 ∧ db < b) := ⟨r1, (r2 db HA6.out.2.1.lt (by have := HA6.out.2.2; omega)).trans HA6.out.2.1, HA6.out.2.2⟩
  clear r1 r2 r3 HA6 y0 y1 y2 y3
  go_wp2_with (fail)
  refine (takes_any HA7.out.1.h (W.down 8 5 2)).mono ?_
  rintro e w8 ⟨rfl, hb8⟩
  rw [WA.out.g]
  have HA8 : Hid (Lq b b (W.sw false) w1 w8 ∧ Rw db #[.int .u32 x0, .int .u32 x1, .int .u32 x2, .int .u32 x3] 29 w8 ∧ db < b) := ⟨HA7.out.1.below hb8, HA7.out.2.1.below hb8, HA7.out.2.2⟩
  clear hb8 HA7
  go_wp2_with (fail)
  refine (takes_any HA8.out.1.h (W.down 9 5 2)).mono ?_
  rintro e w9 ⟨rfl, hb9⟩
  rw [WA.out.p]
  have HA9 : Hid (Lq b b (W.sw false) w1 w9 ∧ Rw db #[.int .u32 x0, .int .u32 x1, .int .u32 x2, .int .u32 x3] 29 w9 ∧ db < b) := ⟨HA8.out.1.below hb9, HA8.out.2.1.below hb9, HA8.out.2.2⟩
  clear hb9 HA8 bd8 bd9
  have y0 := HA9.out.2.1.c 0 rfl
  have y1 := HA9.out.2.1.c 1 rfl
  have y2 := HA9.out.2.1.c 2 rfl
  have y3 := HA9.out.2.1.c 3 rfl
  have bdw := bdM_w x0 x1 x2 x3 true true
  go_wp2_with (fail)
  refine (HA9.out.1.take ⟨7, 5, -1, 2, x0, x1, x2, x3, true, true, true⟩).mono ?_
  rintro e w10 ⟨s10, rfl, r⟩
  rw [WA.out.d] at r ⊢
  have hwn : W.wnt false true true = 2 := rfl
  rw [hwn] at r
  have HX : Hid (Lq b b ⟨5, 2, 0, 2, x0, x1, x2, x3⟩ w1 w10 ∧ Rw db #[.int .u32 x0, .int .u32 x1, .int .u32 x2, .int .u32 x3] 29 w10 ∧ db < b) := ⟨r.q, (r.k db HA9.out.2.1.lt (by have := HA9.out.2.2; omega)).trans HA9.out.2.1, HA9.out.2.2⟩
  clear r HA9 y0 y1 y2 y3 bdw WA hwn hk
  go_wp2_with (fail)
  refine (data_any HX.out.1.h).mono ?_
  rintro e w11 ⟨rfl, hb11⟩
  have hst : W.Lo.st ⟨5, 2, 0, 2, x0, x1, x2, x3⟩ = 2 := rfl
  rw [hst, if_neg (by decide)]
  have HY : Hid (Lq b b ⟨5, 2, 0, 2, x0, x1, x2, x3⟩ w1 w11 ∧ Rw db #[.int .u32 x0, .int .u32 x1, .int .u32 x2, .int .u32 x3] 29 w11 ∧ db < b) := ⟨HX.out.1.below hb11, HX.out.2.1.below hb11, HX.out.2.2⟩
  clear hb11 HX
  have hb12 := below_alloc w11 (.cells #[.int .u32 x0, .int .u32 x1, .int .u32 x2, .int .u32 x3] 29)
  have y0 := HY.out.2.1.c 0 rfl
  have y1 := HY.out.2.1.c 1 rfl
  have y2 := HY.out.2.1.c 2 rfl
  have y3 := HY.out.2.1.c 3 rfl
  have HZ : Hid (Lq b b ⟨5, 2, 0, 2, x0, x1, x2, x3⟩ w1 (w11.alloc (.cells #[.int .u32 x0, .int .u32 x1, .int .u32 x2, .int .u32 x3] 29))) := HY.out.1.below hb12
  have hdl : db < w11.heap.size := HY.out.2.1.lt
  have heq := eqLn x0 x1 x2 x3
  clear hb12 HY
  unfold lineV
  go_wp2_with (fail)
  refine (state_any HZ.out.h).mono ?_
  rintro e w12 ⟨rfl, rfl⟩
  rw [hst]
  go_wp2_with (fail)
  refine (can_any HZ.out.h false).mono ?_
  rintro e w12 ⟨rfl, rfl⟩
  have hcf : W.Lo.can ⟨5, 2, 0, 2, x0, x1, x2, x3⟩ false = true := rfl
  rw [hcf]
  go_wp2_with (fail)
  refine (can_any HZ.out.h true).mono ?_
  rintro e w12 ⟨rfl, rfl⟩
  have hct : W.Lo.can ⟨5, 2, 0, 2, x0, x1, x2, x3⟩ true = true := rfl
  rw [hct]
  go_wp2_with (fail)
  refine (waits_any HZ.out.h).mono ?_
  rintro e w12 ⟨rfl, rfl⟩
  go_wp2_with (fail)
  go_ret
  exact ⟨rfl, HN.out _ HZ.out.b⟩

set_option maxRecDepth 10000 in
set_option maxHeartbeats 3200000 in
theorem loneWaits_7 (x0 x1 x2 x3 : Int) (w : World) : Calls Try.prog 5 #[.bool true, .bool true, .bool true, .agg #[.int .u32 x0, .int .u32 x1, .int .u32 x2, .int .u32 x3]] w fun e w' => e = .returned (.bool true) ∧ Below w.heap.size w w' := by
  have hba := below_alloc w (.cells #[.int .u32 x0, .int .u32 x1, .int .u32 x2, .int .u32 x3] 29)
  have la : Rw w.heap.size #[.int .u32 x0, .int .u32 x1, .int .u32 x2, .int .u32 x3] 29 (w.alloc (.cells #[.int .u32 x0, .int .u32 x1, .int .u32 x2, .int .u32 x3] 29)) := rw_new w _ _
  have HB : Hid (Below w.heap.size w _ ∧ Rw w.heap.size #[.int .u32 x0, .int .u32 x1, .int .u32 x2, .int .u32 x3] 29 _) := ⟨hba, la⟩
  clear hba la
  have bd8 := bdM_down 8 5 2
  have bd9 := bdM_down 9 5 2
  have WA : Hid (W.Wa true) := W.wa true
  have hk : W.knd true = 2 := rfl
  go_enter Try.func5, Try.ntmps5
  go_wp2_with (fail)
  generalize World.alloc w _ = W1 at *
  refine (first19_any W1).mono ?_
  rintro e w1 ⟨rfl, hb1⟩
  have HB1 : Hid (Below w.heap.size w w1 ∧ Rw w.heap.size #[.int .u32 x0, .int .u32 x1, .int .u32 x2, .int .u32 x3] 29 w1) := ⟨HB.out.1.trans (hb1.mono HB.out.1.size), HB.out.2.below hb1⟩
  clear hb1 HB
  go_wp2_with (fail)
  refine (new_any 5 2 w1).mono ?_
  rintro e w2 ⟨rfl, hH, hb⟩
  have HH : Hid (Lq w1.heap.size w1.heap.size (W.lo0 5 2) w1 w2 ∧ Rw w.heap.size #[.int .u32 x0, .int .u32 x1, .int .u32 x2, .int .u32 x3] 29 w2 ∧ w.heap.size < w1.heap.size) := ⟨Lq.new 5 2 w1 w2 hH hb, HB1.out.2.below hb, HB1.out.2.lt⟩
  have HE : Hid (Below w.heap.size w w1) := HB1.out.1
  clear hH hb HB1
  have HN : Hid (∀ wz : World, Below w1.heap.size w1 wz → Below w.heap.size w wz) := fun wz h => HE.out.trans (h.mono HE.out.size)
  clear HE
  generalize w.heap.size = db at HH ⊢
  generalize w1.heap.size = b at HH HN ⊢
  -- it asks
  go_wp2_with (fail)
  refine (HH.out.1.ask true).mono ?_
  rintro e w3 ⟨sl, rfl, r⟩
  rw [WA.out.a] at r ⊢
  obtain ⟨g1, o1, c1, rfl, l1, n1, q1⟩ := r.one HH.out.1.h.lt
  have hz : w3.cell? ⟨g1, o1, none⟩ = some (.int .i64 2) := by rw [← hk]; exact q1 0 _ rfl
  have hz1 : w3.cell? ⟨g1, o1 + 1, none⟩ = some (.int .i64 5) := q1 1 _ rfl
  have hz2 : w3.cell? ⟨g1, o1 + 2, none⟩ = some (.int .i64 2) := q1 2 _ rfl
  have hz3 : w3.cell? ⟨g1, o1 + 3, none⟩ = some (.int .i64 (-1)) := q1 3 _ rfl
  have HA : Hid (Lq b b (W.sw true) w1 w3 ∧ Rw db #[.int .u32 x0, .int .u32 x1, .int .u32 x2, .int .u32 x3] 29 w3 ∧ db < b) := ⟨r.q, (r.k db HH.out.2.1.lt (by have := HH.out.2.2; omega)).trans HH.out.2.1, HH.out.2.2⟩
  clear r q1 l1 n1 HH
  unfold slV
  dsimp only
  go_wp2_with (fail)
  refine (waits_any HA.out.1.h).mono ?_
  rintro e w4 ⟨rfl, rfl⟩
  have hw : (W.sw true).wt = 2 := rfl
  rw [hw]
  go_wp2_with (fail)
  clear hz hz1 hz2 hz3 hw
  refine (HA.out.1.ask true).mono ?_
  rintro e w4 ⟨s4, rfl, r⟩
  rw [WA.out.t] at r ⊢
  have HA4 : Hid (Lq b b (W.sw true) w1 w4 ∧ Rw db #[.int .u32 x0, .int .u32 x1, .int .u32 x2, .int .u32 x3] 29 w4 ∧ db < b) := ⟨r.q, (r.k db HA.out.2.1.lt (by have := HA.out.2.2; omega)).trans HA.out.2.1, HA.out.2.2⟩
  clear r HA
  go_wp2_with (fail)
  refine (HA4.out.1.ask false).mono ?_
  rintro e w5 ⟨s5, rfl, r⟩
  rw [WA.out.f] at r ⊢
  have HA5 : Hid (Lq b b (W.sw true) w1 w5 ∧ Rw db #[.int .u32 x0, .int .u32 x1, .int .u32 x2, .int .u32 x3] 29 w5 ∧ db < b) := ⟨r.q, (r.k db HA4.out.2.1.lt (by have := HA4.out.2.2; omega)).trans HA4.out.2.1, HA4.out.2.2⟩
  clear r HA4
  go_wp2_with (fail)
  refine (HA5.out.1.evict).mono ?_
  rintro e w6 ⟨s6, rfl, r⟩
  rw [WA.out.e] at r ⊢
  have HA6 : Hid (Lq b b (W.sw true) w1 w6 ∧ Rw db #[.int .u32 x0, .int .u32 x1, .int .u32 x2, .int .u32 x3] 29 w6 ∧ db < b) := ⟨r.q, (r.k db HA5.out.2.1.lt (by have := HA5.out.2.2; omega)).trans HA5.out.2.1, HA5.out.2.2⟩
  clear r HA5
  go_wp2_with (fail)
  refine (can_any HA6.out.1.h false).mono ?_
  rintro e w7 ⟨rfl, rfl⟩
  rw [WA.out.cf]
  go_wp2_with (fail)
  refine (can_any HA6.out.1.h true).mono ?_
  rintro e w7 ⟨rfl, rfl⟩
  rw [WA.out.ct]
  have y0 := HA6.out.2.1.c 0 rfl
  have y1 := HA6.out.2.1.c 1 rfl
  have y2 := HA6.out.2.1.c 2 rfl
  have y3 := HA6.out.2.1.c 3 rfl
  go_wp2_with (fail)
  refine (HA6.out.1.set x0 x1 x2 x3).mono ?_
  rintro e w7 ⟨rfl, r1, r2, r3⟩
  rw [WA.out.s] at r1 ⊢
  have HA7 : Hid (Lq b b (W.sw true) w1 w7 ∧ Rw db #[.int .u32 x0, .int .u32 x1, .int .u32 x2, .int .u32 x3] 29 w7 ∧ db < b) := ⟨r1, (r2 db HA6.out.2.1.lt (by have := HA6.out.2.2; omega)).trans HA6.out.2.1, HA6.out.2.2⟩
  clear r1 r2 r3 HA6 y0 y1 y2 y3
  go_wp2_with (fail)
  refine (takes_any HA7.out.1.h (W.down 8 5 2)).mono ?_
  rintro e w8 ⟨rfl, hb8⟩
  rw [WA.out.g]
  have HA8 : Hid (Lq b b (W.sw true) w1 w8 ∧ Rw db #[.int .u32 x0, .int .u32 x1, .int .u32 x2, .int .u32 x3] 29 w8 ∧ db < b) := ⟨HA7.out.1.below hb8, HA7.out.2.1.below hb8, HA7.out.2.2⟩
  clear hb8 HA7
  go_wp2_with (fail)
  refine (takes_any HA8.out.1.h (W.down 9 5 2)).mono ?_
  rintro e w9 ⟨rfl, hb9⟩
  rw [WA.out.p]
  have HA9 : Hid (Lq b b (W.sw true) w1 w9 ∧ Rw db #[.int .u32 x0, .int .u32 x1, .int .u32 x2, .int .u32 x3] 29 w9 ∧ db < b) := ⟨HA8.out.1.below hb9, HA8.out.2.1.below hb9, HA8.out.2.2⟩
  clear hb9 HA8 bd8 bd9
  have y0 := HA9.out.2.1.c 0 rfl
  have y1 := HA9.out.2.1.c 1 rfl
  have y2 := HA9.out.2.1.c 2 rfl
  have y3 := HA9.out.2.1.c 3 rfl
  have bdw := bdM_w x0 x1 x2 x3 true true
  go_wp2_with (fail)
  refine (HA9.out.1.take ⟨7, 5, -1, 2, x0, x1, x2, x3, true, true, true⟩).mono ?_
  rintro e w10 ⟨s10, rfl, r⟩
  rw [WA.out.d] at r ⊢
  have hwn : W.wnt true true true = 4 := rfl
  rw [hwn] at r
  have HX : Hid (Lq b b ⟨5, 2, 0, 4, x0, x1, x2, x3⟩ w1 w10 ∧ Rw db #[.int .u32 x0, .int .u32 x1, .int .u32 x2, .int .u32 x3] 29 w10 ∧ db < b) := ⟨r.q, (r.k db HA9.out.2.1.lt (by have := HA9.out.2.2; omega)).trans HA9.out.2.1, HA9.out.2.2⟩
  clear r HA9 y0 y1 y2 y3 bdw WA hwn hk
  go_wp2_with (fail)
  refine (data_any HX.out.1.h).mono ?_
  rintro e w11 ⟨rfl, hb11⟩
  have hst : W.Lo.st ⟨5, 2, 0, 4, x0, x1, x2, x3⟩ = 4 := rfl
  rw [hst, if_neg (by decide)]
  have HY : Hid (Lq b b ⟨5, 2, 0, 4, x0, x1, x2, x3⟩ w1 w11 ∧ Rw db #[.int .u32 x0, .int .u32 x1, .int .u32 x2, .int .u32 x3] 29 w11 ∧ db < b) := ⟨HX.out.1.below hb11, HX.out.2.1.below hb11, HX.out.2.2⟩
  clear hb11 HX
  have hb12 := below_alloc w11 (.cells #[.int .u32 x0, .int .u32 x1, .int .u32 x2, .int .u32 x3] 29)
  have y0 := HY.out.2.1.c 0 rfl
  have y1 := HY.out.2.1.c 1 rfl
  have y2 := HY.out.2.1.c 2 rfl
  have y3 := HY.out.2.1.c 3 rfl
  have HZ : Hid (Lq b b ⟨5, 2, 0, 4, x0, x1, x2, x3⟩ w1 (w11.alloc (.cells #[.int .u32 x0, .int .u32 x1, .int .u32 x2, .int .u32 x3] 29))) := HY.out.1.below hb12
  have hdl : db < w11.heap.size := HY.out.2.1.lt
  have heq := eqLn x0 x1 x2 x3
  clear hb12 HY
  unfold lineV
  go_wp2_with (fail)
  refine (state_any HZ.out.h).mono ?_
  rintro e w12 ⟨rfl, rfl⟩
  rw [hst]
  go_wp2_with (fail)
  refine (can_any HZ.out.h false).mono ?_
  rintro e w12 ⟨rfl, rfl⟩
  have hcf : W.Lo.can ⟨5, 2, 0, 4, x0, x1, x2, x3⟩ false = true := rfl
  rw [hcf]
  go_wp2_with (fail)
  refine (can_any HZ.out.h true).mono ?_
  rintro e w12 ⟨rfl, rfl⟩
  have hct : W.Lo.can ⟨5, 2, 0, 4, x0, x1, x2, x3⟩ true = true := rfl
  rw [hct]
  go_wp2_with (fail)
  refine (waits_any HZ.out.h).mono ?_
  rintro e w12 ⟨rfl, rfl⟩
  go_wp2_with (fail)
  go_ret
  exact ⟨rfl, HN.out _ HZ.out.b⟩

theorem loneWaits_any (wr di al : Bool) (x0 x1 x2 x3 : Int) (w : World) : Calls Try.prog 5 #[.bool wr, .bool di, .bool al, .agg #[.int .u32 x0, .int .u32 x1, .int .u32 x2, .int .u32 x3]] w fun e w' => e = .returned (.bool true) ∧ Below w.heap.size w w' := by
  cases wr <;> cases di <;> cases al
  · exact loneWaits_0 x0 x1 x2 x3 w
  · exact loneWaits_4 x0 x1 x2 x3 w
  · exact loneWaits_2 x0 x1 x2 x3 w
  · exact loneWaits_6 x0 x1 x2 x3 w
  · exact loneWaits_1 x0 x1 x2 x3 w
  · exact loneWaits_5 x0 x1 x2 x3 w
  · exact loneWaits_3 x0 x1 x2 x3 w
  · exact loneWaits_7 x0 x1 x2 x3 w
end Go.Proofs.Ytogchippkenppaa
