/- Texts in one: HartL4, See10, Laid10, IsaF, IsaG, IsaI. -/
import Derived.LaidEql
import Derived.Test.YteilpehekabccabGreatDoorRows
import Derived.LaidLaws
import Derived.LaidMore
import Derived.Stop.Joined
import Derived.Stop.ErrReads
import Derived.RowKitTokens
import Derived.Deep.RegionHeld3
import Derived.Deep.DrawnRows
import Derived.Test.YteilpehekabccabGreatDoorJ08
import Derived.Test.YteilpehekabccabGreatDoorJ09
import Derived.Test.YteilpehekabccabGreatDoorJ33
/- The chapter's examples: the laws' first. -/
namespace Go.Proofs.YteilpehekabccabGreatDoor
open Go.ChangeShapes Go.WideShapes Go.ChangeAt Go.RowKit
set_option linter.unusedVariables false
set_option linter.unusedSimpArgs false

theorem dec_first : W.decB 5243027 = true ∧ W.decI 5243027 = ⟨19, 1, 0, 0, 0, 5, false, false⟩ ∧ W.decB 0 = false := ⟨by decide +kernel, by kernel_rfl, by decide +kernel⟩
def W.H1 : W.Ht := { W.hput (W.H0 0 64) 1 5 with pc := 4 }
theorem H1_ok : W.HOk W.H1 := W.hput_ok (H0_ok 0 64) 1 5 4 ⟨by decide, by decide⟩ ⟨by decide, by decide⟩
def W.ev1 : W.Ev := ⟨1, 0, 5243027, 0, 0, 0, W.Sl.nil, W.Sl.nil, 0, 0, false, 1, 2⟩
def W.ev2 : W.Ev := ⟨2, 4, 0, 4, 0, 0, W.Sl.nil, W.Sl.nil, 2, 0, false, 3, 4⟩
def W.H2 : W.Ht := { W.H1 with G := W.trap W.H1.G 2 0 4, pc := 0 }
theorem rrun_1 (B U A V : Nat → Int) : W.rrun (W.H0 0 64) W.ev1 0 B U 0 A V = ⟨W.H1, W.ev1, { W.wd0 (W.H0 0 64) W.ev1 with k := 1 }, W.Ef.no⟩ := by
  rw [W.rrun_dec (W.H0 0 64) W.ev1 rfl rfl (by decide) rfl dec_first.1 B U 0 A V]
  show W.sdo _ (W.decI 5243027) 0 A V = _
  rw [dec_first.2.1]
  exact W.sdo_reck (W.H0 0 64) W.ev1 _ 0 A V (by decide +kernel) 4 5 (by decide +kernel) (by decide +kernel) (by decide)
theorem rrun_2 (B U A V : Nat → Int) : W.rrun W.H1 W.ev2 0 B U 0 A V = ⟨W.H2, W.ev2, { W.wd0 W.H1 W.ev2 with k := 2, ca := 2, tv := 0 }, W.Ef.no⟩ := by
  rw [W.rrun_ill W.H1 W.ev2 rfl rfl (by decide) rfl dec_first.2.2 B U 0 A V]
  rfl
theorem below_over {n d : Nat} {x y z : World} (h : Below n x y) (k : y.grownBy z (some d)) (hd : n ≤ d) (hn : n ≤ y.heap.size) : Below n x z := Below.grown h k hn (fun j hj => by cases hj; exact hd)

/-- The error of a step that is none lies where the text laid it. -/
def Tr (E : Addr) (w : World) : Prop := w.cell? ⟨0, 0, none⟩ = some (.iface 172 (.pointer (some E)))
theorem Tr.lt {E : Addr} {w : World} (h : Tr E w) : 0 < w.heap.size := World.block_lt_of_cell? _ _ h
theorem Tr.below {E : Addr} {w w' : World} (h : Tr E w) (hb : Below w.heap.size w w') : Tr E w' := (hb.cell (p := ⟨0, 0, none⟩) h.lt).trans h
theorem Tr.over {E : Addr} {b : Nat} {w w' : World} (h : Tr E w) (hg : w.grownBy w' (some b)) (hb : 0 < b) : Tr E w' := hg.cell h (by simp; omega)

/-- A hart of a law's own lies in block c, behind all that was there. -/
structure Hb (E : Addr) (c : Nat) (H : W.Ht) (n : Nat) (w0 w : World) : Prop where
  k : HAt c H w
  t : Tr E w
  b : Below n w0 w
  s : n ≤ w.heap.size
  hc : n ≤ c
  n0 : 0 < n
theorem Hb.below {E : Addr} {c n : Nat} {H : W.Ht} {w0 w w' : World} (h : Hb E c H n w0 w) (hb : Below w.heap.size w w') : Hb E c H n w0 w' := ⟨h.k.below hb, h.t.below hb, h.b.trans (hb.mono h.s), Nat.le_trans h.s hb.size, h.hc, h.n0⟩
theorem Hb.alloc {E : Addr} {c n : Nat} {H : W.Ht} {w0 w : World} (h : Hb E c H n w0 w) (o : Obj) : Hb E c H n w0 (w.alloc o) := h.below ((Below.refl _ _).alloc (Nat.le_refl _) _)
theorem Hb.drew {E : Addr} {c n : Nat} {H : W.Ht} {w0 w : World} (h : Hb E c H n w0 w) : Hb E c H n w0 w.drew := h.below (Below.refl w.heap.size w).drew
theorem Hb.step {E : Addr} {c n : Nat} {H K : W.Ht} {w0 w w' : World} (h : Hb E c H n w0 w) (k : HAt c K w') (hg : w.grownBy w' (some c)) : Hb E c K n w0 w' :=
  ⟨k, h.t.over hg (by have := h.hc; have := h.n0; omega), below_over h.b hg h.hc h.s, Nat.le_trans h.s hg.size, h.hc, h.n0⟩
theorem Hb.new {E : Addr} {c : Nat} {H : W.Ht} {w w' : World} (hE : Tr E w) (hc : w.heap.size ≤ c) (k : HAt c H w') (hb : Below w.heap.size w w') : Hb E c H w.heap.size w w' := ⟨k, hE.below hb, hb, hb.size, hc, hE.lt⟩

theorem first10_any (E : Addr) (w : World) (hE : Tr E w) : Calls Tryz.prog 4 #[] w fun z w' => z = .returned (.bool true) ∧ Below w.heap.size w w' := by
  have hr1 := fun c w1 (k : HAt c (W.H0 0 64) w1) (k2 : Tr E w1) => replay_y c (W.H0 0 64) W.H1 W.ev1 W.Ef.no E (H0_ok 0 64) ⟨by decide, by decide⟩ rfl rfl _ rrun_1 rfl rfl (by decide) w1 k k2
  have hr2 := fun c w1 (k : HAt c W.H1 w1) (k2 : Tr E w1) => replay_y c W.H1 W.H2 W.ev2 W.Ef.no E H1_ok ⟨by decide, by decide⟩ rfl rfl _ rrun_2 rfl rfl (by decide) w1 k k2
  have hx1 := fun c w1 (k : HAt c W.H1 w1) => x_g c W.H1 1 5 (by decide +kernel) w1 k.xh
  have hx0 := fun c w1 (k : HAt c W.H2 w1) => x_g c W.H2 0 0 (by decide +kernel) w1 k.xh
  have hpc : ∀ c w1, HAt c W.H2 w1 → Calls Tryz.prog 10 #[.pointer (some ⟨c, 0, none⟩)] w1 fun z w' => z = .returned (.int .u32 0) ∧ w1 = w' := fun c w1 k => pc_any c W.H2 w1 k
  have hN := hnew_any 0 64
  simp only [evCells, efCells, W.ev1, W.ev2, W.Ef.no, W.Sl.nil] at hr1 hr2
  generalize W.H0 0 64 = h0 at *
  generalize W.H1 = h1 at *
  generalize W.H2 = h2 at *
  have HH : Hid (_ ∧ _ ∧ _ ∧ _ ∧ _ ∧ _) := ⟨hr1, hr2, hx1, hx0, hpc, hN⟩
  clear hr1 hr2 hx1 hx0 hpc hN
  have hw0 := hE.lt
  go_enter Tryz.func4, Tryz.ntmps4
  go_wp2_with (fail)
  refine (HH.out.2.2.2.2.2 w).mono ?_
  rintro e w1 ⟨c, hc, rfl, k1, b1⟩
  have S1 := Hb.new hE hc k1 b1
  clear k1 b1
  have l1 := S1.k.lt
  go_wp2_with (fail)
  refine (HH.out.1 c _ S1.k S1.t).mono ?_
  rintro e w2 ⟨rfl, k2, g2⟩
  have S2 := S1.step k2 g2
  clear k2 g2 S1 l1
  have l2 := S2.k.lt
  go_wp2_with (fail)
  refine (HH.out.2.2.1 c _ (S2.alloc _).k).mono ?_
  rintro e w3 ⟨rfl, rfl⟩
  go_wp2_with (fail)
  refine (HH.out.2.1 c _ (S2.alloc _).k (S2.alloc _).t).mono ?_
  rintro e w4 ⟨rfl, k4, g4⟩
  have S4 := (S2.alloc _).step k4 g4
  clear k4 g4 S2 l2
  have l4 := S4.k.lt
  go_wp2_with (first
    | (go_at_call 10; refine (HH.out.2.2.2.2.1 c _ (S4.alloc _).k).mono ?_; rintro e w' ⟨rfl, rfl⟩)
    | (go_at_call 11; refine (HH.out.2.2.2.1 c _ (S4.alloc _).k).mono ?_; rintro e w' ⟨rfl, rfl⟩))
  go_ret
  exact ⟨rfl, (S4.alloc _).b⟩
end Go.Proofs.YteilpehekabccabGreatDoor

/- What the statements' own look at errors answers. -/
namespace Go.Proofs.YteilpehekabccabGreatDoor
open Go.ChangeShapes Go.WideShapes Go.ChangeAt Go.RowKit
set_option linter.unusedVariables false
set_option linter.unusedSimpArgs false

/-- The document's errors lie where the program laid them: each a pointer of its own. -/
structure SentX (A : Nat → Addr) (w : World) : Prop where
  cell : ∀ j, j < 11 → w.cell? ⟨j, 0, none⟩ = some (.iface 172 (.pointer (some (A j))))
  apart : ∀ i j, i < 11 → j < 11 → A i = A j → i = j
  held : ∀ j, j < 11 → ∃ c t, w.heap[(A j).block]? = some (.cells c t (0, 0))
theorem SentX.below {A : Nat → Addr} {a b : World} (h : SentX A a) (hm : Below a.heap.size a b) : SentX A b where
  cell := fun j hj => (hm.cell (p := ⟨j, 0, none⟩) (World.block_lt_of_cell? _ _ (h.cell j hj))).trans (h.cell j hj)
  apart := h.apart
  held := fun j hj => by
    obtain ⟨c, t, hc⟩ := h.held j hj
    exact ⟨c, t, (hm.block _ (Array.getElem?_eq_some_iff.1 hc).1).trans hc⟩
/-- nil, ErrTrace. -/
def errX (A : Nat → Addr) : Nat → Value
  | 0 => .nilIface
  | 1 => .iface 172 (.pointer (some (A 0)))
  | _ => .iface 172 (.pointer (some (A 0)))
def Roo (b n : Nat) (w : World) : Prop := ∃ c t, w.heap[b]? = some (.cells c t (0, 0)) ∧ c.size = n
theorem Roo.below {b n m : Nat} {x y : World} (h : Roo b n x) (hm : Below m x y) (hb : b < m) : Roo b n y := by
  obtain ⟨c, t, h1, h2⟩ := h
  exact ⟨c, t, (hm.block b hb).trans h1, h2⟩

/-- Which variable stands at which place of the list. -/
def permX (p : Nat) : Nat := [1, 2, 3, 4, 5, 6, 7, 8, 0, 9, 10].getD p 0
def ptrX (A : Nat → Addr) (g : Nat) : Value := .iface 172 (.pointer (some (A g)))

theorem eql_same (w : World) (a : Addr) : (binOp .eql 37 (.iface 172 (.pointer (some a))) (.iface 172 (.pointer (some a)))).run Tryz.prog w = .ok (.bool true) w := by
  obtain ⟨i, hi⟩ : ∃ j, Tryz.prog.info? 172 = some j := Option.isSome_iff_exists.1 (by kernel_rfl)
  have hc : i.comparable = true := by
    have : (Tryz.prog.info? 172).map (·.comparable) = some true := by kernel_rfl
    rw [hi] at this; simpa using this
  obtain ⟨j, hj⟩ : ∃ j, Tryz.prog.info? 188 = some j := Option.isSome_iff_exists.1 (by kernel_rfl)
  exact run_eql_iface_ptr_same w a Tryz.underlying37 Tryz.underlying172 hi hc hj
theorem eql_other (w : World) {a b : Addr} {ca cb : Array Value} {ta tb : TypeId} (hne : a ≠ b) (ha : w.heap[a.block]? = some (.cells ca ta (0, 0))) (hb : w.heap[b.block]? = some (.cells cb tb (0, 0))) :
    (binOp .eql 37 (.iface 172 (.pointer (some a))) (.iface 172 (.pointer (some b)))).run Tryz.prog w = .ok (.bool false) w := by
  obtain ⟨i, hi⟩ : ∃ j, Tryz.prog.info? 172 = some j := Option.isSome_iff_exists.1 (by kernel_rfl)
  have hc : i.comparable = true := by
    have : (Tryz.prog.info? 172).map (·.comparable) = some true := by kernel_rfl
    rw [hi] at this; simpa using this
  obtain ⟨j, hj⟩ : ∃ j, Tryz.prog.info? 188 = some j := Option.isSome_iff_exists.1 (by kernel_rfl)
  have hz : j.size ≠ 0 := by
    have : (Tryz.prog.info? 188).map (·.size) = some 1 := by kernel_rfl
    rw [hj] at this; simp at this; omega
  exact run_eql_iface_ptr_other w Tryz.underlying37 Tryz.underlying172 hi hc hj hz hne ha hb

theorem alike_same (a : Addr) (w : World) :
    Calls Tryz.prog 81 #[.iface 172 (.pointer (some a)), .iface 172 (.pointer (some a))] w fun e w' => e = .returned (.bool true) ∧ w = w' := by
  have he := eql_same (a := a)
  go_enter Tryz.func81, Tryz.ntmps81
  go_wp2
  go_ret
  exact ⟨rfl, rfl⟩
theorem alike_other (a b : Addr) (w : World) (he : (binOp .eql 37 (.iface 172 (.pointer (some a))) (.iface 172 (.pointer (some b)))).run Tryz.prog w = .ok (.bool false) w) :
    Calls Tryz.prog 81 #[.iface 172 (.pointer (some a)), .iface 172 (.pointer (some b))] w fun e w' => e = .returned (.bool false) ∧ w = w' := by
  go_enter Tryz.func81, Tryz.ntmps81
  go_wp2
  go_ret
  exact ⟨rfl, rfl⟩

theorem sentinels_any (A : Nat → Addr) (w : World) (hS : SentX A w) :
    Calls Tryz.prog 80 #[] w fun e w' => e = .returned (.slice (some ⟨w.heap.size, 0, none⟩) 11 11) ∧ w' = w.alloc (.cells #[ptrX A 1, ptrX A 2, ptrX A 3, ptrX A 4, ptrX A 5, ptrX A 6, ptrX A 7, ptrX A 8, ptrX A 0, ptrX A 9, ptrX A 10] 37) := by
  have c0 := hS.cell 0 (by omega)
  have c1 := hS.cell 1 (by omega)
  have c2 := hS.cell 2 (by omega)
  have c3 := hS.cell 3 (by omega)
  have c4 := hS.cell 4 (by omega)
  have c5 := hS.cell 5 (by omega)
  have c6 := hS.cell 6 (by omega)
  have c7 := hS.cell 7 (by omega)
  have c8 := hS.cell 8 (by omega)
  have c9 := hS.cell 9 (by omega)
  have c10 := hS.cell 10 (by omega)
  clear hS
  go_enter Tryz.func80, Tryz.ntmps80
  go_wp2
  go_ret
  exact ⟨rfl, rfl⟩

theorem Roo.two {b : Nat} {x : World} (h : Roo b 2 x) : ∃ v0 v1, x.cell? ⟨b, 0, none⟩ = some v0 ∧ x.cell? ⟨b, 1, none⟩ = some v1 ∧ ∀ j, x.frozen? ⟨b, j, none⟩ = false := by
  obtain ⟨c, t, h1, h2⟩ := h
  have hc : ∀ j (hj : j < 2), x.cell? ⟨b, j, none⟩ = some (c[j]'(by omega)) := fun j hj => by simp [World.cell?, h1, h2, hj]
  exact ⟨_, _, hc 0 (by omega), hc 1 (by omega), fun j => by simp [World.frozen?, h1]⟩

theorem bare_any (c : Int) (w : World) :
    Calls Tryz.prog 17 #[.int .i64 c] w fun e w' => e = .returned (.agg #[.int .i64 c, .slice none 0 0]) ∧ Below w.heap.size w w' := by
  go_enter Tryz.func17, Tryz.ntmps17
  go_wp2
  exact bodyPost_ret (v := .agg #[.int .i64 c, .slice none 0 0]) (by simp [results, Tryz.results17, go_sem]) rfl ⟨rfl, (Below.refl _ _).alloc (Nat.le_refl _) _⟩

theorem none_any (w : World) :
    Calls Tryz.prog 37 #[] w fun e w' => e = .returned (.agg #[.int .i64 0, .slice none 0 0]) ∧ Below w.heap.size w w' := by
  go_enter Tryz.func37, Tryz.ntmps37
  go_wp2
  exact bodyPost_ret (v := .agg #[.int .i64 0, .slice none 0 0]) (by simp [results, Tryz.results37, go_sem]) rfl ⟨rfl, (Below.refl _ _).alloc (Nat.le_refl _) _⟩

theorem sameInts_nil (w : World) :
    Calls Tryz.prog 39 #[.slice none 0 0, .slice none 0 0] w fun e w' => e = .returned (.bool true) ∧ w = w' := by
  go_enter Tryz.func39, Tryz.ntmps39
  go_wp2
  go_loopw [5] (fun i wr => i = .int .i64 0 ∧ w = wr) (fun _ _ => 0)
  case atStart => exact ⟨rfl, rfl⟩
  case round =>
    obtain ⟨rfl, rfl⟩ := hrel
    go_wp2
    go_ret
    exact ⟨rfl, rfl⟩

theorem sameFault_any (a b : Int) (w : World) :
    Calls Tryz.prog 26 #[.agg #[.int .i64 a, .slice none 0 0], .agg #[.int .i64 b, .slice none 0 0]] w fun e w' => e = .returned (.bool (a == b)) ∧ Below w.heap.size w w' := by
  have hb : Below w.heap.size w w := Below.refl _ _
  cases h : (a == b)
  all_goals
    go_enter Tryz.func26, Tryz.ntmps26
    go_wp2_with (go_at_call 39; refine (sameInts_nil _).mono ?_; rintro e w' ⟨rfl, rfl⟩)
    go_ret
    exact ⟨rfl, (hb.alloc hb.size _).alloc (by simp) _⟩

theorem permX_inj (p q : Nat) (hp : p < 11) (hq : q < 11) (h : permX p = permX q) : p = q := by
  have : ((List.range 11).all fun p => (List.range 11).all fun q => !(permX p == permX q) || (p == q)) = true := by decide +kernel
  have := List.all_eq_true.1 this p (List.mem_range.2 hp)
  have := List.all_eq_true.1 this q (List.mem_range.2 hq)
  simpa [h] using this
theorem permX_lt (p : Nat) (hp : p < 11) : permX p < 11 := by
  have : ((List.range 11).all fun p => decide (permX p < 11)) = true := by decide +kernel
  simpa using List.all_eq_true.1 this p (List.mem_range.2 hp)

theorem sentinels_c (A : Nat → Addr) (w : World) (hS : SentX A w) :
    Calls Tryz.prog 80 #[] w fun e w' => e = .returned (.slice (some ⟨w.heap.size, 0, none⟩) 11 11) ∧ Below w.heap.size w w' ∧ ∀ k, k < 11 → w'.cell? ⟨w.heap.size, k, none⟩ = some (ptrX A (permX k)) :=
  (sentinels_any A w hS).mono fun e w' ⟨h, hw'⟩ => by
    subst hw'
    refine ⟨h, (Below.refl _ _).alloc (Nat.le_refl _) _, fun k hk => ?_⟩
    match k, hk with
    | 0, _ | 1, _ | 2, _ | 3, _ | 4, _ | 5, _ | 6, _ | 7, _ | 8, _ | 9, _ | 10, _ => simp [go_sem, permX]

theorem sentinel_any (A : Nat → Addr) (p : Nat) (hp : p < 11) (w : World) (hS : SentX A w) :
    Calls Tryz.prog 54 #[.iface 172 (.pointer (some (A (permX p))))] w fun e w' => e = .returned (.int .i64 (101 + p)) ∧ Below w.heap.size w w' := by
  have HS : Hid (SentX A w) := hS
  have Hp : Hid (p < 11) := hp
  clear hS hp
  go_enter Tryz.func54, Tryz.ntmps54
  go_wp2_with (go_at_call 80; refine (sentinels_c A _ HS.out).mono ?_; rintro e w' ⟨rfl, hb, hc⟩; have HC : Hid (∀ k, k < 11 → w'.cell? ⟨w.heap.size, k, none⟩ = some (ptrX A (permX k))) := hc; clear hc)
  go_loopw [4] (fun i wr => ∃ k : Nat, k ≤ p ∧ i = .int .i64 k ∧ w' = wr) (fun i _ => 11 - (intOf i).toNat)
  case atStart => exact ⟨0, by omega, rfl, rfl⟩
  case round =>
    obtain ⟨k, hk, rfl, rfl⟩ := hrel
    have hk11 : (k : Int) < 11 := by have := Hp.out; omega
    have hk0 : (0 : Int) ≤ (k : Int) := Int.natCast_nonneg _
    have hc : w'.cell? ⟨w.heap.size, k, none⟩ = some (.iface 172 (.pointer (some (A (permX k))))) := HC.out k (by omega)
    by_cases h : k = p
    · subst h
      go_wp2_with (go_at_call 81; refine (alike_same _ _).mono ?_; rintro e w'' ⟨rfl, rfl⟩)
      go_ret
      exact ⟨ret_int (by first | rfl | (simp [go_sem]; done) | (have := Hp.out; go_num)), hb⟩
    · have hs := HS.out.below hb
      have hne : A (permX p) ≠ A (permX k) := fun e => h (permX_inj p k Hp.out (by have := Hp.out; omega) (hs.apart _ _ (permX_lt _ Hp.out) (permX_lt _ (by have := Hp.out; omega)) e)).symm
      obtain ⟨ca, ta, ha⟩ := hs.held (permX p) (permX_lt _ Hp.out)
      obtain ⟨cb, tb, hb'⟩ := hs.held (permX k) (permX_lt _ (by have := Hp.out; omega))
      have he := eql_other w' hne ha hb'
      have HE : Hid (_ = _) := he
      clear he ha hb' hne hs
      go_wp2_with (go_at_call 81; refine (alike_other _ _ _ HE.out).mono ?_; rintro e w'' ⟨rfl, rfl⟩)
      go_roundw
      case rel => exact ⟨k + 1, by omega, by go_num, by first | rfl | trivial⟩
      case measure => simp [intOf]; omega

/-- The document's number of an error. -/
def numX : Nat → Int
  | 0 => 0
  | 1 => 109
  | _ => 109

set_option maxRecDepth 100000 in
set_option maxHeartbeats 1600000 in
theorem sfault_any (A : Nat → Addr) (p : Nat) (hp : p < 11) (w : World) (hS : SentX A w) :
    Calls Tryz.prog 38 #[.iface 172 (.pointer (some (A (permX p)))), .int .i64 9] w fun e w' => e = .returned (.agg #[.int .i64 (101 + p), .slice none 0 0]) ∧ Below w.heap.size w w' := by
  have HS : Hid (SentX A w) := hS
  have Hp : Hid (p < 11) := hp
  clear hS hp
  have hT : ∀ v w, (Instr.typeAssert (.iface 172 v) 37 105 true).run Tryz.prog w = .ok (.tuple #[.pointer none, .bool false]) w := fun _ _ => by kernel_rfl
  go_enter Tryz.func38, Tryz.ntmps38
  go_wp2_with (first
    | (go_at_call 54; refine (sentinel_any A p Hp.out _ (HS.out.below ((Below.refl _ _).alloc (Nat.le_refl _) _))).mono ?_; rintro e w1 ⟨rfl, hb1⟩; have hR : Roo w.heap.size 2 w1 := ⟨_, _, (hb1.block _ (by simp)).trans (heap_alloc_new w _), rfl⟩; have hb : Below w.heap.size w w1 := ((Below.refl _ _).alloc (Nat.le_refl _) _).trans (hb1.mono (by simp)); have hlt : w.heap.size < w1.heap.size := (by have := hb1.size; simp at this; omega); clear hb1)
    | (go_at_call 17; refine (bare_any _ _).mono ?_; rintro e w2 ⟨rfl, hb2⟩; obtain ⟨v0, v1, r0, r1, r2⟩ := (hR.below hb2 hlt).two; have hb := hb.trans (hb2.mono hb.size); clear hb2))
  refine bodyPost_ret (v := .agg #[.int .i64 (101 + p), .slice none 0 0]) ?_ rfl ⟨rfl, ?_⟩
  · simp [results, Tryz.results38, go_sem, r0, r1]
  · exact (hb.setCell (Nat.le_refl _) _).setCell (Nat.le_refl _) _

theorem faultOf_some (A : Nat → Addr) (p : Nat) (hp : p < 11) (w : World) (hS : SentX A w) :
    Calls Tryz.prog 25 #[.iface 172 (.pointer (some (A (permX p))))] w fun e w' => e = .returned (.agg #[.int .i64 (101 + p), .slice none 0 0]) ∧ Below w.heap.size w w' := by
  have HS : Hid (SentX A w) := hS
  have Hp : Hid (p < 11) := hp
  clear hS hp
  go_enter Tryz.func25, Tryz.ntmps25
  go_wp2_with (first
    | (go_at_call 38; refine (sfault_any A p Hp.out _ (HS.out.below ((Below.refl _ _).alloc (Nat.le_refl _) _))).mono ?_; rintro e w1 ⟨rfl, hb1⟩; have hR : Roo w.heap.size 2 w1 := ⟨_, _, (hb1.block _ (by simp)).trans (heap_alloc_new w _), rfl⟩; have hb : Below w.heap.size w w1 := ((Below.refl _ _).alloc (Nat.le_refl _) _).trans (hb1.mono (by simp)); clear hb1; obtain ⟨v0, v1, r0, r1, r2⟩ := hR.two))
  refine bodyPost_ret (v := .agg #[.int .i64 (101 + p), .slice none 0 0]) ?_ rfl ⟨rfl, ?_⟩
  · simp [results, Tryz.results25, go_sem, r0, r1]
  · exact (hb.setCell (Nat.le_refl _) _).setCell (Nat.le_refl _) _

theorem faultOf_nil (w : World) :
    Calls Tryz.prog 25 #[.nilIface] w fun e w' => e = .returned (.agg #[.int .i64 0, .slice none 0 0]) ∧ Below w.heap.size w w' := by
  go_enter Tryz.func25, Tryz.ntmps25
  go_wp2_with (first
    | (go_at_call 37; refine (none_any _).mono ?_; rintro e w1 ⟨rfl, hb1⟩; have hR : Roo w.heap.size 2 w1 := ⟨_, _, (hb1.block _ (by simp)).trans (heap_alloc_new w _), rfl⟩; have hb : Below w.heap.size w w1 := ((Below.refl _ _).alloc (Nat.le_refl _) _).trans (hb1.mono (by simp)); clear hb1; obtain ⟨v0, v1, r0, r1, r2⟩ := hR.two))
  refine bodyPost_ret (v := .agg #[.int .i64 0, .slice none 0 0]) ?_ rfl ⟨rfl, ?_⟩
  · simp [results, Tryz.results25, go_sem, r0, r1]
  · exact (hb.setCell (Nat.le_refl _) _).setCell (Nat.le_refl _) _

theorem faultOf_any (A : Nat → Addr) (k : Nat) (hk : k ≤ 2) (w : World) (hS : SentX A w) :
    Calls Tryz.prog 25 #[errX A k] w fun e w' => e = .returned (.agg #[.int .i64 (numX k), .slice none 0 0]) ∧ Below w.heap.size w w' := by
  match k, hk with
  | 0, _ => exact faultOf_nil w
  | 1, _ => exact faultOf_some A 8 (by omega) w hS
  | 2, _ => exact faultOf_some A 8 (by omega) w hS

set_option maxHeartbeats 1600000 in
theorem isX_any (A : Nat → Addr) (k : Nat) (hk : k ≤ 2) (c : Int) (w : World) (hS : SentX A w) :
    Calls Tryz.prog 9 #[errX A k, .int .i64 c] w fun e w' => e = .returned (.bool (numX k == c)) ∧ Below w.heap.size w w' := by
  have same : ∀ w : World, SentX A w → Calls Tryz.prog 16 #[errX A k, .agg #[.int .i64 c, .slice none 0 0]] w fun e w' => e = .returned (.bool (numX k == c)) ∧ Below w.heap.size w w' := by
    intro w hS
    have HS : Hid (SentX A w) := hS
    have Hk : Hid (k ≤ 2) := hk
    clear hS hk
    generalize hv : errX A k = v
    have HV : Hid (v = errX A k) := hv.symm
    clear hv
    go_enter Tryz.func16, Tryz.ntmps16
    go_wp2_with (first
      | (go_at_call 25; rw [HV.out]; refine (faultOf_any A k Hk.out _ (HS.out.below ((Below.refl _ _).alloc (Nat.le_refl _) _))).mono ?_; rintro e w1 ⟨rfl, hb1⟩; have hlt : w.heap.size < w1.heap.size := (by have := hb1.size; simp at this; omega); have x0 := hb1.cell (p := ⟨w.heap.size, 0, none⟩) (by simp); have x1 := hb1.cell (p := ⟨w.heap.size, 1, none⟩) (by simp); simp [go_sem] at x0 x1; have hb : Below w.heap.size w w1 := ((Below.refl _ _).alloc (Nat.le_refl _) _).trans (hb1.mono (by simp)); clear hb1)
      | (go_at_call 26; refine (sameFault_any _ _ _).mono ?_; rintro e w2 ⟨rfl, hb2⟩; have hq := hb.trans ((((Below.refl _ _).alloc (Nat.le_refl _) _).trans (hb2.mono (by simp))).mono hb.size)))
    go_ret
    exact ⟨rfl, hq⟩
  generalize hv : errX A k = v at same ⊢
  have HV : Hid (v = errX A k) := hv.symm
  have HS : Hid (SentX A w) := hS
  have Sm : Hid (∀ w : World, SentX A w → Calls Tryz.prog 16 #[v, .agg #[.int .i64 c, .slice none 0 0]] w fun e w' => e = .returned (.bool (numX k == c)) ∧ Below w.heap.size w w') := same
  clear hv hS same hk
  go_enter Tryz.func9, Tryz.ntmps9
  go_wp2_with (first
    | (go_at_call 17; refine (bare_any _ _).mono ?_; rintro e w1 ⟨rfl, hb1⟩)
    | (go_at_call 16; refine (Sm.out _ (HS.out.below hb1)).mono ?_; rintro e w2 ⟨rfl, hb2⟩))
  go_ret
  exact ⟨rfl, hb1.trans (hb2.mono hb1.size)⟩

end Go.Proofs.YteilpehekabccabGreatDoor

/- What the program's text lays: the errors are pointers of their own. -/
namespace Go.Proofs.YteilpehekabccabGreatDoor
open Go.ChangeShapes Go.WideShapes Go.ChangeAt Go.RowKit
set_option linter.unusedVariables false

abbrev theLaid : List (String × DataW Unit) := [("corral/api.ErrMany", Rows.laid_corral_api_ErrMany), ("corral/api.ErrKind", Rows.laid_corral_api_ErrKind), ("corral/api.ErrPlace", Rows.laid_corral_api_ErrPlace), ("corral/api.ErrShape", Rows.laid_corral_api_ErrShape), ("corral/api.ErrWord", Rows.laid_corral_api_ErrWord), ("corral/api.ErrRange", Rows.laid_corral_api_ErrRange), ("corral/api.ErrFull", Rows.laid_corral_api_ErrFull), ("corral/api.ErrNone", Rows.laid_corral_api_ErrNone), ("corral/api.ErrTrace", Rows.laid_corral_api_ErrTrace), ("corral/api.ErrOrder", Rows.laid_corral_api_ErrOrder), ("corral/api.ErrValue", Rows.laid_corral_api_ErrValue)]

theorem star : "*" ++ "errors.errorString" = "*errors.errorString" := by decide
theorem rowE (u : TypeId) (h : Tryz.prog.typeName? 3 u = some "*errors.errorString") : u = 172 :=
  typeName_ptr_named (nm := "errors.errorString") (by rw [star]; kernel_rfl) (by kernel_rfl) (by decide) u (by rw [star]; exact h)

set_option maxRecDepth 100000 in
/-- One error out of the list. -/
theorem laid_one {W : World} {n : String} {g : Nat} {text : List UInt8} {rest : List (String × DataW Unit)} {ps : List MemPlace} (hg : Tryz.prog.globalNamed n = some g) (ht : (Tryz.prog.globals[g]?).map (·.type) = some 37)
    (hrows : ∀ b off, MemPlace.cell b off ∈ ps → (∃ c t, W.heap[b]? = some (.cells c t (0, 0))) ∧ ∀ u v, W.cell? ⟨b, off, none⟩ = some (.iface u v) → Value.okWide Tryz.prog W .any 0 u v)
    (h : DataW.LaidVars Tryz.prog W ((n, .iface "*errors.errorString" (.ptr (.agg [.lit (.string text)]))) :: rest) ps) :
    ∃ a q, W.cell? ⟨g, 0, none⟩ = some (.iface 172 (.pointer (some a))) ∧ (∃ c t, W.heap[a.block]? = some (.cells c t (0, 0))) ∧ DataW.LaidVars Tryz.prog W rest q ∧ ps = MemPlace.cell g 0 :: MemPlace.cell a.block a.off :: q := by
  obtain ⟨g0, t0, cs0, f0, p0, q0, hg0, ht0, hv0, hd0, hq, e0⟩ := h
  obtain rfl := Option.some.inj (hg.symm.trans hg0)
  obtain rfl := Option.some.inj (ht.symm.trans ht0)
  subst e0
  obtain ⟨l0⟩ := cs0
  have ok0 : ∀ u v, l0 = [.iface u v] → Value.okWide Tryz.prog W .any 0 u v := fun u v e => by
    subst e
    exact (hrows g 0 (by simp [MemPlace.row])).2 u v (by simpa using World.var?_cell hg0 hv0 0)
  obtain ⟨a0, s0, rfl, hc0, hs0, hz0, rfl⟩ := errorString_of_trod Tryz.underlying37 rowE Tryz.underlying172 Tryz.underlying188 rfl rfl Tryz.underlying9 (by kernel_rfl) (by kernel_rfl) hd0 ok0
  refine ⟨a0, q0, by simpa using World.var?_cell hg0 hv0 0, (hrows a0.block a0.off (by simp [MemPlace.row])).1, hq, by simp [MemPlace.row]⟩

theorem permL {α : Type} (a0 a1 a2 a3 a4 a5 a6 a7 a8 a9 a10 : α) : [a8, a0, a1, a2, a3, a4, a5, a6, a7, a9, a10].Perm [a0, a1, a2, a3, a4, a5, a6, a7, a8, a9, a10] := by
  have h : ([8, 0, 1, 2, 3, 4, 5, 6, 7, 9, 10] : List Nat).Perm [0, 1, 2, 3, 4, 5, 6, 7, 8, 9, 10] := by decide
  exact h.map (fun k => [a0, a1, a2, a3, a4, a5, a6, a7, a8, a9, a10].getD k a0)

set_option maxRecDepth 100000 in
theorem sent_of_laid {W : World} (h : laidMetH Tryz.prog theLaid W) : ∃ A, SentX A W := by
  rw [MakeChecks.laidMetH_plain _ _ _ (by kernel_rfl)] at h
  obtain ⟨ps, h0, hnd, hrows⟩ := h
  obtain ⟨a0, q0, x0, y0, h1, e0⟩ := laid_one (g := 1) (by kernel_rfl) (by kernel_rfl) hrows h0
  obtain ⟨a1, q1, x1, y1, h2, e1⟩ := laid_one (g := 2) (by kernel_rfl) (by kernel_rfl) (fun b o hm => hrows b o (by rw [e0]; simp [hm])) h1
  obtain ⟨a2, q2, x2, y2, h3, e2⟩ := laid_one (g := 3) (by kernel_rfl) (by kernel_rfl) (fun b o hm => hrows b o (by rw [e0, e1]; simp [hm])) h2
  obtain ⟨a3, q3, x3, y3, h4, e3⟩ := laid_one (g := 4) (by kernel_rfl) (by kernel_rfl) (fun b o hm => hrows b o (by rw [e0, e1, e2]; simp [hm])) h3
  obtain ⟨a4, q4, x4, y4, h5, e4⟩ := laid_one (g := 5) (by kernel_rfl) (by kernel_rfl) (fun b o hm => hrows b o (by rw [e0, e1, e2, e3]; simp [hm])) h4
  obtain ⟨a5, q5, x5, y5, h6, e5⟩ := laid_one (g := 6) (by kernel_rfl) (by kernel_rfl) (fun b o hm => hrows b o (by rw [e0, e1, e2, e3, e4]; simp [hm])) h5
  obtain ⟨a6, q6, x6, y6, h7, e6⟩ := laid_one (g := 7) (by kernel_rfl) (by kernel_rfl) (fun b o hm => hrows b o (by rw [e0, e1, e2, e3, e4, e5]; simp [hm])) h6
  obtain ⟨a7, q7, x7, y7, h8, e7⟩ := laid_one (g := 8) (by kernel_rfl) (by kernel_rfl) (fun b o hm => hrows b o (by rw [e0, e1, e2, e3, e4, e5, e6]; simp [hm])) h7
  obtain ⟨a8, q8, x8, y8, h9, e8⟩ := laid_one (g := 0) (by kernel_rfl) (by kernel_rfl) (fun b o hm => hrows b o (by rw [e0, e1, e2, e3, e4, e5, e6, e7]; simp [hm])) h8
  obtain ⟨a9, q9, x9, y9, h10, e9⟩ := laid_one (g := 9) (by kernel_rfl) (by kernel_rfl) (fun b o hm => hrows b o (by rw [e0, e1, e2, e3, e4, e5, e6, e7, e8]; simp [hm])) h9
  obtain ⟨a10, q10, x10, y10, h11, e10⟩ := laid_one (g := 10) (by kernel_rfl) (by kernel_rfl) (fun b o hm => hrows b o (by rw [e0, e1, e2, e3, e4, e5, e6, e7, e8, e9]; simp [hm])) h10
  subst e10 e9 e8 e7 e6 e5 e4 e3 e2 e1 e0
  let L : List Addr := [a8, a0, a1, a2, a3, a4, a5, a6, a7, a9, a10]
  have hN : (List.map (fun a : Addr => MemPlace.cell a.block a.off) [a0, a1, a2, a3, a4, a5, a6, a7, a8, a9, a10]).Nodup := by
    refine List.Sublist.nodup ?_ hnd
    exact .cons _ (.cons_cons _ (.cons _ (.cons_cons _ (.cons _ (.cons_cons _ (.cons _ (.cons_cons _ (.cons _ (.cons_cons _ (.cons _ (.cons_cons _ (.cons _ (.cons_cons _ (.cons _ (.cons_cons _ (.cons _ (.cons_cons _ (.cons _ (.cons_cons _ (.cons _ (.cons_cons _ (List.nil_sublist _))))))))))))))))))))))
  have hN2 : (List.map (fun a : Addr => MemPlace.cell a.block a.off) L).Nodup := by
    refine (List.Perm.nodup_iff (List.Perm.map _ ?_)).2 hN
    exact permL a0 a1 a2 a3 a4 a5 a6 a7 a8 a9 a10
  refine ⟨fun j => L.getD j a0, ?_, ?_, ?_⟩
  · intro j hj
    match j, hj with
    | 0, _ => exact x8
    | 1, _ => exact x0
    | 2, _ => exact x1
    | 3, _ => exact x2
    | 4, _ => exact x3
    | 5, _ => exact x4
    | 6, _ => exact x5
    | 7, _ => exact x6
    | 8, _ => exact x7
    | 9, _ => exact x9
    | 10, _ => exact x10
  · intro i j hi hj e
    have hl : L.length = 11 := rfl
    have hp := List.pairwise_iff_getElem.1 hN2
    have e' : ∀ k (hk : k < L.length), L.getD k a0 = L[k] := fun k hk => by simp [List.getD, hk]
    have e : L[i]'(by rw [hl]; exact hi) = L[j]'(by rw [hl]; exact hj) := by rw [← e' i (by rw [hl]; exact hi), ← e' j (by rw [hl]; exact hj)]; exact e
    rcases Nat.lt_trichotomy i j with h | h | h
    · exact (hp i j (by simp [hl]; omega) (by simp [hl]; omega) h (by rw [List.getElem_map, List.getElem_map, e])).elim
    · exact h
    · exact (hp j i (by simp [hl]; omega) (by simp [hl]; omega) h (by rw [List.getElem_map, List.getElem_map, e])).elim
  · intro j hj
    match j, hj with
    | 0, _ => exact y8
    | 1, _ => exact y0
    | 2, _ => exact y1
    | 3, _ => exact y2
    | 4, _ => exact y3
    | 5, _ => exact y4
    | 6, _ => exact y5
    | 7, _ => exact y6
    | 8, _ => exact y7
    | 9, _ => exact y9
    | 10, _ => exact y10

theorem door_met (os : Os) (args : Array Value) : laidMetH Tryz.prog theLaid ((World.doorLaid Tryz.prog 218 os).forCall (fun _ _ => 0) ⟨#[], args, []⟩).memory :=
  laidMetH_of_parts3 (fuel := 8) (laidMet_of_run' 8 (by kernel_rfl) (by kernel_rfl)) (by kernel_rfl) (by kernel_rfl)

end Go.Proofs.YteilpehekabccabGreatDoor

/- What layFields returns: the word of all fields but the immediate. -/
namespace Go.Proofs.YteilpehekabccabGreatDoor
open Go.ChangeShapes Go.WideShapes Go.ChangeAt Go.RowKit
set_option linter.unusedVariables false
set_option linter.unusedSimpArgs false
attribute [local go_sem ↓] Go.wp_at_zero Go.wp_at_succ

abbrev SF (w : World) (i : W.I) (w' : World) : Prop :=
  Below w.heap.size w w' ∧ w.heap.size < w'.heap.size ∧ w'.cell? ⟨w.heap.size, 4, none⟩ = some (.int .i64 i.csr) ∧ w'.cell? ⟨w.heap.size, 6, none⟩ = some (.bool i.aq) ∧ w'.cell? ⟨w.heap.size, 7, none⟩ = some (.bool i.rl)
theorem SF.below {w a b : World} {i : W.I} (h : SF w i a) (hm : Below a.heap.size a b) : SF w i b := by
  obtain ⟨h1, h2, h3, h4, h5⟩ := h
  have q : ∀ j, b.cell? ⟨w.heap.size, j, none⟩ = a.cell? ⟨w.heap.size, j, none⟩ := fun j => hm.cell h2
  refine ⟨h1.trans (hm.mono h1.size), by have := hm.size; omega, ?_⟩
  simp only [q]
  exact ⟨h3, h4, h5⟩
theorem SF.alloc {w a : World} {i : W.I} (h : SF w i a) (o : Obj) : SF w i (a.alloc o) := h.below ((Below.refl _ _).alloc (Nat.le_refl _) _)
theorem SF.start {w w1 : World} {i : W.I} {t : TypeId}
    (hb1 : Below (w.alloc (.cells #[.int .i64 i.op, .int .i64 i.rd, .int .i64 i.rs1, .int .i64 i.rs2, .int .i64 i.csr, .int .u32 i.imm, .bool i.aq, .bool i.rl] t)).heap.size
      (w.alloc (.cells #[.int .i64 i.op, .int .i64 i.rd, .int .i64 i.rs1, .int .i64 i.rs2, .int .i64 i.csr, .int .u32 i.imm, .bool i.aq, .bool i.rl] t)) w1) : SF w i w1.drew := by
  have hs := hb1.size
  simp at hs
  have q : ∀ j, w1.drew.cell? ⟨w.heap.size, j, none⟩ = (w.alloc (.cells #[.int .i64 i.op, .int .i64 i.rd, .int .i64 i.rs1, .int .i64 i.rs2, .int .i64 i.csr, .int .u32 i.imm, .bool i.aq, .bool i.rl] t)).cell? ⟨w.heap.size, j, none⟩ := fun j => hb1.drew.cell (p := ⟨w.heap.size, j, none⟩) (by simp)
  refine ⟨(((Below.refl _ _).alloc (Nat.le_refl _) _).trans (hb1.mono (by simp))).drew, by show w.heap.size < w1.heap.size; omega, ?_⟩
  simp only [q]
  simp [go_sem]

theorem three_cells (w : World) (t : TypeId) (a b c : Int) :
    (∀ j, j < 3 → (w.alloc (.cells #[.int .i64 20, .int .i64 12, .int .u32 a, .int .i64 26, .int .i64 1, .int .u32 b, .int .i64 25, .int .i64 1, .int .u32 c] t)).cell? ⟨w.heap.size, 0 + j * 3, none⟩ = some (.int .i64 (W.gL j)))
    ∧ (∀ j, j < 3 → (w.alloc (.cells #[.int .i64 20, .int .i64 12, .int .u32 a, .int .i64 26, .int .i64 1, .int .u32 b, .int .i64 25, .int .i64 1, .int .u32 c] t)).cell? ⟨w.heap.size, 0 + j * 3 + 1, none⟩ = some (.int .i64 (W.gN j)))
    ∧ (∀ j, j < 3 → (w.alloc (.cells #[.int .i64 20, .int .i64 12, .int .u32 a, .int .i64 26, .int .i64 1, .int .u32 b, .int .i64 25, .int .i64 1, .int .u32 c] t)).cell? ⟨w.heap.size, 0 + j * 3 + 2, none⟩ = some (.int .u32 (W.three a b c j))) := by
  refine ⟨?_, ?_, ?_⟩
  all_goals
    intro j hj
    match j, hj with
    | 0, _ | 1, _ | 2, _ => simp [go_sem, W.gL, W.gN, W.three]

end Go.Proofs.YteilpehekabccabGreatDoor

/- What layImm returns: the word of an immediate alone. -/
namespace Go.Proofs.YteilpehekabccabGreatDoor
open Go.ChangeShapes Go.WideShapes Go.ChangeAt Go.RowKit
set_option linter.unusedVariables false
set_option linter.unusedSimpArgs false

end Go.Proofs.YteilpehekabccabGreatDoor

/- What Encode returns. -/
namespace Go.Proofs.YteilpehekabccabGreatDoor
open Go.ChangeShapes Go.WideShapes Go.ChangeAt Go.RowKit
set_option linter.unusedVariables false
set_option linter.unusedSimpArgs false
attribute [local go_sem ↓] Go.wp_at_zero Go.wp_at_succ

/-- The document's errors lie where the program laid them: each a pointer of its own. -/
structure Sent (A : Nat → Addr) (w : World) : Prop where
  cell : ∀ j, j < 11 → w.cell? ⟨j, 0, none⟩ = some (.iface 172 (.pointer (some (A j))))
  apart : ∀ i j, i < 11 → j < 11 → A i = A j → i = j
  held : ∀ j, j < 11 → ∃ c t, w.heap[(A j).block]? = some (.cells c t (0, 0))
theorem Sent.below {A : Nat → Addr} {a b : World} (h : Sent A a) (hm : Below a.heap.size a b) : Sent A b where
  cell := fun j hj => (hm.cell (p := ⟨j, 0, none⟩) (World.block_lt_of_cell? _ _ (h.cell j hj))).trans (h.cell j hj)
  apart := h.apart
  held := fun j hj => by
    obtain ⟨c, t, hc⟩ := h.held j hj
    exact ⟨c, t, (hm.block _ (Array.getElem?_eq_some_iff.1 hc).1).trans hc⟩
def errV (A : Nat → Addr) : Nat → Value
  | 0 => .nilIface
  | k + 1 => .iface 172 (.pointer (some (A k)))

theorem idx_at (k : Nat) (hk : k < 70) (w : World) : (Instr.index 96 (.agg codesA) (.int .i64 k)).run Tryz.prog w = .ok (.int .u32 (W.code k)) w := by
  unfold Instr.index
  simp [go_sem]
  rw [if_pos hk, codesA_at k hk]
  rfl

/-- The instruction lies in block g. -/
def InAt (g : Nat) (i : W.I) (w' : World) : Prop :=
  w'.cell? ⟨g, 0, none⟩ = some (.int .i64 i.op) ∧ w'.cell? ⟨g, 1, none⟩ = some (.int .i64 i.rd) ∧ w'.cell? ⟨g, 2, none⟩ = some (.int .i64 i.rs1) ∧ w'.cell? ⟨g, 3, none⟩ = some (.int .i64 i.rs2) ∧ w'.cell? ⟨g, 4, none⟩ = some (.int .i64 i.csr) ∧ w'.cell? ⟨g, 5, none⟩ = some (.int .u32 i.imm) ∧ w'.cell? ⟨g, 6, none⟩ = some (.bool i.aq) ∧ w'.cell? ⟨g, 7, none⟩ = some (.bool i.rl)
def ShAt (g : Nat) (s : W.Sh) (w' : World) : Prop :=
  w'.cell? ⟨g, 0, none⟩ = some (.int .u32 s.fixed) ∧ w'.cell? ⟨g, 1, none⟩ = some (.bool s.rd) ∧ w'.cell? ⟨g, 2, none⟩ = some (.bool s.rs1) ∧ w'.cell? ⟨g, 3, none⟩ = some (.bool s.rs2) ∧ w'.cell? ⟨g, 4, none⟩ = some (.bool s.csr) ∧ w'.cell? ⟨g, 5, none⟩ = some (.bool s.ord) ∧ w'.cell? ⟨g, 6, none⟩ = some (.int .u8 s.fmt) ∧ w'.cell? ⟨g, 7, none⟩ = some (.int .i64 s.low) ∧ w'.cell? ⟨g, 8, none⟩ = some (.int .i64 s.size)
theorem InAt.below {g : Nat} {i : W.I} {a b : World} (h : InAt g i a) (hm : Below a.heap.size a b) : InAt g i b := by
  have hg := World.block_lt_of_cell? _ _ h.1
  have q : ∀ j, b.cell? ⟨g, j, none⟩ = a.cell? ⟨g, j, none⟩ := fun j => hm.cell hg
  unfold InAt
  simp only [q]
  exact h
theorem ShAt.below {g : Nat} {s : W.Sh} {a b : World} (h : ShAt g s a) (hm : Below a.heap.size a b) : ShAt g s b := by
  have hg := World.block_lt_of_cell? _ _ h.1
  have q : ∀ j, b.cell? ⟨g, j, none⟩ = a.cell? ⟨g, j, none⟩ := fun j => hm.cell hg
  unfold ShAt
  simp only [q]
  exact h
theorem InAt.start (w : World) (i : W.I) (t : TypeId) : InAt w.heap.size i (w.alloc (.cells #[.int .i64 i.op, .int .i64 i.rd, .int .i64 i.rs1, .int .i64 i.rs2, .int .i64 i.csr, .int .u32 i.imm, .bool i.aq, .bool i.rl] t)) := by
  unfold InAt; simp [go_sem]
theorem ShAt.start (w : World) (s : W.Sh) (t : TypeId) : ShAt w.heap.size s (w.alloc (.cells #[.int .u32 s.fixed, .bool s.rd, .bool s.rs1, .bool s.rs2, .bool s.csr, .bool s.ord, .int .u8 s.fmt, .int .i64 s.low, .int .i64 s.size] t)) := by
  unfold ShAt; simp [go_sem]

theorem enc1 {w w1 : World} {i : W.I} {t : TypeId} (hb1 : Below (w.alloc (.cells #[.int .i64 i.op, .int .i64 i.rd, .int .i64 i.rs1, .int .i64 i.rs2, .int .i64 i.csr, .int .u32 i.imm, .bool i.aq, .bool i.rl] t)).heap.size (w.alloc (.cells #[.int .i64 i.op, .int .i64 i.rd, .int .i64 i.rs1, .int .i64 i.rs2, .int .i64 i.csr, .int .u32 i.imm, .bool i.aq, .bool i.rl] t)) w1) :
    Below w.heap.size w w1 ∧ w.heap.size < w1.heap.size ∧ InAt w.heap.size i w1 := by
  have hz := hb1.size
  simp at hz
  exact ⟨((Below.refl _ _).alloc (Nat.le_refl _) _).trans (hb1.mono (by simp)), by omega, (InAt.start w i t).below hb1⟩
/-- What holds while Encode goes on: the instruction lies in a block of its own, its shape in another. -/
structure St (A : Nat → Addr) (i : W.I) (s : W.Sh) (N : Nat) (w wc : World) : Prop where
  bel : Below w.heap.size w wc
  lt : w.heap.size < N
  lt2 : N < wc.heap.size
  inst : InAt w.heap.size i wc
  shape : ShAt N s wc
  sent : Sent A wc
theorem St.below {A : Nat → Addr} {i : W.I} {s : W.Sh} {N : Nat} {w a b : World} (h : St A i s N w a) (hm : Below a.heap.size a b) : St A i s N w b :=
  ⟨h.bel.trans (hm.mono h.bel.size), h.lt, Nat.lt_of_lt_of_le h.lt2 hm.size, h.inst.below hm, h.shape.below hm, h.sent.below hm⟩
theorem St.start {A : Nat → Addr} {i : W.I} {w w1 : World} {t : TypeId} (s : W.Sh) (hS : Sent A w) (h : Below w.heap.size w w1 ∧ w.heap.size < w1.heap.size ∧ InAt w.heap.size i w1) :
    St A i s w1.heap.size w (w1.alloc (.cells #[.int .u32 s.fixed, .bool s.rd, .bool s.rs1, .bool s.rs2, .bool s.csr, .bool s.ord, .int .u8 s.fmt, .int .i64 s.low, .int .i64 s.size] t)) :=
  ⟨h.1.alloc (by omega) _, h.2.1, by simp, h.2.2.below ((Below.refl _ _).alloc (Nat.le_refl _) _), ShAt.start _ _ _, (hS.below h.1).below ((Below.refl _ _).alloc (Nat.le_refl _) _)⟩

end Go.Proofs.YteilpehekabccabGreatDoor
