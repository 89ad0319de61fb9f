/- What the statements' own look at errors answers. -/
import Derived.Test.YtlindkhmjkionaaDoorCacA
import Derived.LaidEql
namespace Go.Proofs.YtlindkhmjkionaaDoor
open Go.ChangeShapes Go.WideShapes Go.ChangeAt Go.RowKit
set_option linter.unusedVariables false
set_option linter.unusedSimpArgs false

/-- The document's errors lie where the program laid them: each a pointer of its own. -/
structure Sent (A : Nat → Addr) (w : World) : Prop where
  cell : ∀ j, j < 11 → w.cell? ⟨j, 0, none⟩ = some (.iface 121 (.pointer (some (A j))))
  apart : ∀ i j, i < 11 → j < 11 → A i = A j → i = j
  held : ∀ j, j < 11 → ∃ c t, w.heap[(A j).block]? = some (.cells c t (0, 0))
theorem Sent.below {A : Nat → Addr} {a b : World} (h : Sent A a) (hm : Below a.heap.size a b) : Sent A b where
  cell := fun j hj => (hm.cell (p := ⟨j, 0, none⟩) (World.block_lt_of_cell? _ _ (h.cell j hj))).trans (h.cell j hj)
  apart := h.apart
  held := fun j hj => by
    obtain ⟨c, t, hc⟩ := h.held j hj
    exact ⟨c, t, (hm.block _ (Array.getElem?_eq_some_iff.1 hc).1).trans hc⟩
/-- nil, ErrRange, ErrKind, ErrFull. -/
def errV (A : Nat → Addr) : Nat → Value
  | 0 => .nilIface
  | 1 => .iface 121 (.pointer (some (A 0)))
  | 2 => .iface 121 (.pointer (some (A 1)))
  | _ => .iface 121 (.pointer (some (A 2)))
def Room (b n : Nat) (w : World) : Prop := ∃ c t, w.heap[b]? = some (.cells c t (0, 0)) ∧ c.size = n
theorem Room.below {b n m : Nat} {x y : World} (h : Room b n x) (hm : Below m x y) (hb : b < m) : Room b n y := by
  obtain ⟨c, t, h1, h2⟩ := h
  exact ⟨c, t, (hm.block b hb).trans h1, h2⟩

/-- Which variable stands at which place of the list. -/
def perm (p : Nat) : Nat := [3, 1, 4, 5, 6, 0, 2, 7, 8, 9, 10].getD p 0
def ptr (A : Nat → Addr) (g : Nat) : Value := .iface 121 (.pointer (some (A g)))

theorem eql_same (w : World) (a : Addr) : (binOp .eql 27 (.iface 121 (.pointer (some a))) (.iface 121 (.pointer (some a)))).run Tryd.prog w = .ok (.bool true) w := by
  obtain ⟨i, hi⟩ : ∃ j, Tryd.prog.info? 121 = some j := Option.isSome_iff_exists.1 (by kernel_rfl)
  have hc : i.comparable = true := by
    have : (Tryd.prog.info? 121).map (·.comparable) = some true := by kernel_rfl
    rw [hi] at this; simpa using this
  obtain ⟨j, hj⟩ : ∃ j, Tryd.prog.info? 137 = some j := Option.isSome_iff_exists.1 (by kernel_rfl)
  exact run_eql_iface_ptr_same w a Tryd.underlying27 Tryd.underlying121 hi hc hj
theorem eql_other (w : World) {a b : Addr} {ca cb : Array Value} {ta tb : TypeId} (hne : a ≠ b) (ha : w.heap[a.block]? = some (.cells ca ta (0, 0))) (hb : w.heap[b.block]? = some (.cells cb tb (0, 0))) :
    (binOp .eql 27 (.iface 121 (.pointer (some a))) (.iface 121 (.pointer (some b)))).run Tryd.prog w = .ok (.bool false) w := by
  obtain ⟨i, hi⟩ : ∃ j, Tryd.prog.info? 121 = some j := Option.isSome_iff_exists.1 (by kernel_rfl)
  have hc : i.comparable = true := by
    have : (Tryd.prog.info? 121).map (·.comparable) = some true := by kernel_rfl
    rw [hi] at this; simpa using this
  obtain ⟨j, hj⟩ : ∃ j, Tryd.prog.info? 137 = some j := Option.isSome_iff_exists.1 (by kernel_rfl)
  have hz : j.size ≠ 0 := by
    have : (Tryd.prog.info? 137).map (·.size) = some 1 := by kernel_rfl
    rw [hj] at this; simp at this; omega
  exact run_eql_iface_ptr_other w Tryd.underlying27 Tryd.underlying121 hi hc hj hz hne ha hb

theorem alike_same (a : Addr) (w : World) :
    Calls Tryd.prog 71 #[.iface 121 (.pointer (some a)), .iface 121 (.pointer (some a))] w fun e w' => e = .returned (.bool true) ∧ w = w' := by
  have he := eql_same (a := a)
  go_enter Tryd.func71, Tryd.ntmps71
  go_wp2
  go_ret
  exact ⟨rfl, rfl⟩
theorem alike_other (a b : Addr) (w : World) (he : (binOp .eql 27 (.iface 121 (.pointer (some a))) (.iface 121 (.pointer (some b)))).run Tryd.prog w = .ok (.bool false) w) :
    Calls Tryd.prog 71 #[.iface 121 (.pointer (some a)), .iface 121 (.pointer (some b))] w fun e w' => e = .returned (.bool false) ∧ w = w' := by
  go_enter Tryd.func71, Tryd.ntmps71
  go_wp2
  go_ret
  exact ⟨rfl, rfl⟩

theorem sentinels_any (A : Nat → Addr) (w : World) (hS : Sent A w) :
    Calls Tryd.prog 70 #[] w fun e w' => e = .returned (.slice (some ⟨w.heap.size, 0, none⟩) 11 11) ∧ w' = w.alloc (.cells #[ptr A 3, ptr A 1, ptr A 4, ptr A 5, ptr A 6, ptr A 0, ptr A 2, ptr A 7, ptr A 8, ptr A 9, ptr A 10] 27) := by
  have c0 := hS.cell 0 (by omega)
  have c1 := hS.cell 1 (by omega)
  have c2 := hS.cell 2 (by omega)
  have c3 := hS.cell 3 (by omega)
  have c4 := hS.cell 4 (by omega)
  have c5 := hS.cell 5 (by omega)
  have c6 := hS.cell 6 (by omega)
  have c7 := hS.cell 7 (by omega)
  have c8 := hS.cell 8 (by omega)
  have c9 := hS.cell 9 (by omega)
  have c10 := hS.cell 10 (by omega)
  clear hS
  go_enter Tryd.func70, Tryd.ntmps70
  go_wp2
  go_ret
  exact ⟨rfl, rfl⟩

theorem Room.two {b : Nat} {x : World} (h : Room b 2 x) : ∃ v0 v1, x.cell? ⟨b, 0, none⟩ = some v0 ∧ x.cell? ⟨b, 1, none⟩ = some v1 ∧ ∀ j, x.frozen? ⟨b, j, none⟩ = false := by
  obtain ⟨c, t, h1, h2⟩ := h
  have hc : ∀ j (hj : j < 2), x.cell? ⟨b, j, none⟩ = some (c[j]'(by omega)) := fun j hj => by simp [World.cell?, h1, h2, hj]
  exact ⟨_, _, hc 0 (by omega), hc 1 (by omega), fun j => by simp [World.frozen?, h1]⟩

theorem bare_any (c : Int) (w : World) :
    Calls Tryd.prog 30 #[.int .i64 c] w fun e w' => e = .returned (.agg #[.int .i64 c, .slice none 0 0]) ∧ Below w.heap.size w w' := by
  go_enter Tryd.func30, Tryd.ntmps30
  go_wp2
  exact bodyPost_ret (v := .agg #[.int .i64 c, .slice none 0 0]) (by simp [results, Tryd.results30, go_sem]) rfl ⟨rfl, (Below.refl _ _).alloc (Nat.le_refl _) _⟩

theorem none_any (w : World) :
    Calls Tryd.prog 51 #[] w fun e w' => e = .returned (.agg #[.int .i64 0, .slice none 0 0]) ∧ Below w.heap.size w w' := by
  go_enter Tryd.func51, Tryd.ntmps51
  go_wp2
  exact bodyPost_ret (v := .agg #[.int .i64 0, .slice none 0 0]) (by simp [results, Tryd.results51, go_sem]) rfl ⟨rfl, (Below.refl _ _).alloc (Nat.le_refl _) _⟩

theorem sameInts_nil (w : World) :
    Calls Tryd.prog 53 #[.slice none 0 0, .slice none 0 0] w fun e w' => e = .returned (.bool true) ∧ w = w' := by
  go_enter Tryd.func53, Tryd.ntmps53
  go_wp2
  go_loopw [5] (fun i wr => i = .int .i64 0 ∧ w = wr) (fun _ _ => 0)
  case atStart => exact ⟨rfl, rfl⟩
  case round =>
    obtain ⟨rfl, rfl⟩ := hrel
    go_wp2
    go_ret
    exact ⟨rfl, rfl⟩

theorem sameFault_any (a b : Int) (w : World) :
    Calls Tryd.prog 43 #[.agg #[.int .i64 a, .slice none 0 0], .agg #[.int .i64 b, .slice none 0 0]] w fun e w' => e = .returned (.bool (a == b)) ∧ Below w.heap.size w w' := by
  have hb : Below w.heap.size w w := Below.refl _ _
  cases h : (a == b)
  all_goals
    go_enter Tryd.func43, Tryd.ntmps43
    go_wp2_with (go_at_call 53; refine (sameInts_nil _).mono ?_; rintro e w' ⟨rfl, rfl⟩)
    go_ret
    exact ⟨rfl, (hb.alloc hb.size _).alloc (by simp) _⟩

theorem perm_inj (p q : Nat) (hp : p < 11) (hq : q < 11) (h : perm p = perm q) : p = q := by
  have : ((List.range 11).all fun p => (List.range 11).all fun q => !(perm p == perm q) || (p == q)) = true := by decide +kernel
  have := List.all_eq_true.1 this p (List.mem_range.2 hp)
  have := List.all_eq_true.1 this q (List.mem_range.2 hq)
  simpa [h] using this
theorem perm_lt (p : Nat) (hp : p < 11) : perm p < 11 := by
  have : ((List.range 11).all fun p => decide (perm p < 11)) = true := by decide +kernel
  simpa using List.all_eq_true.1 this p (List.mem_range.2 hp)

theorem sentinels_c (A : Nat → Addr) (w : World) (hS : Sent A w) :
    Calls Tryd.prog 70 #[] w fun e w' => e = .returned (.slice (some ⟨w.heap.size, 0, none⟩) 11 11) ∧ Below w.heap.size w w' ∧ ∀ k, k < 11 → w'.cell? ⟨w.heap.size, k, none⟩ = some (ptr A (perm k)) :=
  (sentinels_any A w hS).mono fun e w' ⟨h, hw'⟩ => by
    subst hw'
    refine ⟨h, (Below.refl _ _).alloc (Nat.le_refl _) _, fun k hk => ?_⟩
    match k, hk with
    | 0, _ | 1, _ | 2, _ | 3, _ | 4, _ | 5, _ | 6, _ | 7, _ | 8, _ | 9, _ | 10, _ => simp [go_sem, perm]

theorem sentinel_any (A : Nat → Addr) (p : Nat) (hp : p < 11) (w : World) (hS : Sent A w) :
    Calls Tryd.prog 64 #[.iface 121 (.pointer (some (A (perm p))))] w fun e w' => e = .returned (.int .i64 (101 + p)) ∧ Below w.heap.size w w' := by
  have HS : Hid (Sent A w) := hS
  have Hp : Hid (p < 11) := hp
  clear hS hp
  go_enter Tryd.func64, Tryd.ntmps64
  go_wp2_with (go_at_call 70; refine (sentinels_c A _ HS.out).mono ?_; rintro e w' ⟨rfl, hb, hc⟩; have HC : Hid (∀ k, k < 11 → w'.cell? ⟨w.heap.size, k, none⟩ = some (ptr A (perm k))) := hc; clear hc)
  go_loopw [4] (fun i wr => ∃ k : Nat, k ≤ p ∧ i = .int .i64 k ∧ w' = wr) (fun i _ => 11 - (intOf i).toNat)
  case atStart => exact ⟨0, by omega, rfl, rfl⟩
  case round =>
    obtain ⟨k, hk, rfl, rfl⟩ := hrel
    have hk11 : (k : Int) < 11 := by have := Hp.out; omega
    have hk0 : (0 : Int) ≤ (k : Int) := Int.natCast_nonneg _
    have hc : w'.cell? ⟨w.heap.size, k, none⟩ = some (.iface 121 (.pointer (some (A (perm k))))) := HC.out k (by omega)
    by_cases h : k = p
    · subst h
      go_wp2_with (go_at_call 71; refine (alike_same _ _).mono ?_; rintro e w'' ⟨rfl, rfl⟩)
      go_ret
      exact ⟨ret_int (by first | rfl | (simp [go_sem]; done) | (have := Hp.out; go_num)), hb⟩
    · have hs := HS.out.below hb
      have hne : A (perm p) ≠ A (perm k) := fun e => h (perm_inj p k Hp.out (by have := Hp.out; omega) (hs.apart _ _ (perm_lt _ Hp.out) (perm_lt _ (by have := Hp.out; omega)) e)).symm
      obtain ⟨ca, ta, ha⟩ := hs.held (perm p) (perm_lt _ Hp.out)
      obtain ⟨cb, tb, hb'⟩ := hs.held (perm k) (perm_lt _ (by have := Hp.out; omega))
      have he := eql_other w' hne ha hb'
      have HE : Hid (_ = _) := he
      clear he ha hb' hne hs
      go_wp2_with (go_at_call 71; refine (alike_other _ _ _ HE.out).mono ?_; rintro e w'' ⟨rfl, rfl⟩)
      go_roundw
      case rel => exact ⟨k + 1, by omega, by go_num, by first | rfl | trivial⟩
      case measure => simp [intOf]; omega

/-- The document's number of an error. -/
def num : Nat → Int
  | 0 => 0
  | 1 => 106
  | 2 => 102
  | _ => 107

set_option maxRecDepth 100000 in
set_option maxHeartbeats 1600000 in
theorem fault_any (A : Nat → Addr) (p : Nat) (hp : p < 11) (w : World) (hS : Sent A w) :
    Calls Tryd.prog 52 #[.iface 121 (.pointer (some (A (perm p)))), .int .i64 9] w fun e w' => e = .returned (.agg #[.int .i64 (101 + p), .slice none 0 0]) ∧ Below w.heap.size w w' := by
  have HS : Hid (Sent A w) := hS
  have Hp : Hid (p < 11) := hp
  clear hS hp
  have hT : ∀ v w, (Instr.typeAssert (.iface 121 v) 27 106 true).run Tryd.prog w = .ok (.tuple #[.pointer none, .bool false]) w := fun _ _ => by kernel_rfl
  go_enter Tryd.func52, Tryd.ntmps52
  go_wp2_with (first
    | (go_at_call 64; refine (sentinel_any A p Hp.out _ (HS.out.below ((Below.refl _ _).alloc (Nat.le_refl _) _))).mono ?_; rintro e w1 ⟨rfl, hb1⟩; have hR : Room w.heap.size 2 w1 := ⟨_, _, (hb1.block _ (by simp)).trans (heap_alloc_new w _), rfl⟩; have hb : Below w.heap.size w w1 := ((Below.refl _ _).alloc (Nat.le_refl _) _).trans (hb1.mono (by simp)); have hlt : w.heap.size < w1.heap.size := (by have := hb1.size; simp at this; omega); clear hb1)
    | (go_at_call 30; refine (bare_any _ _).mono ?_; rintro e w2 ⟨rfl, hb2⟩; obtain ⟨v0, v1, r0, r1, r2⟩ := (hR.below hb2 hlt).two; have hb := hb.trans (hb2.mono hb.size); clear hb2))
  refine bodyPost_ret (v := .agg #[.int .i64 (101 + p), .slice none 0 0]) ?_ rfl ⟨rfl, ?_⟩
  · simp [results, Tryd.results52, go_sem, r0, r1]
  · exact (hb.setCell (Nat.le_refl _) _).setCell (Nat.le_refl _) _

theorem faultOf_some (A : Nat → Addr) (p : Nat) (hp : p < 11) (w : World) (hS : Sent A w) :
    Calls Tryd.prog 42 #[.iface 121 (.pointer (some (A (perm p))))] w fun e w' => e = .returned (.agg #[.int .i64 (101 + p), .slice none 0 0]) ∧ Below w.heap.size w w' := by
  have HS : Hid (Sent A w) := hS
  have Hp : Hid (p < 11) := hp
  clear hS hp
  go_enter Tryd.func42, Tryd.ntmps42
  go_wp2_with (first
    | (go_at_call 52; refine (fault_any A p Hp.out _ (HS.out.below ((Below.refl _ _).alloc (Nat.le_refl _) _))).mono ?_; rintro e w1 ⟨rfl, hb1⟩; have hR : Room w.heap.size 2 w1 := ⟨_, _, (hb1.block _ (by simp)).trans (heap_alloc_new w _), rfl⟩; have hb : Below w.heap.size w w1 := ((Below.refl _ _).alloc (Nat.le_refl _) _).trans (hb1.mono (by simp)); clear hb1; obtain ⟨v0, v1, r0, r1, r2⟩ := hR.two))
  refine bodyPost_ret (v := .agg #[.int .i64 (101 + p), .slice none 0 0]) ?_ rfl ⟨rfl, ?_⟩
  · simp [results, Tryd.results42, go_sem, r0, r1]
  · exact (hb.setCell (Nat.le_refl _) _).setCell (Nat.le_refl _) _

theorem faultOf_nil (w : World) :
    Calls Tryd.prog 42 #[.nilIface] w fun e w' => e = .returned (.agg #[.int .i64 0, .slice none 0 0]) ∧ Below w.heap.size w w' := by
  go_enter Tryd.func42, Tryd.ntmps42
  go_wp2_with (first
    | (go_at_call 51; refine (none_any _).mono ?_; rintro e w1 ⟨rfl, hb1⟩; have hR : Room w.heap.size 2 w1 := ⟨_, _, (hb1.block _ (by simp)).trans (heap_alloc_new w _), rfl⟩; have hb : Below w.heap.size w w1 := ((Below.refl _ _).alloc (Nat.le_refl _) _).trans (hb1.mono (by simp)); clear hb1; obtain ⟨v0, v1, r0, r1, r2⟩ := hR.two))
  refine bodyPost_ret (v := .agg #[.int .i64 0, .slice none 0 0]) ?_ rfl ⟨rfl, ?_⟩
  · simp [results, Tryd.results42, go_sem, r0, r1]
  · exact (hb.setCell (Nat.le_refl _) _).setCell (Nat.le_refl _) _

theorem faultOf_any (A : Nat → Addr) (k : Nat) (hk : k ≤ 3) (w : World) (hS : Sent A w) :
    Calls Tryd.prog 42 #[errV A k] w fun e w' => e = .returned (.agg #[.int .i64 (num k), .slice none 0 0]) ∧ Below w.heap.size w w' := by
  match k, hk with
  | 0, _ => exact faultOf_nil w
  | 1, _ => exact faultOf_some A 5 (by omega) w hS
  | 2, _ => exact faultOf_some A 1 (by omega) w hS
  | 3, _ => exact faultOf_some A 6 (by omega) w hS

set_option maxHeartbeats 1600000 in
theorem is_any (A : Nat → Addr) (k : Nat) (hk : k ≤ 3) (c : Int) (w : World) (hS : Sent A w) :
    Calls Tryd.prog 9 #[errV A k, .int .i64 c] w fun e w' => e = .returned (.bool (num k == c)) ∧ Below w.heap.size w w' := by
  have same : ∀ w : World, Sent A w → Calls Tryd.prog 29 #[errV A k, .agg #[.int .i64 c, .slice none 0 0]] w fun e w' => e = .returned (.bool (num k == c)) ∧ Below w.heap.size w w' := by
    intro w hS
    have HS : Hid (Sent A w) := hS
    have Hk : Hid (k ≤ 3) := hk
    clear hS hk
    generalize hv : errV A k = v
    have HV : Hid (v = errV A k) := hv.symm
    clear hv
    go_enter Tryd.func29, Tryd.ntmps29
    go_wp2_with (first
      | (go_at_call 42; rw [HV.out]; refine (faultOf_any A k Hk.out _ (HS.out.below ((Below.refl _ _).alloc (Nat.le_refl _) _))).mono ?_; rintro e w1 ⟨rfl, hb1⟩; have hlt : w.heap.size < w1.heap.size := (by have := hb1.size; simp at this; omega); have x0 := hb1.cell (p := ⟨w.heap.size, 0, none⟩) (by simp); have x1 := hb1.cell (p := ⟨w.heap.size, 1, none⟩) (by simp); simp [go_sem] at x0 x1; have hb : Below w.heap.size w w1 := ((Below.refl _ _).alloc (Nat.le_refl _) _).trans (hb1.mono (by simp)); clear hb1)
      | (go_at_call 43; refine (sameFault_any _ _ _).mono ?_; rintro e w2 ⟨rfl, hb2⟩; have hq := hb.trans ((((Below.refl _ _).alloc (Nat.le_refl _) _).trans (hb2.mono (by simp))).mono hb.size)))
    go_ret
    exact ⟨rfl, hq⟩
  generalize hv : errV A k = v at same ⊢
  have HV : Hid (v = errV A k) := hv.symm
  have HS : Hid (Sent A w) := hS
  have Sm : Hid (∀ w : World, Sent A w → Calls Tryd.prog 29 #[v, .agg #[.int .i64 c, .slice none 0 0]] w fun e w' => e = .returned (.bool (num k == c)) ∧ Below w.heap.size w w') := same
  clear hv hS same hk
  go_enter Tryd.func9, Tryd.ntmps9
  go_wp2_with (first
    | (go_at_call 30; refine (bare_any _ _).mono ?_; rintro e w1 ⟨rfl, hb1⟩)
    | (go_at_call 29; refine (Sm.out _ (HS.out.below hb1)).mono ?_; rintro e w2 ⟨rfl, hb2⟩))
  go_ret
  exact ⟨rfl, hb1.trans (hb2.mono hb1.size)⟩

end Go.Proofs.YtlindkhmjkionaaDoor
