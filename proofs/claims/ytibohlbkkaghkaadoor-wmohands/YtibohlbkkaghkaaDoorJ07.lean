/- Texts in one: See14, WmoS, WmoT, WmoU. -/
import Derived.WalkSmall
import Derived.LaidEql
import Derived.Deep.RegionHeld3
import Derived.Deep.RegionWith
import Derived.Test.YtibohlbkkaghkaaDoorJ03
import Derived.Test.YtibohlbkkaghkaaDoorJ06
/- What the statements' own look at errors answers: errors with a place. -/
namespace Go.Proofs.YtibohlbkkaghkaaDoor
open Go.ChangeShapes Go.WideShapes Go.ChangeAt Go.RowKit
set_option linter.unusedVariables false
set_option linter.unusedSimpArgs false

/-- The document's errors lie where the program laid them: each a pointer of its own. -/
structure Sent (A : Nat → Addr) (w : World) : Prop where
  cell : ∀ j, j < 11 → w.cell? ⟨j, 0, none⟩ = some (.iface 141 (.pointer (some (A j))))
  apart : ∀ i j, i < 11 → j < 11 → A i = A j → i = j
  held : ∀ j, j < 11 → ∃ c t, w.heap[(A j).block]? = some (.cells c t (0, 0))
theorem Sent.below {A : Nat → Addr} {a b : World} (h : Sent A a) (hm : Below a.heap.size a b) : Sent A b where
  cell := fun j hj => (hm.cell (p := ⟨j, 0, none⟩) (World.block_lt_of_cell? _ _ (h.cell j hj))).trans (h.cell j hj)
  apart := h.apart
  held := fun j hj => by
    obtain ⟨c, t, hc⟩ := h.held j hj
    exact ⟨c, t, (hm.block _ (Array.getElem?_eq_some_iff.1 hc).1).trans hc⟩
def Room (b n : Nat) (w : World) : Prop := ∃ c t, w.heap[b]? = some (.cells c t (0, 0)) ∧ c.size = n
theorem Room.below {b n m : Nat} {x y : World} (h : Room b n x) (hm : Below m x y) (hb : b < m) : Room b n y := by
  obtain ⟨c, t, h1, h2⟩ := h
  exact ⟨c, t, (hm.block b hb).trans h1, h2⟩

/-- Which variable stands at which place of the list. -/
def perm (p : Nat) : Nat := [2, 4, 5, 3, 6, 7, 8, 9, 10, 0, 1].getD p 0
def ptr (A : Nat → Addr) (g : Nat) : Value := .iface 141 (.pointer (some (A g)))

theorem eql_same (w : World) (a : Addr) : (binOp .eql 45 (.iface 141 (.pointer (some a))) (.iface 141 (.pointer (some a)))).run Tryd.prog w = .ok (.bool true) w := by
  obtain ⟨i, hi⟩ : ∃ j, Tryd.prog.info? 141 = some j := Option.isSome_iff_exists.1 (by kernel_rfl)
  have hc : i.comparable = true := by
    have : (Tryd.prog.info? 141).map (·.comparable) = some true := by kernel_rfl
    rw [hi] at this; simpa using this
  obtain ⟨j, hj⟩ : ∃ j, Tryd.prog.info? 158 = some j := Option.isSome_iff_exists.1 (by kernel_rfl)
  exact run_eql_iface_ptr_same w a Tryd.underlying45 Tryd.underlying141 hi hc hj
theorem eql_other (w : World) {a b : Addr} {ca cb : Array Value} {ta tb : TypeId} (hne : a ≠ b) (ha : w.heap[a.block]? = some (.cells ca ta (0, 0))) (hb : w.heap[b.block]? = some (.cells cb tb (0, 0))) :
    (binOp .eql 45 (.iface 141 (.pointer (some a))) (.iface 141 (.pointer (some b)))).run Tryd.prog w = .ok (.bool false) w := by
  obtain ⟨i, hi⟩ : ∃ j, Tryd.prog.info? 141 = some j := Option.isSome_iff_exists.1 (by kernel_rfl)
  have hc : i.comparable = true := by
    have : (Tryd.prog.info? 141).map (·.comparable) = some true := by kernel_rfl
    rw [hi] at this; simpa using this
  obtain ⟨j, hj⟩ : ∃ j, Tryd.prog.info? 158 = some j := Option.isSome_iff_exists.1 (by kernel_rfl)
  have hz : j.size ≠ 0 := by
    have : (Tryd.prog.info? 158).map (·.size) = some 1 := by kernel_rfl
    rw [hj] at this; simp at this; omega
  exact run_eql_iface_ptr_other w Tryd.underlying45 Tryd.underlying141 hi hc hj hz hne ha hb

theorem alike_same (a : Addr) (w : World) :
    Calls Tryd.prog 64 #[.iface 141 (.pointer (some a)), .iface 141 (.pointer (some a))] w fun e w' => e = .returned (.bool true) ∧ w = w' := by
  have he := eql_same (a := a)
  go_enter Tryd.func64, Tryd.ntmps64
  go_wp2
  go_ret
  exact ⟨rfl, rfl⟩
theorem alike_other (a b : Addr) (w : World) (he : (binOp .eql 45 (.iface 141 (.pointer (some a))) (.iface 141 (.pointer (some b)))).run Tryd.prog w = .ok (.bool false) w) :
    Calls Tryd.prog 64 #[.iface 141 (.pointer (some a)), .iface 141 (.pointer (some b))] w fun e w' => e = .returned (.bool false) ∧ w = w' := by
  go_enter Tryd.func64, Tryd.ntmps64
  go_wp2
  go_ret
  exact ⟨rfl, rfl⟩

theorem sentinels_any (A : Nat → Addr) (w : World) (hS : Sent A w) :
    Calls Tryd.prog 63 #[] w fun e w' => e = .returned (.slice (some ⟨w.heap.size, 0, none⟩) 11 11) ∧ w' = w.alloc (.cells #[ptr A 2, ptr A 4, ptr A 5, ptr A 3, ptr A 6, ptr A 7, ptr A 8, ptr A 9, ptr A 10, ptr A 0, ptr A 1] 45) := by
  have c0 := hS.cell 0 (by omega)
  have c1 := hS.cell 1 (by omega)
  have c2 := hS.cell 2 (by omega)
  have c3 := hS.cell 3 (by omega)
  have c4 := hS.cell 4 (by omega)
  have c5 := hS.cell 5 (by omega)
  have c6 := hS.cell 6 (by omega)
  have c7 := hS.cell 7 (by omega)
  have c8 := hS.cell 8 (by omega)
  have c9 := hS.cell 9 (by omega)
  have c10 := hS.cell 10 (by omega)
  clear hS
  go_enter Tryd.func63, Tryd.ntmps63
  go_wp2
  go_ret
  exact ⟨rfl, rfl⟩

theorem Room.two {b : Nat} {x : World} (h : Room b 2 x) : ∃ v0 v1, x.cell? ⟨b, 0, none⟩ = some v0 ∧ x.cell? ⟨b, 1, none⟩ = some v1 ∧ ∀ j, x.frozen? ⟨b, j, none⟩ = false := by
  obtain ⟨c, t, h1, h2⟩ := h
  have hc : ∀ j (hj : j < 2), x.cell? ⟨b, j, none⟩ = some (c[j]'(by omega)) := fun j hj => by simp [World.cell?, h1, h2, hj]
  exact ⟨_, _, hc 0 (by omega), hc 1 (by omega), fun j => by simp [World.frozen?, h1]⟩

theorem bare_any (c : Int) (w : World) :
    Calls Tryd.prog 17 #[.int .i64 c] w fun e w' => e = .returned (.agg #[.int .i64 c, .slice none 0 0]) ∧ Below w.heap.size w w' := by
  go_enter Tryd.func17, Tryd.ntmps17
  go_wp2
  exact bodyPost_ret (v := .agg #[.int .i64 c, .slice none 0 0]) (by simp [results, Tryd.results17, go_sem]) rfl ⟨rfl, (Below.refl _ _).alloc (Nat.le_refl _) _⟩

theorem none_any (w : World) :
    Calls Tryd.prog 20 #[] w fun e w' => e = .returned (.agg #[.int .i64 0, .slice none 0 0]) ∧ Below w.heap.size w w' := by
  go_enter Tryd.func20, Tryd.ntmps20
  go_wp2
  exact bodyPost_ret (v := .agg #[.int .i64 0, .slice none 0 0]) (by simp [results, Tryd.results20, go_sem]) rfl ⟨rfl, (Below.refl _ _).alloc (Nat.le_refl _) _⟩

theorem sameInts_nil (w : World) :
    Calls Tryd.prog 47 #[.slice none 0 0, .slice none 0 0] w fun e w' => e = .returned (.bool true) ∧ w = w' := by
  go_enter Tryd.func47, Tryd.ntmps47
  go_wp2
  go_loopw [5] (fun i wr => i = .int .i64 0 ∧ w = wr) (fun _ _ => 0)
  case atStart => exact ⟨rfl, rfl⟩
  case round =>
    obtain ⟨rfl, rfl⟩ := hrel
    go_wp2
    go_ret
    exact ⟨rfl, rfl⟩

theorem sameFault_any (a b : Int) (w : World) :
    Calls Tryd.prog 32 #[.agg #[.int .i64 a, .slice none 0 0], .agg #[.int .i64 b, .slice none 0 0]] w fun e w' => e = .returned (.bool (a == b)) ∧ Below w.heap.size w w' := by
  have hb : Below w.heap.size w w := Below.refl _ _
  cases h : (a == b)
  all_goals
    go_enter Tryd.func32, Tryd.ntmps32
    go_wp2_with (go_at_call 47; refine (sameInts_nil _).mono ?_; rintro e w' ⟨rfl, rfl⟩)
    go_ret
    exact ⟨rfl, (hb.alloc hb.size _).alloc (by simp) _⟩

theorem perm_inj (p q : Nat) (hp : p < 11) (hq : q < 11) (h : perm p = perm q) : p = q := by
  have : ((List.range 11).all fun p => (List.range 11).all fun q => !(perm p == perm q) || (p == q)) = true := by decide +kernel
  have := List.all_eq_true.1 this p (List.mem_range.2 hp)
  have := List.all_eq_true.1 this q (List.mem_range.2 hq)
  simpa [h] using this
theorem perm_lt (p : Nat) (hp : p < 11) : perm p < 11 := by
  have : ((List.range 11).all fun p => decide (perm p < 11)) = true := by decide +kernel
  simpa using List.all_eq_true.1 this p (List.mem_range.2 hp)

theorem sentinels_c (A : Nat → Addr) (w : World) (hS : Sent A w) :
    Calls Tryd.prog 63 #[] w fun e w' => e = .returned (.slice (some ⟨w.heap.size, 0, none⟩) 11 11) ∧ Below w.heap.size w w' ∧ ∀ k, k < 11 → w'.cell? ⟨w.heap.size, k, none⟩ = some (ptr A (perm k)) :=
  (sentinels_any A w hS).mono fun e w' ⟨h, hw'⟩ => by
    subst hw'
    refine ⟨h, (Below.refl _ _).alloc (Nat.le_refl _) _, fun k hk => ?_⟩
    match k, hk with
    | 0, _ | 1, _ | 2, _ | 3, _ | 4, _ | 5, _ | 6, _ | 7, _ | 8, _ | 9, _ | 10, _ => simp [go_sem, perm]

theorem sentinel_any (A : Nat → Addr) (p : Nat) (hp : p < 11) (w : World) (hS : Sent A w) :
    Calls Tryd.prog 56 #[.iface 141 (.pointer (some (A (perm p))))] w fun e w' => e = .returned (.int .i64 (101 + p)) ∧ Below w.heap.size w w' := by
  have HS : Hid (Sent A w) := hS
  have Hp : Hid (p < 11) := hp
  clear hS hp
  go_enter Tryd.func56, Tryd.ntmps56
  go_wp2_with (go_at_call 63; refine (sentinels_c A _ HS.out).mono ?_; rintro e w' ⟨rfl, hb, hc⟩; have HC : Hid (∀ k, k < 11 → w'.cell? ⟨w.heap.size, k, none⟩ = some (ptr A (perm k))) := hc; clear hc)
  go_loopw [4] (fun i wr => ∃ k : Nat, k ≤ p ∧ i = .int .i64 k ∧ w' = wr) (fun i _ => 11 - (intOf i).toNat)
  case atStart => exact ⟨0, by omega, rfl, rfl⟩
  case round =>
    obtain ⟨k, hk, rfl, rfl⟩ := hrel
    have hk11 : (k : Int) < 11 := by have := Hp.out; omega
    have hk0 : (0 : Int) ≤ (k : Int) := Int.natCast_nonneg _
    have hc : w'.cell? ⟨w.heap.size, k, none⟩ = some (.iface 141 (.pointer (some (A (perm k))))) := HC.out k (by omega)
    by_cases h : k = p
    · subst h
      go_wp2_with (go_at_call 64; refine (alike_same _ _).mono ?_; rintro e w'' ⟨rfl, rfl⟩)
      go_ret
      exact ⟨ret_int (by first | rfl | (simp [go_sem]; done) | (have := Hp.out; go_num)), hb⟩
    · have hs := HS.out.below hb
      have hne : A (perm p) ≠ A (perm k) := fun e => h (perm_inj p k Hp.out (by have := Hp.out; omega) (hs.apart _ _ (perm_lt _ Hp.out) (perm_lt _ (by have := Hp.out; omega)) e)).symm
      obtain ⟨ca, ta, ha⟩ := hs.held (perm p) (perm_lt _ Hp.out)
      obtain ⟨cb, tb, hb'⟩ := hs.held (perm k) (perm_lt _ (by have := Hp.out; omega))
      have he := eql_other w' hne ha hb'
      have HE : Hid (_ = _) := he
      clear he ha hb' hne hs
      go_wp2_with (go_at_call 64; refine (alike_other _ _ _ HE.out).mono ?_; rintro e w'' ⟨rfl, rfl⟩)
      go_roundw
      case rel => exact ⟨k + 1, by omega, by go_num, by first | rfl | trivial⟩
      case measure => simp [intOf]; omega

set_option maxHeartbeats 800000 in
theorem sameints_any (s t : W.Sl) (l k : List Int) (w : World) (hs : Li s l w) (ht : Li t k w) : Calls Tryd.prog 47 #[slV s, slV t] w fun e w' => e = .returned (.bool (decide (l = k))) ∧ Below w.heap.size w w' := by
  obtain ⟨hn, hm, _, hc⟩ := hs
  obtain ⟨a, n, c⟩ := s
  obtain ⟨hn', hm', _, hc'⟩ := ht
  obtain ⟨a', n', c'⟩ := t
  simp only at hn hm hc hn' hm' hc'
  subst hn hn'
  have HC : Hid (_ ∧ _) := ⟨hc, hc'⟩
  clear hc hc'
  unfold slV
  by_cases hl : l.length = k.length
  · generalize hq : decide (l = k) = q
    have hq' : (l = k) = (q = true) := by rw [← hq]; simp
    clear hq
    go_enter Tryd.func47, Tryd.ntmps47
    go_wp2
    go_loopw [5] (fun i wr => ∃ j : Nat, j ≤ l.length ∧ i = .int .i64 j ∧ (∃ q, wr = w.drewN q) ∧ ∀ m, m < j → l[m]? = k[m]?) (fun i _ => l.length - (intOf i).toNat)
    case atStart => exact ⟨0, by omega, rfl, ⟨0, rfl⟩, fun m hm => by omega⟩
    case round =>
      obtain ⟨j, hj, rfl, ⟨q', rfl⟩, hall⟩ := hrel
      by_cases hlt : j < l.length
      · obtain ⟨b, o, rfl, hb, hc⟩ := HC.out.1 (by omega)
        obtain ⟨b', o', rfl, hb', hc'⟩ := HC.out.2 (by omega)
        have g0 := hc j l[j] (List.getElem?_eq_getElem hlt)
        have g1 := hc' j k[j] (List.getElem?_eq_getElem (by omega))
        have e0 : l[j]? = some l[j] := List.getElem?_eq_getElem hlt
        have e1 : k[j]? = some k[j] := List.getElem?_eq_getElem (by omega)
        clear hc hc'
        generalize l[j] = x at *
        generalize k[j] = y at *
        by_cases hxy : x = y
        · subst hxy
          have E : Hid (∀ m, m < j + 1 → l[m]? = k[m]?) := show ∀ m, m < j + 1 → l[m]? = k[m]? from fun m hm => by
            by_cases h : m < j
            · exact hall m h
            · obtain rfl : m = j := by omega
              rw [e0, e1]
          clear hall e0 e1
          go_wp2
          go_quiet (fail)
          go_wp2
          go_roundw
          case rel => exact ⟨j + 1, by omega, by go_num, ⟨_, rfl⟩, E.out⟩
          case measure => simp [intOf]; omega
        · have hne : ¬ l = k := fun h => by rw [h, e1] at e0; exact hxy (Option.some.inj e0).symm
          have hqf : q = false := by
            cases q
            · rfl
            · exact absurd (hq'.symm.mp rfl) hne
          clear hall e0 e1 hq'
          subst hqf
          have hxy' : (x == y) = false := by simpa using hxy
          go_wp2
          go_quiet (fail)
          go_wp2
          go_ret
          exact ⟨rfl, below_drewN (Below.refl _ _) _⟩
      · obtain rfl : j = l.length := by omega
        have he : l = k := List.ext_getElem? fun m => by
          by_cases h : m < l.length
          · exact hall m h
          · rw [List.getElem?_eq_none (by omega), List.getElem?_eq_none (by omega)]
        have hqt : q = true := by rw [← hq']; exact he
        clear hall hq' he
        subst hqt
        go_wp2
        go_ret
        exact ⟨rfl, below_drewN (Below.refl _ _) _⟩
  · have hne : decide (l = k) = false := decide_eq_false fun h => hl (by rw [h])
    have hl' : ¬ (l.length : Int) = (k.length : Int) := by omega
    rw [hne]
    go_enter Tryd.func47, Tryd.ntmps47
    go_wp2
    go_ret
    exact ⟨rfl, Below.refl _ _⟩
theorem li1 (g : Nat) (m : Int) (w : World) (hl : g < w.heap.size) (hc : w.cell? ⟨g, 0, none⟩ = some (.int .i64 m)) : Li ⟨some ⟨g, 0, none⟩, 1, 1⟩ [m] w :=
  li_some rfl (by decide) (by decide) hl (fun j x hx => by
    match j with
    | 0 => simp at hx; subst hx; exact hc
    | j + 1 => simp at hx)
theorem placed_any (p : Nat) (m : Int) (w : World) : Calls Tryd.prog 16 #[.int .i64 (101 + (p : Int)), .int .i64 m] w fun e w' => e = .returned (.agg #[.int .i64 (101 + (p : Int)), .slice (some ⟨w.heap.size + 1, 0, none⟩) 1 1]) ∧ Below w.heap.size w w' ∧ w'.cell? ⟨w.heap.size + 1, 0, none⟩ = some (.int .i64 m) ∧ w.heap.size + 1 < w'.heap.size := by
  go_enter Tryd.func16, Tryd.ntmps16
  go_wp2
  exact bodyPost_ret (v := .agg #[.int .i64 (101 + (p : Int)), .slice (some ⟨w.heap.size + 1, 0, none⟩) 1 1]) (by simp [results, Tryd.results16, go_sem]) rfl ⟨rfl, ((Below.refl _ _).alloc (Nat.le_refl _) _).alloc (by simp) _, by simp [go_sem], by simp⟩

set_option maxRecDepth 100000 in
set_option maxHeartbeats 1600000 in
theorem fault_8 (A : Nat → Addr) (p : Nat) (hp : p < 11) (w : World) (hS : Sent A w) :
    Calls Tryd.prog 46 #[.iface 141 (.pointer (some (A (perm p)))), .int .i64 8] w fun e w' => e = .returned (.agg #[.int .i64 (101 + p), .slice none 0 0]) ∧ Below w.heap.size w w' := by
  have HS : Hid (Sent A w) := hS
  have Hp : Hid (p < 11) := hp
  clear hS hp
  have hT : ∀ v w, (Instr.typeAssert (.iface 141 v) 45 78 true).run Tryd.prog w = .ok (.tuple #[.pointer none, .bool false]) w := fun _ _ => by kernel_rfl
  go_enter Tryd.func46, Tryd.ntmps46
  go_wp2_with (first
    | (go_at_call 56; refine (sentinel_any A p Hp.out _ (HS.out.below ((Below.refl _ _).alloc (Nat.le_refl _) _))).mono ?_; rintro e w1 ⟨rfl, hb1⟩; have hR : Room w.heap.size 2 w1 := ⟨_, _, (hb1.block _ (by simp)).trans (heap_alloc_last w _), rfl⟩; have hb : Below w.heap.size w w1 := ((Below.refl _ _).alloc (Nat.le_refl _) _).trans (hb1.mono (by simp)); have hlt : w.heap.size < w1.heap.size := (by have := hb1.size; simp at this; omega); clear hb1)
    | (go_at_call 17; refine (bare_any _ _).mono ?_; rintro e w2 ⟨rfl, hb2⟩; obtain ⟨v0, v1, r0, r1, r2⟩ := (hR.below hb2 hlt).two; have hb := hb.trans (hb2.mono hb.size); clear hb2))
  refine bodyPost_ret (v := .agg #[.int .i64 (101 + p), .slice none 0 0]) ?_ rfl ⟨rfl, ?_⟩
  · simp [results, Tryd.results46, go_sem, r0, r1]
  · exact (hb.setCell (Nat.le_refl _) _).setCell (Nat.le_refl _) _


set_option maxRecDepth 100000 in
set_option maxHeartbeats 1600000 in
theorem fault_at (A : Nat → Addr) (p : Nat) (hp : p < 11) (q : Nat) (m : Int) (w : World) (hS : Sent A w) (hq : w.heap[q]? = some (.cells #[.int .i64 m, ptr A (perm p)] 80)) : Calls Tryd.prog 46 #[.iface 78 (.pointer (some ⟨q, 0, none⟩)), .int .i64 9] w fun e w' => ∃ g, e = .returned (.agg #[.int .i64 (101 + (p : Int)), .slice (some ⟨g, 0, none⟩) 1 1]) ∧ Below w.heap.size w w' ∧ w.heap.size ≤ g ∧ w'.cell? ⟨g, 0, none⟩ = some (.int .i64 m) := by
  have q0 : w.cell? ⟨q, 0, none⟩ = some (.int .i64 m) := by simp [World.cell?, hq]
  have q1 : w.cell? ⟨q, 1, none⟩ = some (.iface 141 (.pointer (some (A (perm p))))) := by simp [World.cell?, hq]; rfl
  have hlt : q < w.heap.size := (Array.getElem?_eq_some_iff.1 hq).1
  have HS : Hid (Sent A w) := hS
  have hT : ∀ v w, (Instr.typeAssert (.iface 78 v) 45 78 true).run Tryd.prog w = .ok (.tuple #[v, .bool true]) w := fun _ _ => by kernel_rfl
  clear hq hS
  go_enter Tryd.func46, Tryd.ntmps46
  go_wp2_with (first
    | (go_at_call 46; refine (fault_8 A p hp _ (HS.out.below ((Below.refl _ _).alloc (Nat.le_refl _) _))).mono ?_; rintro e w1 ⟨rfl, hb1⟩; have hR : Room w.heap.size 2 w1 := ⟨_, _, (hb1.block _ (by simp)).trans (heap_alloc_last w _), rfl⟩; have hb : Below w.heap.size w w1 := ((Below.refl _ _).alloc (Nat.le_refl _) _).trans (hb1.mono (by simp)); have hl1 : w.heap.size < w1.heap.size := (by have := hb1.size; simp at this; omega); clear hb1))
  have f0 : (w1.alloc (.cells #[.int .i64 (101 + (p : Int)), .slice none 0 0] 27)).cell? ⟨w1.heap.size, 0, none⟩ = some (.int .i64 (101 + (p : Int))) := by simp [go_sem]
  have f1 : (w1.alloc (.cells #[.int .i64 (101 + (p : Int)), .slice none 0 0] 27)).cell? ⟨w1.heap.size, 1, none⟩ = some (.slice none 0 0) := by simp [go_sem]
  have hb2 : Below w1.heap.size w1 (w1.alloc (.cells #[.int .i64 (101 + (p : Int)), .slice none 0 0] 27)) := (Below.refl _ _).alloc (Nat.le_refl _) _
  have hl2 : w1.heap.size < (w1.alloc (.cells #[.int .i64 (101 + (p : Int)), .slice none 0 0] 27)).heap.size := by simp
  generalize World.alloc w1 _ = w2 at *
  have hR2 := hR.below hb2 hl1
  have hbw : Below w.heap.size w w2 := hb.trans (hb2.mono hb.size)
  have p0 : w2.cell? ⟨q, 0, none⟩ = some (.int .i64 m) := (hbw.cell (p := ⟨q, 0, none⟩) hlt).trans q0
  obtain ⟨v0, v1, r0, r1, r2⟩ := hR2.two
  have hl3 : w.heap.size < w2.heap.size := Nat.lt_trans hl1 hl2
  clear hR hR2 q0 q1 hb2
  generalize w1.heap.size = b1 at *
  go_region
  all_goals
    go_wp2
    refine bodyPost_ret (v := .agg #[.int .i64 (101 + (p : Int)), .slice (some ⟨w2.heap.size, 0, none⟩) 1 1]) (by simp [results, Tryd.results46, go_sem, r0, r1, hl3]) rfl ⟨w2.heap.size, rfl, ?_, by omega, by simp [go_sem, hl3]⟩
    repeat (first | exact hbw | (refine Below.drew ?_) | (refine Below.setCell ?_ (by simp) _) | (refine Below.alloc ?_ (by simp; omega) _))

set_option maxRecDepth 100000 in
theorem faultOf_at (A : Nat → Addr) (p : Nat) (hp : p < 11) (q : Nat) (m : Int) (w : World) (hS : Sent A w) (hq : w.heap[q]? = some (.cells #[.int .i64 m, ptr A (perm p)] 80)) : Calls Tryd.prog 31 #[.iface 78 (.pointer (some ⟨q, 0, none⟩))] w fun e w' => ∃ g, e = .returned (.agg #[.int .i64 (101 + (p : Int)), .slice (some ⟨g, 0, none⟩) 1 1]) ∧ Below w.heap.size w w' ∧ w.heap.size ≤ g ∧ w'.cell? ⟨g, 0, none⟩ = some (.int .i64 m) := by
  have HS : Hid (Sent A w) := hS
  have hlt : q < w.heap.size := (Array.getElem?_eq_some_iff.1 hq).1
  have HQ : Hid (∀ o, (w.alloc o).heap[q]? = some (.cells #[.int .i64 m, ptr A (perm p)] 80)) := fun o => (Below.heap_alloc w o q hlt).trans hq
  clear hS hq
  go_enter Tryd.func31, Tryd.ntmps31
  go_wp2_with (first
    | (go_at_call 46; refine (fault_at A p hp q m _ (HS.out.below ((Below.refl _ _).alloc (Nat.le_refl _) _)) (HQ.out _)).mono ?_; rintro e w1 ⟨g, rfl, hb1, hg, hgc⟩; have hR : Room w.heap.size 2 w1 := ⟨_, _, (hb1.block _ (by simp)).trans (heap_alloc_last w _), rfl⟩; have hb : Below w.heap.size w w1 := ((Below.refl _ _).alloc (Nat.le_refl _) _).trans (hb1.mono (by simp)); clear hb1; obtain ⟨v0, v1, r0, r1, r2⟩ := hR.two))
  have hg' : w.heap.size + 1 ≤ g := by simpa using hg
  have hne : ¬ g = w.heap.size := by omega
  refine bodyPost_ret (v := .agg #[.int .i64 (101 + (p : Int)), .slice (some ⟨g, 0, none⟩) 1 1]) ?_ rfl ⟨g, rfl, ?_, by omega, ?_⟩
  · simp [results, Tryd.results31, go_sem, r0, r1]
  · exact (hb.setCell (Nat.le_refl _) _).setCell (Nat.le_refl _) _
  · rw [World.cell?_setCell_other _ _ _ _ (by intro e; exact hne (congrArg Addr.block e).symm), World.cell?_setCell_other _ _ _ _ (by intro e; exact hne (congrArg Addr.block e).symm)]
    exact hgc

set_option maxHeartbeats 800000 in
theorem sameFault_at (p : Nat) (m : Int) (g h : Nat) (w : World) (hg : w.cell? ⟨g, 0, none⟩ = some (.int .i64 m)) (hh : w.cell? ⟨h, 0, none⟩ = some (.int .i64 m)) :
    Calls Tryd.prog 32 #[.agg #[.int .i64 (101 + (p : Int)), .slice (some ⟨g, 0, none⟩) 1 1], .agg #[.int .i64 (101 + (p : Int)), .slice (some ⟨h, 0, none⟩) 1 1]] w fun e w' => e = .returned (.bool true) ∧ Below w.heap.size w w' := by
  have hb : Below w.heap.size w w := Below.refl _ _
  have HG : Hid (w.cell? ⟨g, 0, none⟩ = some (.int .i64 m)) := hg
  have HH : Hid (w.cell? ⟨h, 0, none⟩ = some (.int .i64 m)) := hh
  have lg := World.block_lt_of_cell? _ _ hg
  have lh := World.block_lt_of_cell? _ _ hh
  clear hg hh
  go_enter Tryd.func32, Tryd.ntmps32
  go_wp2_with fail
  have hb2 : Below w.heap.size w ((w.alloc (.cells #[.int .i64 (101 + (p : Int)), .slice (some ⟨g, 0, none⟩) 1 1] 27)).alloc (.cells #[.int .i64 (101 + (p : Int)), .slice (some ⟨h, 0, none⟩) 1 1] 27)) := (hb.alloc hb.size _).alloc (by simp) _
  refine (sameints_any ⟨some ⟨g, 0, none⟩, 1, 1⟩ ⟨some ⟨h, 0, none⟩, 1, 1⟩ [m] [m] _ (li1 g m _ (Nat.lt_of_lt_of_le lg hb2.size) ((hb2.cell (p := ⟨g, 0, none⟩) lg).trans HG.out)) (li1 h m _ (Nat.lt_of_lt_of_le lh hb2.size) ((hb2.cell (p := ⟨h, 0, none⟩) lh).trans HH.out))).mono ?_
  rintro e w3 ⟨rfl, hb3⟩
  rw [decide_eq_true (rfl : [m] = [m])]
  have c0 := hb3.cell (p := ⟨w.heap.size, 0, none⟩) (by simp; omega)
  have c1 := hb3.cell (p := ⟨w.heap.size + 1, 0, none⟩) (by simp)
  simp [go_sem] at c0 c1
  go_wp2
  go_ret
  exact ⟨rfl, hb2.trans (hb3.mono (by simp; omega))⟩

theorem same_at (A : Nat → Addr) (p : Nat) (hp : p < 11) (q h : Nat) (m : Int) (w : World) (hS : Sent A w) (hq : w.heap[q]? = some (.cells #[.int .i64 m, ptr A (perm p)] 80)) (hh : w.cell? ⟨h, 0, none⟩ = some (.int .i64 m)) :
    Calls Tryd.prog 15 #[.iface 78 (.pointer (some ⟨q, 0, none⟩)), .agg #[.int .i64 (101 + (p : Int)), .slice (some ⟨h, 0, none⟩) 1 1]] w fun e w' => e = .returned (.bool true) ∧ Below w.heap.size w w' := by
  have HS : Hid (Sent A w) := hS
  have hlt : q < w.heap.size := (Array.getElem?_eq_some_iff.1 hq).1
  have lh := World.block_lt_of_cell? _ _ hh
  have HQ : Hid (∀ o, (w.alloc o).heap[q]? = some (.cells #[.int .i64 m, ptr A (perm p)] 80)) := fun o => (Below.heap_alloc w o q hlt).trans hq
  have HH : Hid (w.cell? ⟨h, 0, none⟩ = some (.int .i64 m)) := hh
  clear hS hq hh
  go_enter Tryd.func15, Tryd.ntmps15
  go_wp2_with (first
    | (go_at_call 31; refine (faultOf_at A p hp q m _ (HS.out.below ((Below.refl _ _).alloc (Nat.le_refl _) _)) (HQ.out _)).mono ?_; rintro e w1 ⟨g, rfl, hb1, hg, hgc⟩; have hl1 : w.heap.size < w1.heap.size := (by have := hb1.size; simp at this; omega); have x0 := hb1.cell (p := ⟨w.heap.size, 0, none⟩) (by simp); have x1 := hb1.cell (p := ⟨w.heap.size, 1, none⟩) (by simp); simp [go_sem] at x0 x1; have hb : Below w.heap.size w w1 := ((Below.refl _ _).alloc (Nat.le_refl _) _).trans (hb1.mono (by simp)); have HGC : Hid (w1.cell? ⟨g, 0, none⟩ = some (.int .i64 m)) := hgc; clear hb1 hg hgc))
  have lg := World.block_lt_of_cell? _ _ HGC.out
  have hbn : Below w1.heap.size w1 (w1.alloc (.cells #[.int .i64 (101 + (p : Int)), .slice (some ⟨g, 0, none⟩) 1 1] 27)) := (Below.refl _ _).alloc (Nat.le_refl _) _
  refine (sameFault_at p m g h _ ((hbn.cell (p := ⟨g, 0, none⟩) lg).trans HGC.out) ((hbn.cell (p := ⟨h, 0, none⟩) (Nat.lt_trans lh hl1)).trans ((hb.cell (p := ⟨h, 0, none⟩) lh).trans HH.out))).mono ?_
  rintro e w2 ⟨rfl, hb2⟩
  go_wp2
  go_ret
  exact ⟨rfl, hb.trans ((hbn.trans (hb2.mono (by simp))).mono hb.size)⟩
end Go.Proofs.YtibohlbkkaghkaaDoor

/- wmo: Check of operations that can be, in an order that names each once, where each hart goes as its list does. -/
namespace Go.Proofs.YtibohlbkkaghkaaDoor
open Go.ChangeShapes Go.WideShapes Go.ChangeAt Go.RowKit Go.Maps
set_option linter.unusedVariables false
set_option linter.unusedSimpArgs false

theorem wfault_any (z : Addr) (p : Int) (p0 : 1 ≤ p) (p1 : p ≤ 5000) (w : World) : Calls Tryd.prog 26 #[.iface 141 (.pointer (some z)), .int .i64 p] w fun e w' => e = .returned (.iface 78 (.pointer (some ⟨w.heap.size, 0, none⟩))) ∧ w' = w.alloc (.cells #[.int .i64 (p - 1), .iface 141 (.pointer (some z))] 80) := by
  go_enter Tryd.func26, Tryd.ntmps26
  go_wp2
  go_ret
  exact ⟨rfl, rfl⟩
/-- What Check is given, and what comes of it. -/
structure Ck (b K KC : Nat) (a : Nat → Option Addr) (n c : Nat → Nat) (x : Nat → Nat → W.Oz) (S : Nat → Nat → S3) (oa : Option Addr) (N : Nat) (r : Nat → Nat × Nat) (cb : Nat) (A : Nat → Addr) (w : World) : Prop where
  hf : Hf b K a n c x S w
  v : W.Vd K n x
  os : Os oa N r w
  or_ : W.Or K n x N r
  it : ∀ h, h < K → W.InT (W.plc r N h) (n h)
  fz : Fz cb w
  st : Sent A w
  nl : N ≤ 4096
  fr : ∀ p, p < N + 1 → W.rds (W.stp x S n (W.plc r N) K N p).o.k = true → ∀ k, k < (W.stp x S n (W.plc r N) K N p).o.sz.toNat → W.FrO (W.stp x S n (W.plc r N) K N) (N + 1) ((W.stp x S n (W.plc r N) K N p).fr k) ((W.stp x S n (W.plc r N) K N p).o.ad + k)
  lr : ∀ p, p < N + 1 → 0 ≤ (W.stp x S n (W.plc r N) K N p).lr ∧ (W.stp x S n (W.plc r N) K N p).lr < ((N + 1 : Nat) : Int)
  l4 : ∀ p, p < N + 1 → 0 < (W.stp x S n (W.plc r N) K N p).lr → (W.stp x S n (W.plc r N) K N (W.stp x S n (W.plc r N) K N p).lr.toNat).o.ad + 4 ≤ 4294967296
theorem W.stp_byt (x : Nat → Nat → W.Oz) (S : Nat → Nat → S3) (n : Nat → Nat) (pl : Nat → Nat → Int) (K N : Nat) (v : W.Vd K n x) (p : Nat) : W.Byt (W.stp x S n pl K N p).o := by
  unfold W.stp
  rw [W.fol_o]
  exact W.sts_byt x S n pl K (fun j hj i hi => W.byt_of _ ((v.s j hj).b i hi) ((v.s j hj).a0 i hi) ((v.s j hj).a1 i hi)) p
set_option maxRecDepth 10000 in
set_option maxHeartbeats 1600000 in
theorem check_ok (b K KC : Nat) (a : Nat → Option Addr) (n c : Nat → Nat) (x : Nat → Nat → W.Oz) (S : Nat → Nat → S3) (oa : Option Addr) (N oc : Nat) (r : Nat → Nat × Nat) (cb : Nat) (A : Nat → Addr) (w : World) (h : Ck b K KC a n c x S oa N r cb A w) (m1 : Nat) (m1h : m1 = N + 1) (m2 : Nat) (m2h : m2 = N + 1) (hok : ∀ p, p < m1 → W.okR (W.stp x S n (W.plc r N) K N) p) (hbad : m1 < N + 1 → ¬ W.okR (W.stp x S n (W.plc r N) K N) m1) (hok2 : ∀ p, p < m2 → W.okP (W.stp x S n (W.plc r N) K N) p) (hbad2 : m2 < N + 1 → ¬ W.okP (W.stp x S n (W.plc r N) K N) m2) :
    Calls Tryd.prog 14 #[.slice (some ⟨b, 0, none⟩) K KC, .slice oa N oc, fvZ cb] w fun e w' => e = .returned .nilIface ∧ Below w.heap.size w w' := by
  have HH : Hid (Calls _ _ _ _ _ ∧ _) := ⟨valid_any b K KC a n c x w h.hf.hs h.v, h⟩
  have nl := h.nl
  have HM : Hid (_ ∧ _ ∧ _ ∧ _) := ⟨hok, hbad, hok2, hbad2⟩
  clear hok hbad hok2 hbad2
  clear h
  generalize hFV : fvZ cb = FV at *
  go_enter Tryd.func14, Tryd.ntmps14
  go_wp2_with (fail)
  refine HH.out.1.mono ?_
  rintro e w1 ⟨rfl, b1⟩
  have hl := lay_any b K KC a n c x oa N oc r w1 (HH.out.2.hf.hs.below b1) HH.out.2.v (HH.out.2.os.below b1) HH.out.2.or_
  have HL : Hid (Calls _ _ _ _ _) := hl
  clear hl
  go_wp2_with (fail)
  refine HL.out.mono ?_
  rintro e w2 ⟨⟨PB, pb, rfl, hP⟩, b2⟩
  have B2 := b1.trans (b2.mono b1.size)
  have ht := turned_any b K KC a n c x w1.heap.size PB pb (W.plc r N) w2 (HH.out.2.hf.hs.below B2) HH.out.2.v hP HH.out.2.it
  have hs := stepsOf_any b K KC a n c x S w1.heap.size PB N pb (W.plc r N) w2 (HH.out.2.hf.below B2) HH.out.2.v hP (fun h i => W.plc_bd r N h i) nl
  have HT : Hid (Calls _ _ _ _ _ ∧ _ ∧ _) := ⟨ht, hs, B2⟩
  clear ht hs hP b1 b2 B2 HL
  go_wp2_with (fail)
  refine HT.out.1.mono ?_
  rintro e w3 ⟨rfl, rfl⟩
  go_wp2_with (fail)
  refine HT.out.2.1.mono ?_
  rintro e w4 ⟨⟨sb, rfl, hsb, hS⟩, b4⟩
  have B4 := HT.out.2.2.trans (b4.mono HT.out.2.2.size)
  have hmr := misread_any sb (N + 1) cb _ m1 (by omega) w4 hS (by omega) (HH.out.2.fz.below B4) (fun p _ => W.stp_byt x S n _ K N HH.out.2.v p) HH.out.2.fr HM.out.1 HM.out.2.1
  rw [hFV] at hmr
  have hpa := fun w' (hb : Below w4.heap.size w4 w') => parted_any sb (N + 1) _ m2 (by omega) w' (hS.below hb) (by omega) (fun p _ => W.stp_byt x S n _ K N HH.out.2.v p) HH.out.2.lr HH.out.2.l4 HM.out.2.2.1 HM.out.2.2.2
  have HX : Hid (Calls _ _ _ _ _ ∧ _ ∧ _) := ⟨hmr, hpa, B4⟩
  clear hmr hpa hS b4 B4 HT hsb
  have e1 : ¬ m1 < N + 1 := by omega
  have e2 : ¬ m2 < N + 1 := by omega
  rw [if_neg e1] at HX
  simp only [if_neg e2] at HX
  go_wp2_with (fail)
  refine HX.out.1.mono ?_
  rintro e w5 ⟨rfl, b5⟩
  go_wp2_with (fail)
  refine (HX.out.2.1 _ b5).mono ?_
  rintro e w6 ⟨rfl, b6⟩
  have B6 := HX.out.2.2.trans ((b5.trans (b6.mono b5.size)).mono HX.out.2.2.size)
  clear b5 b6 HX
  go_wp2
  go_ret
  exact ⟨rfl, B6⟩
set_option maxRecDepth 10000 in
set_option maxHeartbeats 1600000 in
theorem check_val (b K KC : Nat) (a : Nat → Option Addr) (n c : Nat → Nat) (x : Nat → Nat → W.Oz) (S : Nat → Nat → S3) (oa : Option Addr) (N oc : Nat) (r : Nat → Nat × Nat) (cb : Nat) (A : Nat → Addr) (w : World) (h : Ck b K KC a n c x S oa N r cb A w) (m1 : Nat) (m1h : 1 ≤ m1 ∧ m1 < N + 1) (m2 : Nat) (m2h : m2 ≤ N + 1) (hok : ∀ p, p < m1 → W.okR (W.stp x S n (W.plc r N) K N) p) (hbad : m1 < N + 1 → ¬ W.okR (W.stp x S n (W.plc r N) K N) m1) (hok2 : ∀ p, p < m2 → W.okP (W.stp x S n (W.plc r N) K N) p) (hbad2 : m2 < N + 1 → ¬ W.okP (W.stp x S n (W.plc r N) K N) m2) :
    Calls Tryd.prog 14 #[.slice (some ⟨b, 0, none⟩) K KC, .slice oa N oc, fvZ cb] w fun e w' => (∃ q, e = .returned (.iface 78 (.pointer (some ⟨q, 0, none⟩))) ∧ w'.heap[q]? = some (.cells #[.int .i64 ((m1 : Int) - 1), ptr A 1] 80)) ∧ Below w.heap.size w w' := by
  have HH : Hid (Calls _ _ _ _ _ ∧ _) := ⟨valid_any b K KC a n c x w h.hf.hs h.v, h⟩
  have nl := h.nl
  have HM : Hid (_ ∧ _ ∧ _ ∧ _) := ⟨hok, hbad, hok2, hbad2⟩
  clear hok hbad hok2 hbad2
  clear h
  generalize hFV : fvZ cb = FV at *
  go_enter Tryd.func14, Tryd.ntmps14
  go_wp2_with (fail)
  refine HH.out.1.mono ?_
  rintro e w1 ⟨rfl, b1⟩
  have hl := lay_any b K KC a n c x oa N oc r w1 (HH.out.2.hf.hs.below b1) HH.out.2.v (HH.out.2.os.below b1) HH.out.2.or_
  have HL : Hid (Calls _ _ _ _ _) := hl
  clear hl
  go_wp2_with (fail)
  refine HL.out.mono ?_
  rintro e w2 ⟨⟨PB, pb, rfl, hP⟩, b2⟩
  have B2 := b1.trans (b2.mono b1.size)
  have ht := turned_any b K KC a n c x w1.heap.size PB pb (W.plc r N) w2 (HH.out.2.hf.hs.below B2) HH.out.2.v hP HH.out.2.it
  have hs := stepsOf_any b K KC a n c x S w1.heap.size PB N pb (W.plc r N) w2 (HH.out.2.hf.below B2) HH.out.2.v hP (fun h i => W.plc_bd r N h i) nl
  have HT : Hid (Calls _ _ _ _ _ ∧ _ ∧ _) := ⟨ht, hs, B2⟩
  clear ht hs hP b1 b2 B2 HL
  go_wp2_with (fail)
  refine HT.out.1.mono ?_
  rintro e w3 ⟨rfl, rfl⟩
  go_wp2_with (fail)
  refine HT.out.2.1.mono ?_
  rintro e w4 ⟨⟨sb, rfl, hsb, hS⟩, b4⟩
  have B4 := HT.out.2.2.trans (b4.mono HT.out.2.2.size)
  have hmr := misread_any sb (N + 1) cb _ m1 (by omega) w4 hS (by omega) (HH.out.2.fz.below B4) (fun p _ => W.stp_byt x S n _ K N HH.out.2.v p) HH.out.2.fr HM.out.1 HM.out.2.1
  rw [hFV] at hmr
  have hpa := fun w' (hb : Below w4.heap.size w4 w') => parted_any sb (N + 1) _ m2 (by omega) w' (hS.below hb) (by omega) (fun p _ => W.stp_byt x S n _ K N HH.out.2.v p) HH.out.2.lr HH.out.2.l4 HM.out.2.2.1 HM.out.2.2.2
  have HX : Hid (Calls _ _ _ _ _ ∧ _ ∧ _) := ⟨hmr, hpa, B4⟩
  clear hmr hpa hS b4 B4 HT hsb
  rw [if_pos m1h.2] at HX
  have mp : (0 : Int) < (m1 : Int) := by omega
  go_wp2_with (fail)
  refine HX.out.1.mono ?_
  rintro e WX ⟨rfl, b5⟩
  have BX := HX.out.2.2.trans (b5.mono HX.out.2.2.size)
  clear b5 HX
  have sg := (HH.out.2.st.below BX).cell 1 (by decide)
  have fl := fun w' => wfault_any (A 1) (m1 : Int) (by omega) (by omega) w'
  have HQ : Hid (_ ∧ _) := ⟨fl, BX⟩
  clear fl BX
  go_wp2_with (fail)
  refine (HQ.out.1 _).mono ?_
  rintro e w7 ⟨rfl, rfl⟩
  have hl := heap_alloc_last WX (.cells #[.int .i64 ((m1 : Int) - 1), .iface 141 (.pointer (some (A 1)))] 80)
  have B7 := HQ.out.2.alloc HQ.out.2.size (.cells #[.int .i64 ((m1 : Int) - 1), .iface 141 (.pointer (some (A 1)))] 80)
  have HW : Hid (_ ∧ _) := ⟨hl, B7⟩
  clear hl B7 HQ
  go_wp2
  go_ret
  exact ⟨⟨_, rfl, HW.out.1⟩, HW.out.2⟩
set_option maxRecDepth 10000 in
set_option maxHeartbeats 1600000 in
theorem check_ord (b K KC : Nat) (a : Nat → Option Addr) (n c : Nat → Nat) (x : Nat → Nat → W.Oz) (S : Nat → Nat → S3) (oa : Option Addr) (N oc : Nat) (r : Nat → Nat × Nat) (cb : Nat) (A : Nat → Addr) (w : World) (h : Ck b K KC a n c x S oa N r cb A w) (m1 : Nat) (m1h : m1 = N + 1) (m2 : Nat) (m2h : 1 ≤ m2 ∧ m2 < N + 1) (hok : ∀ p, p < m1 → W.okR (W.stp x S n (W.plc r N) K N) p) (hbad : m1 < N + 1 → ¬ W.okR (W.stp x S n (W.plc r N) K N) m1) (hok2 : ∀ p, p < m2 → W.okP (W.stp x S n (W.plc r N) K N) p) (hbad2 : m2 < N + 1 → ¬ W.okP (W.stp x S n (W.plc r N) K N) m2) :
    Calls Tryd.prog 14 #[.slice (some ⟨b, 0, none⟩) K KC, .slice oa N oc, fvZ cb] w fun e w' => (∃ q, e = .returned (.iface 78 (.pointer (some ⟨q, 0, none⟩))) ∧ w'.heap[q]? = some (.cells #[.int .i64 ((m2 : Int) - 1), ptr A 0] 80)) ∧ Below w.heap.size w w' := by
  have HH : Hid (Calls _ _ _ _ _ ∧ _) := ⟨valid_any b K KC a n c x w h.hf.hs h.v, h⟩
  have nl := h.nl
  have HM : Hid (_ ∧ _ ∧ _ ∧ _) := ⟨hok, hbad, hok2, hbad2⟩
  clear hok hbad hok2 hbad2
  clear h
  generalize hFV : fvZ cb = FV at *
  go_enter Tryd.func14, Tryd.ntmps14
  go_wp2_with (fail)
  refine HH.out.1.mono ?_
  rintro e w1 ⟨rfl, b1⟩
  have hl := lay_any b K KC a n c x oa N oc r w1 (HH.out.2.hf.hs.below b1) HH.out.2.v (HH.out.2.os.below b1) HH.out.2.or_
  have HL : Hid (Calls _ _ _ _ _) := hl
  clear hl
  go_wp2_with (fail)
  refine HL.out.mono ?_
  rintro e w2 ⟨⟨PB, pb, rfl, hP⟩, b2⟩
  have B2 := b1.trans (b2.mono b1.size)
  have ht := turned_any b K KC a n c x w1.heap.size PB pb (W.plc r N) w2 (HH.out.2.hf.hs.below B2) HH.out.2.v hP HH.out.2.it
  have hs := stepsOf_any b K KC a n c x S w1.heap.size PB N pb (W.plc r N) w2 (HH.out.2.hf.below B2) HH.out.2.v hP (fun h i => W.plc_bd r N h i) nl
  have HT : Hid (Calls _ _ _ _ _ ∧ _ ∧ _) := ⟨ht, hs, B2⟩
  clear ht hs hP b1 b2 B2 HL
  go_wp2_with (fail)
  refine HT.out.1.mono ?_
  rintro e w3 ⟨rfl, rfl⟩
  go_wp2_with (fail)
  refine HT.out.2.1.mono ?_
  rintro e w4 ⟨⟨sb, rfl, hsb, hS⟩, b4⟩
  have B4 := HT.out.2.2.trans (b4.mono HT.out.2.2.size)
  have hmr := misread_any sb (N + 1) cb _ m1 (by omega) w4 hS (by omega) (HH.out.2.fz.below B4) (fun p _ => W.stp_byt x S n _ K N HH.out.2.v p) HH.out.2.fr HM.out.1 HM.out.2.1
  rw [hFV] at hmr
  have hpa := fun w' (hb : Below w4.heap.size w4 w') => parted_any sb (N + 1) _ m2 (by omega) w' (hS.below hb) (by omega) (fun p _ => W.stp_byt x S n _ K N HH.out.2.v p) HH.out.2.lr HH.out.2.l4 HM.out.2.2.1 HM.out.2.2.2
  have HX : Hid (Calls _ _ _ _ _ ∧ _ ∧ _) := ⟨hmr, hpa, B4⟩
  clear hmr hpa hS b4 B4 HT hsb
  have e1 : ¬ m1 < N + 1 := by omega
  rw [if_neg e1] at HX
  simp only [if_pos m2h.2] at HX
  have mp : (0 : Int) < (m2 : Int) := by omega
  go_wp2_with (fail)
  refine HX.out.1.mono ?_
  rintro e w5 ⟨rfl, b5⟩
  go_wp2_with (fail)
  refine (HX.out.2.1 _ b5).mono ?_
  rintro e WX ⟨rfl, b6⟩
  have BX := HX.out.2.2.trans ((b5.trans (b6.mono b5.size)).mono HX.out.2.2.size)
  clear b5 b6 HX
  have sg := (HH.out.2.st.below BX).cell 0 (by decide)
  have fl := fun w' => wfault_any (A 0) (m2 : Int) (by omega) (by omega) w'
  have HQ : Hid (_ ∧ _) := ⟨fl, BX⟩
  clear fl BX
  go_wp2_with (fail)
  refine (HQ.out.1 _).mono ?_
  rintro e w7 ⟨rfl, rfl⟩
  have hl := heap_alloc_last WX (.cells #[.int .i64 ((m2 : Int) - 1), .iface 141 (.pointer (some (A 0)))] 80)
  have B7 := HQ.out.2.alloc HQ.out.2.size (.cells #[.int .i64 ((m2 : Int) - 1), .iface 141 (.pointer (some (A 0)))] 80)
  have HW : Hid (_ ∧ _) := ⟨hl, B7⟩
  clear hl B7 HQ
  go_wp2
  go_ret
  exact ⟨⟨_, rfl, HW.out.1⟩, HW.out.2⟩
end Go.Proofs.YtibohlbkkaghkaaDoor

/- wmo: what can be reckoned out of operations that are written out. -/
namespace Go.Proofs.YtibohlbkkaghkaaDoor
open Go.ChangeShapes Go.WideShapes Go.ChangeAt Go.RowKit Go.Maps
set_option linter.unusedVariables false
set_option linter.unusedSimpArgs false

namespace W
def ozM (l : List Opr) (j : Nat) : Oz := oz0 (l.getD j (op3 0 0 0))
def xM (LL : List (List Opr)) (h : Nat) : Nat → Oz := ozM (LL.getD h [])
def nM (LL : List (List Opr)) (h : Nat) : Nat := (LL.getD h []).length
def rM (rs : List (Nat × Nat)) (j : Nat) : Nat × Nat := rs.getD j (0, 0)
def sM : Nat → Nat → S3 := fun _ _ => S3.nil
def stM (LL : List (List Opr)) (rs : List (Nat × Nat)) : Nat → StR := stp (xM LL) sM (nM LL) (plc (rM rs) rs.length) LL.length rs.length
def fitBb (o : Opr) : Bool := ((o.k == 1 || o.k == 2) && (o.sz == 1 || (o.sz == 2 && o.ad % 2 == 0) || (o.sz == 4 && o.ad % 4 == 0))) || (o.k == 3 && o.sz == 4 && o.ad % 4 == 0) || (o.k == 4 && o.sz == 0)
theorem fitBb_ok (o : Opr) (h : fitBb o = true) : FitB o := by
  unfold fitBb at h
  unfold FitB
  simp only [Bool.or_eq_true, Bool.and_eq_true, beq_iff_eq] at h
  rcases h with (⟨h1, h2⟩ | ⟨⟨h1, h2⟩, h3⟩) | ⟨h1, h2⟩
  · left
    refine ⟨h1, ?_⟩
    rcases h2 with (h2 | h2) | h2
    · exact Or.inl h2
    · exact Or.inr (Or.inl h2)
    · exact Or.inr (Or.inr h2)
  · exact Or.inr (Or.inl ⟨h1, h2, h3⟩)
  · exact Or.inr (Or.inr ⟨h1, h2⟩)
def fitPb (x : Nat → Oz) (j : Nat) : Bool := !(x j).o.pr || ((x j).o.k == 1 && (x j).o.sz == 4) || ((x j).o.k == 2 && (x j).o.sz == 4 && decide (0 ≤ pairO x j) && (x (pairO x j).toNat).o.ad == (x j).o.ad)
theorem fitPb_ok (x : Nat → Oz) (j : Nat) (h : fitPb x j = true) (hp : (x j).o.pr = true) : FitP x j := by
  unfold fitPb at h
  unfold FitP
  rw [hp] at h
  simp only [Bool.not_true, Bool.false_or, Bool.or_eq_true, Bool.and_eq_true, beq_iff_eq, decide_eq_true_eq] at h
  rcases h with h | ⟨⟨⟨h1, h2⟩, h3⟩, h4⟩
  · exact Or.inl h
  · exact Or.inr ⟨h1, h2, h3, h4⟩
def all (n : Nat) (p : Nat → Bool) : Bool := (List.range n).all p
theorem all_ok {n : Nat} {p : Nat → Bool} (h : all n p = true) (j : Nat) (hj : j < n) : p j = true := List.all_eq_true.1 h j (List.mem_range.2 hj)
def vdB (LL : List (List Opr)) : Bool := decide (LL.length ≤ 64) && decide (tot (nM LL) LL.length ≤ 4096) && all LL.length fun h => all (nM LL h) fun j => fitBb (xM LL h j).o && decide (0 ≤ (xM LL h j).o.ad) && decide ((xM LL h j).o.ad < 4294967296) && fitPb (xM LL h) j
theorem vdB_ok (LL : List (List Opr)) (h : vdB LL = true) : Vd LL.length (nM LL) (xM LL) := by
  unfold vdB at h
  simp only [Bool.and_eq_true, decide_eq_true_eq] at h
  obtain ⟨⟨h1, h2⟩, h3⟩ := h
  have h4 := fun i hi j hj => all_ok (all_ok h3 i hi) j hj
  simp only [Bool.and_eq_true, decide_eq_true_eq] at h4
  refine ⟨h1, h2, fun i hi => ⟨fun j hj => fitBb_ok _ (h4 i hi j hj).1.1.1, fun j hj => (h4 i hi j hj).1.1.2, fun j hj => (h4 i hi j hj).1.2, fun j hj d hd => ?_, fun j hj d hd => ?_, fun j hj d hd => ?_, fun j hj hp => fitPb_ok _ _ (h4 i hi j hj).2 hp⟩⟩
  · exact absurd hd (by simp [xM, ozM, oz0])
  · exact absurd hd (by simp [xM, ozM, oz0])
  · exact absurd hd (by simp [xM, ozM, oz0])
def orB (LL : List (List Opr)) (rs : List (Nat × Nat)) : Bool := (tot (fun h => cnt (xM LL h) (nM LL h)) LL.length == rs.length) && all rs.length fun j => decide ((rM rs j).1 < LL.length) && decide ((rM rs j).2 < nM LL (rM rs j).1) && ((xM LL (rM rs j).1 (rM rs j).2).o.k != 4) && (plc (rM rs) j (rM rs j).1 (rM rs j).2 == 0)
theorem orB_ok (LL : List (List Opr)) (rs : List (Nat × Nat)) (h : orB LL rs = true) : Or LL.length (nM LL) (xM LL) rs.length (rM rs) := by
  unfold orB at h
  rw [Bool.and_eq_true] at h
  have h4 := fun j hj => all_ok h.2 j hj
  simp only [Bool.and_eq_true, decide_eq_true_eq, bne_iff_ne, beq_iff_eq] at h4
  exact ⟨fun j hj => (h4 j hj).1.1.1, fun j hj => (h4 j hj).1.1.2, fun j hj => (h4 j hj).1.2, fun j hj => (h4 j hj).2, by simpa using h.1⟩
def itB (LL : List (List Opr)) (rs : List (Nat × Nat)) : Bool := all LL.length fun h => all (nM LL h) fun j => (plc (rM rs) rs.length h j == 0) || decide (mx (plc (rM rs) rs.length h) j ≤ plc (rM rs) rs.length h j)
theorem itB_ok (LL : List (List Opr)) (rs : List (Nat × Nat)) (hh : itB LL rs = true) (h : Nat) (hl : h < LL.length) : InT (plc (rM rs) rs.length h) (nM LL h) := fun j hj => by
  have := all_ok (all_ok hh h hl) j hj
  simp only [Bool.or_eq_true, beq_iff_eq, decide_eq_true_eq] at this
  exact this
def frO (q : Nat → StR) (M : Nat) (F A : Int) : Bool := (F == 0) || (decide (0 < F) && decide (F < (M : Int)) && decide (0 ≤ (q F.toNat).o.ad) && decide ((q F.toNat).o.ad ≤ A) && decide (A < (q F.toNat).o.ad + 4))
def frB (q : Nat → StR) (M : Nat) : Bool := all M fun p => !(rds (q p).o.k) || all (q p).o.sz.toNat fun k => frO q M ((q p).fr k) ((q p).o.ad + k)
theorem frB_ok (q : Nat → StR) (M : Nat) (h : frB q M = true) (hv : ∀ p, 0 ≤ (q p).o.vl ∧ (q p).o.vl < 4294967296) (p : Nat) (hp : p < M) (hr : rds (q p).o.k = true) (k : Nat) (hk : k < (q p).o.sz.toNat) : FrO q M ((q p).fr k) ((q p).o.ad + k) := by
  have h1 := all_ok h p hp
  rw [hr] at h1
  have h2 := all_ok (show all (q p).o.sz.toNat _ = true from by simpa using h1) k hk
  unfold frO at h2
  simp only [Bool.or_eq_true, Bool.and_eq_true, beq_iff_eq, decide_eq_true_eq] at h2
  rcases h2 with h2 | ⟨⟨⟨⟨a, b⟩, c⟩, d⟩, e⟩
  · exact Or.inl h2
  · exact Or.inr ⟨a, b, c, d, e, (hv _).1, (hv _).2⟩
def lrB (q : Nat → StR) (M : Nat) : Bool := all M fun p => decide (0 ≤ (q p).lr) && decide ((q p).lr < (M : Int)) && (!decide (0 < (q p).lr) || decide ((q (q p).lr.toNat).o.ad + 4 ≤ 4294967296))
def okRb (q : Nat → StR) (p : Nat) : Bool := !(rds (q p).o.k) || ((q p).o.gt == rdV q p (q p).o.sz.toNat)
theorem okRb_iff (q : Nat → StR) (p : Nat) : okRb q p = true ↔ okR q p := by
  unfold okRb okR
  cases rds (q p).o.k <;> simp
def okPb (q : Nat → StR) (p : Nat) : Bool := !decide (0 < (q p).lr) || !(ovB (wrt q p) (q (q p).lr.toNat) 4)
theorem okPb_iff (q : Nat → StR) (p : Nat) : okPb q p = true ↔ okP q p := by
  unfold okPb okP
  by_cases h : 0 < (q p).lr <;> simp [h]
/-- The first m are as they have to be; the next one, if there is one, is not. -/
def upB (f : Nat → Bool) (m M : Nat) : Bool := all m f && (!decide (m < M) || !(f m))
theorem upB_1 {f : Nat → Bool} {m M : Nat} (h : upB f m M = true) (p : Nat) (hp : p < m) : f p = true := by
  unfold upB at h
  rw [Bool.and_eq_true] at h
  exact all_ok h.1 p hp
theorem upB_2 {f : Nat → Bool} {m M : Nat} (h : upB f m M = true) (hm : m < M) : ¬ f m = true := by
  unfold upB at h
  rw [Bool.and_eq_true] at h
  simpa [hm] using h.2
/-- All at once. -/
def ckB (LL : List (List Opr)) (rs : List (Nat × Nat)) (m1 m2 : Nat) : Bool := vdB LL && orB LL rs && itB LL rs && decide (rs.length ≤ 4096) && frB (stM LL rs) (rs.length + 1) && lrB (stM LL rs) (rs.length + 1) && upB (okRb (stM LL rs)) m1 (rs.length + 1) && upB (okPb (stM LL rs)) m2 (rs.length + 1)
theorem stp_P (P : Opr → Prop) (x : Nat → Nat → Oz) (S : Nat → Nat → S3) (n : Nat → Nat) (pl : Nat → Nat → Int) (K N : Nat) (h0 : P (op3 0 0 0)) (hx : ∀ h i, P (x h i).o) (p : Nat) : P (stp x S n pl K N p).o := by
  have hin : ∀ (x : Nat → Oz) (S : Nat → S3) (pl : Nat → Int) (h : Int) (q : Nat → StR), (∀ p, P (q p).o) → (∀ i, P (x i).o) → ∀ i p, P (innS x S pl h q i p).o := fun x S pl h q hq hx i => by
    induction i with
    | zero => exact hq
    | succ i ih =>
      intro p
      unfold innS
      split
      · exact ih p
      · unfold updQ
        split
        · exact hx i
        · exact ih p
  have hst : ∀ h p, P (sts x S n pl h p).o := fun h => by
    induction h with
    | zero => exact fun p => h0
    | succ h ih =>
      intro p
      unfold sts
      rw [fol_o]
      exact hin _ _ _ _ _ ih (hx h) _ p
  unfold stp
  rw [fol_o]
  exact hst K p
end W
/-- Harts in memory, written out: an outer block of slices, a block of operations each. -/
theorem hf_rows {w : World} (b : Nat) (LL : List (List W.Opr)) (gs : Nat → Nat) (T : TypeId) (hb : b < w.heap.size) (ho : ∀ h, h < LL.length → w.cell? ⟨b, h, none⟩ = some (.slice (some ⟨gs h, 0, none⟩) (W.nM LL h) (W.nM LL h))) (hi : ∀ h, h < LL.length → w.heap[gs h]? = some (.cells (opsR (LL.getD h [])) T)) :
    Hf b LL.length (fun h => some ⟨gs h, 0, none⟩) (W.nM LL) (W.nM LL) (W.xM LL) W.sM w := by
  have hx : ∀ h j o, (LL.getD h [])[j]? = some o → W.xM LL h j = W.oz0 o := fun h j o e => by
    unfold W.xM W.ozM
    rw [List.getD_eq_getElem?_getD, e]
    rfl
  have how := fun h hh => ow_row (LL.getD h []) T (hi h hh) (W.xM LL h) (hx h)
  refine ⟨⟨hb, ho, fun h hh => (how h hh).ol⟩, fun h hh h0 => ⟨gs h, 0, rfl, (how h hh).b.lt, fun j hj k hk => ?_⟩⟩
  have e := (how h hh).b.c (j * 13 + k) (by have : j < (LL.getD h []).length := hj; omega)
  rw [Nat.zero_add, e]
  have m : (j * 13 + k) % 13 = k := by omega
  have d : (j * 13 + k) / 13 = j := by omega
  have k3 : k % 13 = k := by omega
  unfold opF W.sM W.oz0
  rw [m, d, k3]
end Go.Proofs.YtibohlbkkaghkaaDoor

/- wmo: Check of operations that are written out; the laws' first. -/
namespace Go.Proofs.YtibohlbkkaghkaaDoor
open Go.ChangeShapes Go.WideShapes Go.ChangeAt Go.RowKit Go.Maps
set_option linter.unusedVariables false
set_option linter.unusedSimpArgs false

/-- Refs in memory, written out. -/
theorem os_rows {w : World} (ob : Nat) (rs : List (Nat × Nat)) (hb : ob < w.heap.size) (h : ∀ j, j < rs.length → w.cell? ⟨ob, j * 2, none⟩ = some (.int .i64 ((W.rM rs j).1 : Int)) ∧ w.cell? ⟨ob, j * 2 + 1, none⟩ = some (.int .i64 ((W.rM rs j).2 : Int))) : Os (some ⟨ob, 0, none⟩) rs.length (W.rM rs) w := ⟨fun _ => ⟨ob, rfl, hb, h⟩⟩
/-- What lies in memory for a Check of what is written out. -/
structure Mem (b ob cb : Nat) (LL : List (List W.Opr)) (rs : List (Nat × Nat)) (gs : Nat → Nat) (A : Nat → Addr) (w : World) : Prop where
  bl : b < w.heap.size
  o : ∀ h, h < LL.length → w.cell? ⟨b, h, none⟩ = some (.slice (some ⟨gs h, 0, none⟩) (W.nM LL h) (W.nM LL h))
  i : ∀ h, h < LL.length → w.heap[gs h]? = some (.cells (opsR (LL.getD h [])) 38)
  ol : ob < w.heap.size
  r : ∀ j, j < rs.length → w.cell? ⟨ob, j * 2, none⟩ = some (.int .i64 ((W.rM rs j).1 : Int)) ∧ w.cell? ⟨ob, j * 2 + 1, none⟩ = some (.int .i64 ((W.rM rs j).2 : Int))
  f : Fz cb w
  s : Sent A w
theorem Mem.ck {b ob cb : Nat} {LL : List (List W.Opr)} {rs : List (Nat × Nat)} {gs : Nat → Nat} {A : Nat → Addr} {w : World} (KC : Nat) (m1 m2 : Nat) (h : Mem b ob cb LL rs gs A w) (hc : W.ckB LL rs m1 m2 = true) (hv : ∀ h i, 0 ≤ (W.xM LL h i).o.vl ∧ (W.xM LL h i).o.vl < 4294967296) :
    Ck b LL.length KC (fun h => some ⟨gs h, 0, none⟩) (W.nM LL) (W.nM LL) (W.xM LL) W.sM (some ⟨ob, 0, none⟩) rs.length (W.rM rs) cb A w ∧ (∀ p, p < m1 → W.okR (W.stM LL rs) p) ∧ (m1 < rs.length + 1 → ¬ W.okR (W.stM LL rs) m1) ∧ (∀ p, p < m2 → W.okP (W.stM LL rs) p) ∧ (m2 < rs.length + 1 → ¬ W.okP (W.stM LL rs) m2) := by
  unfold W.ckB at hc
  simp only [Bool.and_eq_true, decide_eq_true_eq] at hc
  obtain ⟨⟨⟨⟨⟨⟨⟨h1, h2⟩, h3⟩, h4⟩, h5⟩, h6⟩, h7⟩, h8⟩ := hc
  have hl := fun p hp => W.all_ok h6 p hp
  simp only [Bool.and_eq_true, decide_eq_true_eq] at hl
  have hvl : ∀ p, 0 ≤ (W.stM LL rs p).o.vl ∧ (W.stM LL rs p).o.vl < 4294967296 := W.stp_P (fun o => 0 ≤ o.vl ∧ o.vl < 4294967296) _ _ _ _ _ _ ⟨Int.le_refl _, (by decide : (0 : Int) < 4294967296)⟩ hv
  refine ⟨⟨hf_rows b LL gs _ h.bl h.o h.i, W.vdB_ok LL h1, os_rows ob rs h.ol h.r, W.orB_ok LL rs h2, fun i hi => W.itB_ok LL rs h3 i hi, h.f, h.s, h4, fun p hp hr k hk => W.frB_ok _ _ h5 hvl p hp hr k hk, fun p hp => (hl p hp).1, fun p hp h0 => ?_⟩, fun p hp => (W.okRb_iff _ _).1 (W.upB_1 h7 p hp), fun hm e => W.upB_2 h7 hm ((W.okRb_iff _ _).2 e), fun p hp => (W.okPb_iff _ _).1 (W.upB_1 h8 p hp), fun hm e => W.upB_2 h8 hm ((W.okPb_iff _ _).2 e)⟩
  have := (hl p hp).2
  rw [Bool.or_eq_true] at this
  rcases this with this | this
  · rw [Bool.not_eq_true', decide_eq_false_iff_not] at this
    exact absurd h0 this
  · exact of_decide_eq_true this
theorem chk_ok {b ob cb : Nat} {LL : List (List W.Opr)} {rs : List (Nat × Nat)} {gs : Nat → Nat} {A : Nat → Addr} {w : World} (K N KC oc : Nat) (hK : K = LL.length) (hN : N = rs.length) (h : Mem b ob cb LL rs gs A w) (hc : W.ckB LL rs (rs.length + 1) (rs.length + 1) = true) (hv : ∀ h i, 0 ≤ (W.xM LL h i).o.vl ∧ (W.xM LL h i).o.vl < 4294967296) :
    Calls Tryd.prog 14 #[.slice (some ⟨b, 0, none⟩) K KC, .slice (some ⟨ob, 0, none⟩) N oc, fvZ cb] w fun e w' => e = .returned .nilIface ∧ Below w.heap.size w w' := by
  subst hK hN
  obtain ⟨h1, h2, h3, h4, h5⟩ := h.ck KC _ _ hc hv
  exact check_ok b _ KC _ _ _ _ _ _ _ oc _ cb A w h1 _ rfl _ rfl h2 h3 h4 h5
theorem chk_val {b ob cb : Nat} {LL : List (List W.Opr)} {rs : List (Nat × Nat)} {gs : Nat → Nat} {A : Nat → Addr} {w : World} (K N KC oc m1 : Nat) (hm : 1 ≤ m1 ∧ m1 < rs.length + 1) (m2 : Nat) (hm2 : m2 ≤ rs.length + 1) (hK : K = LL.length) (hN : N = rs.length) (h : Mem b ob cb LL rs gs A w) (hc : W.ckB LL rs m1 m2 = true) (hv : ∀ h i, 0 ≤ (W.xM LL h i).o.vl ∧ (W.xM LL h i).o.vl < 4294967296) :
    Calls Tryd.prog 14 #[.slice (some ⟨b, 0, none⟩) K KC, .slice (some ⟨ob, 0, none⟩) N oc, fvZ cb] w fun e w' => (∃ q, e = .returned (.iface 78 (.pointer (some ⟨q, 0, none⟩))) ∧ w'.heap[q]? = some (.cells #[.int .i64 ((m1 : Int) - 1), ptr A 1] 80)) ∧ Below w.heap.size w w' := by
  subst hK hN
  obtain ⟨h1, h2, h3, h4, h5⟩ := h.ck KC _ _ hc hv
  exact check_val b _ KC _ _ _ _ _ _ _ oc _ cb A w h1 m1 hm m2 hm2 h2 h3 h4 h5
theorem chk_ord {b ob cb : Nat} {LL : List (List W.Opr)} {rs : List (Nat × Nat)} {gs : Nat → Nat} {A : Nat → Addr} {w : World} (K N KC oc m2 : Nat) (hm : 1 ≤ m2 ∧ m2 < rs.length + 1) (hK : K = LL.length) (hN : N = rs.length) (h : Mem b ob cb LL rs gs A w) (hc : W.ckB LL rs (rs.length + 1) m2 = true) (hv : ∀ h i, 0 ≤ (W.xM LL h i).o.vl ∧ (W.xM LL h i).o.vl < 4294967296) :
    Calls Tryd.prog 14 #[.slice (some ⟨b, 0, none⟩) K KC, .slice (some ⟨ob, 0, none⟩) N oc, fvZ cb] w fun e w' => (∃ q, e = .returned (.iface 78 (.pointer (some ⟨q, 0, none⟩))) ∧ w'.heap[q]? = some (.cells #[.int .i64 ((m2 : Int) - 1), ptr A 0] 80)) ∧ Below w.heap.size w w' := by
  subst hK hN
  obtain ⟨h1, h2, h3, h4, h5⟩ := h.ck KC _ _ hc hv
  exact check_ord b _ KC _ _ _ _ _ _ _ oc _ cb A w h1 _ rfl m2 hm h2 h3 h4 h5
/-- A memory of no bytes. -/
theorem bytes_nil (w : World) : Calls Tryd.prog 22 #[.slice none 0 0] w fun e w' => e = .returned (.slice (some ⟨w.heap.size, 0, none⟩) 0 0) ∧ Below w.heap.size w w' := by
  have hmk : (Instr.makeSlice 61 (.int .i64 0) (.int .i64 0)).run Tryd.prog w = .ok (.slice (some ⟨w.heap.size, 0, none⟩) 0 0) (w.alloc (.cells #[] 5)) := by kernel_rfl
  go_enter Tryd.func22, Tryd.ntmps22
  go_wp2
  go_loopw [3, 4] (fun v i wr => v = .slice (some ⟨w.heap.size, 0, none⟩) 0 0 ∧ i = .int .i64 0 ∧ wr = w.alloc (.cells #[] 5)) (fun _ _ _ => 0)
  case atStart => exact ⟨rfl, rfl, rfl⟩
  case round =>
    obtain ⟨rfl, rfl, rfl⟩ := hrel
    go_wp2
    go_ret
    exact ⟨rfl, (Below.refl _ _).alloc (Nat.le_refl _) _⟩
theorem bytesOf_nil (w : World) : Calls Tryd.prog 13 #[.slice none 0 0] w fun e w' => (∃ cb, e = .returned (fvZ cb) ∧ w.heap.size ≤ cb ∧ Fz cb w') ∧ Below w.heap.size w w' := by
  have hmf : ∀ (fn : Fn) (first cap : Array Value) (w : World), (Instr.makeFunc fn first cap).run Tryd.prog w = .ok (.func fn first cap) w := fun _ _ _ _ => rfl
  have HC : Hid (Calls _ _ _ _ _) := bytes_nil w
  go_enter Tryd.func13, Tryd.ntmps13
  go_wp2_with (fail)
  refine HC.out.mono ?_
  rintro e w1 ⟨rfl, b1⟩
  go_wp2
  go_ret
  have hl := heap_alloc_last w1 (.cells #[.slice (some ⟨w.heap.size, 0, none⟩) 0 0] 61)
  exact ⟨⟨w1.heap.size, rfl, b1.size, ⟨by simp, ⟨_, _, cell_of_row _ _ 0 _ _ (0, 0) hl⟩⟩⟩, b1.alloc b1.size _⟩
end Go.Proofs.YtibohlbkkaghkaaDoor
