/- What the statements' own look at errors answers: errors with a place. -/
import Derived.Test.YtaioioilfanpeaaDoorNetA
import Derived.WalkSmall
import Derived.LaidEql
import Derived.Deep.RegionHeld3
import Derived.Deep.RegionWith
namespace Go.Proofs.YtaioioilfanpeaaDoor
open Go.ChangeShapes Go.WideShapes Go.ChangeAt Go.RowKit
set_option linter.unusedVariables false
set_option linter.unusedSimpArgs false

/-- The document's errors lie where the program laid them: each a pointer of its own. -/
structure Sent (A : Nat → Addr) (w : World) : Prop where
  cell : ∀ j, j < 11 → w.cell? ⟨j, 0, none⟩ = some (.iface 102 (.pointer (some (A j))))
  apart : ∀ i j, i < 11 → j < 11 → A i = A j → i = j
  held : ∀ j, j < 11 → ∃ c t, w.heap[(A j).block]? = some (.cells c t (0, 0))
theorem Sent.below {A : Nat → Addr} {a b : World} (h : Sent A a) (hm : Below a.heap.size a b) : Sent A b where
  cell := fun j hj => (hm.cell (p := ⟨j, 0, none⟩) (World.block_lt_of_cell? _ _ (h.cell j hj))).trans (h.cell j hj)
  apart := h.apart
  held := fun j hj => by
    obtain ⟨c, t, hc⟩ := h.held j hj
    exact ⟨c, t, (hm.block _ (Array.getElem?_eq_some_iff.1 hc).1).trans hc⟩
def Room (b n : Nat) (w : World) : Prop := ∃ c t, w.heap[b]? = some (.cells c t (0, 0)) ∧ c.size = n
theorem Room.below {b n m : Nat} {x y : World} (h : Room b n x) (hm : Below m x y) (hb : b < m) : Room b n y := by
  obtain ⟨c, t, h1, h2⟩ := h
  exact ⟨c, t, (hm.block b hb).trans h1, h2⟩

/-- Which variable stands at which place of the list. -/
def perm (p : Nat) : Nat := [4, 1, 2, 5, 6, 0, 3, 7, 8, 9, 10].getD p 0
def ptr (A : Nat → Addr) (g : Nat) : Value := .iface 102 (.pointer (some (A g)))

theorem eql_same (w : World) (a : Addr) : (binOp .eql 26 (.iface 102 (.pointer (some a))) (.iface 102 (.pointer (some a)))).run Tryd.prog w = .ok (.bool true) w := by
  obtain ⟨i, hi⟩ : ∃ j, Tryd.prog.info? 102 = some j := Option.isSome_iff_exists.1 (by kernel_rfl)
  have hc : i.comparable = true := by
    have : (Tryd.prog.info? 102).map (·.comparable) = some true := by kernel_rfl
    rw [hi] at this; simpa using this
  obtain ⟨j, hj⟩ : ∃ j, Tryd.prog.info? 118 = some j := Option.isSome_iff_exists.1 (by kernel_rfl)
  exact run_eql_iface_ptr_same w a Tryd.underlying26 Tryd.underlying102 hi hc hj
theorem eql_other (w : World) {a b : Addr} {ca cb : Array Value} {ta tb : TypeId} (hne : a ≠ b) (ha : w.heap[a.block]? = some (.cells ca ta (0, 0))) (hb : w.heap[b.block]? = some (.cells cb tb (0, 0))) :
    (binOp .eql 26 (.iface 102 (.pointer (some a))) (.iface 102 (.pointer (some b)))).run Tryd.prog w = .ok (.bool false) w := by
  obtain ⟨i, hi⟩ : ∃ j, Tryd.prog.info? 102 = some j := Option.isSome_iff_exists.1 (by kernel_rfl)
  have hc : i.comparable = true := by
    have : (Tryd.prog.info? 102).map (·.comparable) = some true := by kernel_rfl
    rw [hi] at this; simpa using this
  obtain ⟨j, hj⟩ : ∃ j, Tryd.prog.info? 118 = some j := Option.isSome_iff_exists.1 (by kernel_rfl)
  have hz : j.size ≠ 0 := by
    have : (Tryd.prog.info? 118).map (·.size) = some 1 := by kernel_rfl
    rw [hj] at this; simp at this; omega
  exact run_eql_iface_ptr_other w Tryd.underlying26 Tryd.underlying102 hi hc hj hz hne ha hb

theorem alike_same (a : Addr) (w : World) :
    Calls Tryd.prog 48 #[.iface 102 (.pointer (some a)), .iface 102 (.pointer (some a))] w fun e w' => e = .returned (.bool true) ∧ w = w' := by
  have he := eql_same (a := a)
  go_enter Tryd.func48, Tryd.ntmps48
  go_wp2
  go_ret
  exact ⟨rfl, rfl⟩
theorem alike_other (a b : Addr) (w : World) (he : (binOp .eql 26 (.iface 102 (.pointer (some a))) (.iface 102 (.pointer (some b)))).run Tryd.prog w = .ok (.bool false) w) :
    Calls Tryd.prog 48 #[.iface 102 (.pointer (some a)), .iface 102 (.pointer (some b))] w fun e w' => e = .returned (.bool false) ∧ w = w' := by
  go_enter Tryd.func48, Tryd.ntmps48
  go_wp2
  go_ret
  exact ⟨rfl, rfl⟩

theorem sentinels_any (A : Nat → Addr) (w : World) (hS : Sent A w) :
    Calls Tryd.prog 47 #[] w fun e w' => e = .returned (.slice (some ⟨w.heap.size, 0, none⟩) 11 11) ∧ w' = w.alloc (.cells #[ptr A 4, ptr A 1, ptr A 2, ptr A 5, ptr A 6, ptr A 0, ptr A 3, ptr A 7, ptr A 8, ptr A 9, ptr A 10] 26) := by
  have c0 := hS.cell 0 (by omega)
  have c1 := hS.cell 1 (by omega)
  have c2 := hS.cell 2 (by omega)
  have c3 := hS.cell 3 (by omega)
  have c4 := hS.cell 4 (by omega)
  have c5 := hS.cell 5 (by omega)
  have c6 := hS.cell 6 (by omega)
  have c7 := hS.cell 7 (by omega)
  have c8 := hS.cell 8 (by omega)
  have c9 := hS.cell 9 (by omega)
  have c10 := hS.cell 10 (by omega)
  clear hS
  go_enter Tryd.func47, Tryd.ntmps47
  go_wp2
  go_ret
  exact ⟨rfl, rfl⟩

theorem Room.two {b : Nat} {x : World} (h : Room b 2 x) : ∃ v0 v1, x.cell? ⟨b, 0, none⟩ = some v0 ∧ x.cell? ⟨b, 1, none⟩ = some v1 ∧ ∀ j, x.frozen? ⟨b, j, none⟩ = false := by
  obtain ⟨c, t, h1, h2⟩ := h
  have hc : ∀ j (hj : j < 2), x.cell? ⟨b, j, none⟩ = some (c[j]'(by omega)) := fun j hj => by simp [World.cell?, h1, h2, hj]
  exact ⟨_, _, hc 0 (by omega), hc 1 (by omega), fun j => by simp [World.frozen?, h1]⟩

theorem bare_any (c : Int) (w : World) :
    Calls Tryd.prog 27 #[.int .i64 c] w fun e w' => e = .returned (.agg #[.int .i64 c, .slice none 0 0]) ∧ Below w.heap.size w w' := by
  go_enter Tryd.func27, Tryd.ntmps27
  go_wp2
  exact bodyPost_ret (v := .agg #[.int .i64 c, .slice none 0 0]) (by simp [results, Tryd.results27, go_sem]) rfl ⟨rfl, (Below.refl _ _).alloc (Nat.le_refl _) _⟩

theorem none_any (w : World) :
    Calls Tryd.prog 32 #[] w fun e w' => e = .returned (.agg #[.int .i64 0, .slice none 0 0]) ∧ Below w.heap.size w w' := by
  go_enter Tryd.func32, Tryd.ntmps32
  go_wp2
  exact bodyPost_ret (v := .agg #[.int .i64 0, .slice none 0 0]) (by simp [results, Tryd.results32, go_sem]) rfl ⟨rfl, (Below.refl _ _).alloc (Nat.le_refl _) _⟩

theorem sameInts_nil (w : World) :
    Calls Tryd.prog 40 #[.slice none 0 0, .slice none 0 0] w fun e w' => e = .returned (.bool true) ∧ w = w' := by
  go_enter Tryd.func40, Tryd.ntmps40
  go_wp2
  go_loopw [5] (fun i wr => i = .int .i64 0 ∧ w = wr) (fun _ _ => 0)
  case atStart => exact ⟨rfl, rfl⟩
  case round =>
    obtain ⟨rfl, rfl⟩ := hrel
    go_wp2
    go_ret
    exact ⟨rfl, rfl⟩

theorem sameFault_any (a b : Int) (w : World) :
    Calls Tryd.prog 29 #[.agg #[.int .i64 a, .slice none 0 0], .agg #[.int .i64 b, .slice none 0 0]] w fun e w' => e = .returned (.bool (a == b)) ∧ Below w.heap.size w w' := by
  have hb : Below w.heap.size w w := Below.refl _ _
  cases h : (a == b)
  all_goals
    go_enter Tryd.func29, Tryd.ntmps29
    go_wp2_with (go_at_call 40; refine (sameInts_nil _).mono ?_; rintro e w' ⟨rfl, rfl⟩)
    go_ret
    exact ⟨rfl, (hb.alloc hb.size _).alloc (by simp) _⟩

theorem perm_inj (p q : Nat) (hp : p < 11) (hq : q < 11) (h : perm p = perm q) : p = q := by
  have : ((List.range 11).all fun p => (List.range 11).all fun q => !(perm p == perm q) || (p == q)) = true := by decide +kernel
  have := List.all_eq_true.1 this p (List.mem_range.2 hp)
  have := List.all_eq_true.1 this q (List.mem_range.2 hq)
  simpa [h] using this
theorem perm_lt (p : Nat) (hp : p < 11) : perm p < 11 := by
  have : ((List.range 11).all fun p => decide (perm p < 11)) = true := by decide +kernel
  simpa using List.all_eq_true.1 this p (List.mem_range.2 hp)

theorem sentinels_c (A : Nat → Addr) (w : World) (hS : Sent A w) :
    Calls Tryd.prog 47 #[] w fun e w' => e = .returned (.slice (some ⟨w.heap.size, 0, none⟩) 11 11) ∧ Below w.heap.size w w' ∧ ∀ k, k < 11 → w'.cell? ⟨w.heap.size, k, none⟩ = some (ptr A (perm k)) :=
  (sentinels_any A w hS).mono fun e w' ⟨h, hw'⟩ => by
    subst hw'
    refine ⟨h, (Below.refl _ _).alloc (Nat.le_refl _) _, fun k hk => ?_⟩
    match k, hk with
    | 0, _ | 1, _ | 2, _ | 3, _ | 4, _ | 5, _ | 6, _ | 7, _ | 8, _ | 9, _ | 10, _ => simp [go_sem, perm]

theorem sentinel_any (A : Nat → Addr) (p : Nat) (hp : p < 11) (w : World) (hS : Sent A w) :
    Calls Tryd.prog 45 #[.iface 102 (.pointer (some (A (perm p))))] w fun e w' => e = .returned (.int .i64 (101 + p)) ∧ Below w.heap.size w w' := by
  have HS : Hid (Sent A w) := hS
  have Hp : Hid (p < 11) := hp
  clear hS hp
  go_enter Tryd.func45, Tryd.ntmps45
  go_wp2_with (go_at_call 47; refine (sentinels_c A _ HS.out).mono ?_; rintro e w' ⟨rfl, hb, hc⟩; have HC : Hid (∀ k, k < 11 → w'.cell? ⟨w.heap.size, k, none⟩ = some (ptr A (perm k))) := hc; clear hc)
  go_loopw [4] (fun i wr => ∃ k : Nat, k ≤ p ∧ i = .int .i64 k ∧ w' = wr) (fun i _ => 11 - (intOf i).toNat)
  case atStart => exact ⟨0, by omega, rfl, rfl⟩
  case round =>
    obtain ⟨k, hk, rfl, rfl⟩ := hrel
    have hk11 : (k : Int) < 11 := by have := Hp.out; omega
    have hk0 : (0 : Int) ≤ (k : Int) := Int.natCast_nonneg _
    have hc : w'.cell? ⟨w.heap.size, k, none⟩ = some (.iface 102 (.pointer (some (A (perm k))))) := HC.out k (by omega)
    by_cases h : k = p
    · subst h
      go_wp2_with (go_at_call 48; refine (alike_same _ _).mono ?_; rintro e w'' ⟨rfl, rfl⟩)
      go_ret
      exact ⟨ret_int (by first | rfl | (simp [go_sem]; done) | (have := Hp.out; go_num)), hb⟩
    · have hs := HS.out.below hb
      have hne : A (perm p) ≠ A (perm k) := fun e => h (perm_inj p k Hp.out (by have := Hp.out; omega) (hs.apart _ _ (perm_lt _ Hp.out) (perm_lt _ (by have := Hp.out; omega)) e)).symm
      obtain ⟨ca, ta, ha⟩ := hs.held (perm p) (perm_lt _ Hp.out)
      obtain ⟨cb, tb, hb'⟩ := hs.held (perm k) (perm_lt _ (by have := Hp.out; omega))
      have he := eql_other w' hne ha hb'
      have HE : Hid (_ = _) := he
      clear he ha hb' hne hs
      go_wp2_with (go_at_call 48; refine (alike_other _ _ _ HE.out).mono ?_; rintro e w'' ⟨rfl, rfl⟩)
      go_roundw
      case rel => exact ⟨k + 1, by omega, by go_num, by first | rfl | trivial⟩
      case measure => simp [intOf]; omega

set_option maxHeartbeats 800000 in
theorem sameints_any (s t : W.Sl) (l k : List Int) (w : World) (hs : Li s l w) (ht : Li t k w) : Calls Tryd.prog 40 #[slV s, slV t] w fun e w' => e = .returned (.bool (decide (l = k))) ∧ Below w.heap.size w w' := by
  obtain ⟨hn, hm, _, hc⟩ := hs
  obtain ⟨a, n, c⟩ := s
  obtain ⟨hn', hm', _, hc'⟩ := ht
  obtain ⟨a', n', c'⟩ := t
  simp only at hn hm hc hn' hm' hc'
  subst hn hn'
  have HC : Hid (_ ∧ _) := ⟨hc, hc'⟩
  clear hc hc'
  unfold slV
  by_cases hl : l.length = k.length
  · generalize hq : decide (l = k) = q
    have hq' : (l = k) = (q = true) := by rw [← hq]; simp
    clear hq
    go_enter Tryd.func40, Tryd.ntmps40
    go_wp2
    go_loopw [5] (fun i wr => ∃ j : Nat, j ≤ l.length ∧ i = .int .i64 j ∧ (∃ q, wr = w.drewN q) ∧ ∀ m, m < j → l[m]? = k[m]?) (fun i _ => l.length - (intOf i).toNat)
    case atStart => exact ⟨0, by omega, rfl, ⟨0, rfl⟩, fun m hm => by omega⟩
    case round =>
      obtain ⟨j, hj, rfl, ⟨q', rfl⟩, hall⟩ := hrel
      by_cases hlt : j < l.length
      · obtain ⟨b, o, rfl, hb, hc⟩ := HC.out.1 (by omega)
        obtain ⟨b', o', rfl, hb', hc'⟩ := HC.out.2 (by omega)
        have g0 := hc j l[j] (List.getElem?_eq_getElem hlt)
        have g1 := hc' j k[j] (List.getElem?_eq_getElem (by omega))
        have e0 : l[j]? = some l[j] := List.getElem?_eq_getElem hlt
        have e1 : k[j]? = some k[j] := List.getElem?_eq_getElem (by omega)
        clear hc hc'
        generalize l[j] = x at *
        generalize k[j] = y at *
        by_cases hxy : x = y
        · subst hxy
          have E : Hid (∀ m, m < j + 1 → l[m]? = k[m]?) := show ∀ m, m < j + 1 → l[m]? = k[m]? from fun m hm => by
            by_cases h : m < j
            · exact hall m h
            · obtain rfl : m = j := by omega
              rw [e0, e1]
          clear hall e0 e1
          go_wp2
          go_quiet (fail)
          go_wp2
          go_roundw
          case rel => exact ⟨j + 1, by omega, by go_num, ⟨_, rfl⟩, E.out⟩
          case measure => simp [intOf]; omega
        · have hne : ¬ l = k := fun h => by rw [h, e1] at e0; exact hxy (Option.some.inj e0).symm
          have hqf : q = false := by
            cases q
            · rfl
            · exact absurd (hq'.symm.mp rfl) hne
          clear hall e0 e1 hq'
          subst hqf
          have hxy' : (x == y) = false := by simpa using hxy
          go_wp2
          go_quiet (fail)
          go_wp2
          go_ret
          exact ⟨rfl, below_drewN (Below.refl _ _) _⟩
      · obtain rfl : j = l.length := by omega
        have he : l = k := List.ext_getElem? fun m => by
          by_cases h : m < l.length
          · exact hall m h
          · rw [List.getElem?_eq_none (by omega), List.getElem?_eq_none (by omega)]
        have hqt : q = true := by rw [← hq']; exact he
        clear hall hq' he
        subst hqt
        go_wp2
        go_ret
        exact ⟨rfl, below_drewN (Below.refl _ _) _⟩
  · have hne : decide (l = k) = false := decide_eq_false fun h => hl (by rw [h])
    have hl' : ¬ (l.length : Int) = (k.length : Int) := by omega
    rw [hne]
    go_enter Tryd.func40, Tryd.ntmps40
    go_wp2
    go_ret
    exact ⟨rfl, Below.refl _ _⟩
theorem li1 (g : Nat) (m : Int) (w : World) (hl : g < w.heap.size) (hc : w.cell? ⟨g, 0, none⟩ = some (.int .i64 m)) : Li ⟨some ⟨g, 0, none⟩, 1, 1⟩ [m] w :=
  li_some rfl (by decide) (by decide) hl (fun j x hx => by
    match j with
    | 0 => simp at hx; subst hx; exact hc
    | j + 1 => simp at hx)
theorem placed_any (p : Nat) (m : Int) (w : World) : Calls Tryd.prog 26 #[.int .i64 (101 + (p : Int)), .int .i64 m] w fun e w' => e = .returned (.agg #[.int .i64 (101 + (p : Int)), .slice (some ⟨w.heap.size + 1, 0, none⟩) 1 1]) ∧ Below w.heap.size w w' ∧ w'.cell? ⟨w.heap.size + 1, 0, none⟩ = some (.int .i64 m) ∧ w.heap.size + 1 < w'.heap.size := by
  go_enter Tryd.func26, Tryd.ntmps26
  go_wp2
  exact bodyPost_ret (v := .agg #[.int .i64 (101 + (p : Int)), .slice (some ⟨w.heap.size + 1, 0, none⟩) 1 1]) (by simp [results, Tryd.results26, go_sem]) rfl ⟨rfl, ((Below.refl _ _).alloc (Nat.le_refl _) _).alloc (by simp) _, by simp [go_sem], by simp⟩

set_option maxRecDepth 100000 in
set_option maxHeartbeats 1600000 in
theorem fault_8 (A : Nat → Addr) (p : Nat) (hp : p < 11) (w : World) (hS : Sent A w) :
    Calls Tryd.prog 39 #[.iface 102 (.pointer (some (A (perm p)))), .int .i64 8] w fun e w' => e = .returned (.agg #[.int .i64 (101 + p), .slice none 0 0]) ∧ Below w.heap.size w w' := by
  have HS : Hid (Sent A w) := hS
  have Hp : Hid (p < 11) := hp
  clear hS hp
  have hT : ∀ v w, (Instr.typeAssert (.iface 102 v) 26 78 true).run Tryd.prog w = .ok (.tuple #[.pointer none, .bool false]) w := fun _ _ => by kernel_rfl
  go_enter Tryd.func39, Tryd.ntmps39
  go_wp2_with (first
    | (go_at_call 45; refine (sentinel_any A p Hp.out _ (HS.out.below ((Below.refl _ _).alloc (Nat.le_refl _) _))).mono ?_; rintro e w1 ⟨rfl, hb1⟩; have hR : Room w.heap.size 2 w1 := ⟨_, _, (hb1.block _ (by simp)).trans (heap_alloc_last w _), rfl⟩; have hb : Below w.heap.size w w1 := ((Below.refl _ _).alloc (Nat.le_refl _) _).trans (hb1.mono (by simp)); have hlt : w.heap.size < w1.heap.size := (by have := hb1.size; simp at this; omega); clear hb1)
    | (go_at_call 27; refine (bare_any _ _).mono ?_; rintro e w2 ⟨rfl, hb2⟩; obtain ⟨v0, v1, r0, r1, r2⟩ := (hR.below hb2 hlt).two; have hb := hb.trans (hb2.mono hb.size); clear hb2))
  refine bodyPost_ret (v := .agg #[.int .i64 (101 + p), .slice none 0 0]) ?_ rfl ⟨rfl, ?_⟩
  · simp [results, Tryd.results39, go_sem, r0, r1]
  · exact (hb.setCell (Nat.le_refl _) _).setCell (Nat.le_refl _) _


set_option maxRecDepth 100000 in
set_option maxHeartbeats 1600000 in
theorem fault_at (A : Nat → Addr) (p : Nat) (hp : p < 11) (q : Nat) (m : Int) (w : World) (hS : Sent A w) (hq : w.heap[q]? = some (.cells #[.int .i64 m, ptr A (perm p)] 80)) : Calls Tryd.prog 39 #[.iface 78 (.pointer (some ⟨q, 0, none⟩)), .int .i64 9] w fun e w' => ∃ g, e = .returned (.agg #[.int .i64 (101 + (p : Int)), .slice (some ⟨g, 0, none⟩) 1 1]) ∧ Below w.heap.size w w' ∧ w.heap.size ≤ g ∧ w'.cell? ⟨g, 0, none⟩ = some (.int .i64 m) := by
  have q0 : w.cell? ⟨q, 0, none⟩ = some (.int .i64 m) := by simp [World.cell?, hq]
  have q1 : w.cell? ⟨q, 1, none⟩ = some (.iface 102 (.pointer (some (A (perm p))))) := by simp [World.cell?, hq]; rfl
  have hlt : q < w.heap.size := (Array.getElem?_eq_some_iff.1 hq).1
  have HS : Hid (Sent A w) := hS
  have hT : ∀ v w, (Instr.typeAssert (.iface 78 v) 26 78 true).run Tryd.prog w = .ok (.tuple #[v, .bool true]) w := fun _ _ => by kernel_rfl
  clear hq hS
  go_enter Tryd.func39, Tryd.ntmps39
  go_wp2_with (first
    | (go_at_call 39; refine (fault_8 A p hp _ (HS.out.below ((Below.refl _ _).alloc (Nat.le_refl _) _))).mono ?_; rintro e w1 ⟨rfl, hb1⟩; have hR : Room w.heap.size 2 w1 := ⟨_, _, (hb1.block _ (by simp)).trans (heap_alloc_last w _), rfl⟩; have hb : Below w.heap.size w w1 := ((Below.refl _ _).alloc (Nat.le_refl _) _).trans (hb1.mono (by simp)); have hl1 : w.heap.size < w1.heap.size := (by have := hb1.size; simp at this; omega); clear hb1))
  have f0 : (w1.alloc (.cells #[.int .i64 (101 + (p : Int)), .slice none 0 0] 41)).cell? ⟨w1.heap.size, 0, none⟩ = some (.int .i64 (101 + (p : Int))) := by simp [go_sem]
  have f1 : (w1.alloc (.cells #[.int .i64 (101 + (p : Int)), .slice none 0 0] 41)).cell? ⟨w1.heap.size, 1, none⟩ = some (.slice none 0 0) := by simp [go_sem]
  have hb2 : Below w1.heap.size w1 (w1.alloc (.cells #[.int .i64 (101 + (p : Int)), .slice none 0 0] 41)) := (Below.refl _ _).alloc (Nat.le_refl _) _
  have hl2 : w1.heap.size < (w1.alloc (.cells #[.int .i64 (101 + (p : Int)), .slice none 0 0] 41)).heap.size := by simp
  generalize World.alloc w1 _ = w2 at *
  have hR2 := hR.below hb2 hl1
  have hbw : Below w.heap.size w w2 := hb.trans (hb2.mono hb.size)
  have p0 : w2.cell? ⟨q, 0, none⟩ = some (.int .i64 m) := (hbw.cell (p := ⟨q, 0, none⟩) hlt).trans q0
  obtain ⟨v0, v1, r0, r1, r2⟩ := hR2.two
  have hl3 : w.heap.size < w2.heap.size := Nat.lt_trans hl1 hl2
  clear hR hR2 q0 q1 hb2
  generalize w1.heap.size = b1 at *
  go_region
  all_goals
    go_wp2
    refine bodyPost_ret (v := .agg #[.int .i64 (101 + (p : Int)), .slice (some ⟨w2.heap.size, 0, none⟩) 1 1]) (by simp [results, Tryd.results39, go_sem, r0, r1, hl3]) rfl ⟨w2.heap.size, rfl, ?_, by omega, by simp [go_sem, hl3]⟩
    repeat (first | exact hbw | (refine Below.drew ?_) | (refine Below.setCell ?_ (by simp) _) | (refine Below.alloc ?_ (by simp; omega) _))

set_option maxRecDepth 100000 in
theorem faultOf_at (A : Nat → Addr) (p : Nat) (hp : p < 11) (q : Nat) (m : Int) (w : World) (hS : Sent A w) (hq : w.heap[q]? = some (.cells #[.int .i64 m, ptr A (perm p)] 80)) : Calls Tryd.prog 28 #[.iface 78 (.pointer (some ⟨q, 0, none⟩))] w fun e w' => ∃ g, e = .returned (.agg #[.int .i64 (101 + (p : Int)), .slice (some ⟨g, 0, none⟩) 1 1]) ∧ Below w.heap.size w w' ∧ w.heap.size ≤ g ∧ w'.cell? ⟨g, 0, none⟩ = some (.int .i64 m) := by
  have HS : Hid (Sent A w) := hS
  have hlt : q < w.heap.size := (Array.getElem?_eq_some_iff.1 hq).1
  have HQ : Hid (∀ o, (w.alloc o).heap[q]? = some (.cells #[.int .i64 m, ptr A (perm p)] 80)) := fun o => (Below.heap_alloc w o q hlt).trans hq
  clear hS hq
  go_enter Tryd.func28, Tryd.ntmps28
  go_wp2_with (first
    | (go_at_call 39; refine (fault_at A p hp q m _ (HS.out.below ((Below.refl _ _).alloc (Nat.le_refl _) _)) (HQ.out _)).mono ?_; rintro e w1 ⟨g, rfl, hb1, hg, hgc⟩; have hR : Room w.heap.size 2 w1 := ⟨_, _, (hb1.block _ (by simp)).trans (heap_alloc_last w _), rfl⟩; have hb : Below w.heap.size w w1 := ((Below.refl _ _).alloc (Nat.le_refl _) _).trans (hb1.mono (by simp)); clear hb1; obtain ⟨v0, v1, r0, r1, r2⟩ := hR.two))
  have hg' : w.heap.size + 1 ≤ g := by simpa using hg
  have hne : ¬ g = w.heap.size := by omega
  refine bodyPost_ret (v := .agg #[.int .i64 (101 + (p : Int)), .slice (some ⟨g, 0, none⟩) 1 1]) ?_ rfl ⟨g, rfl, ?_, by omega, ?_⟩
  · simp [results, Tryd.results28, go_sem, r0, r1]
  · exact (hb.setCell (Nat.le_refl _) _).setCell (Nat.le_refl _) _
  · rw [World.cell?_setCell_other _ _ _ _ (by intro e; exact hne (congrArg Addr.block e).symm), World.cell?_setCell_other _ _ _ _ (by intro e; exact hne (congrArg Addr.block e).symm)]
    exact hgc

set_option maxHeartbeats 800000 in
theorem sameFault_at (p : Nat) (m : Int) (g h : Nat) (w : World) (hg : w.cell? ⟨g, 0, none⟩ = some (.int .i64 m)) (hh : w.cell? ⟨h, 0, none⟩ = some (.int .i64 m)) :
    Calls Tryd.prog 29 #[.agg #[.int .i64 (101 + (p : Int)), .slice (some ⟨g, 0, none⟩) 1 1], .agg #[.int .i64 (101 + (p : Int)), .slice (some ⟨h, 0, none⟩) 1 1]] w fun e w' => e = .returned (.bool true) ∧ Below w.heap.size w w' := by
  have hb : Below w.heap.size w w := Below.refl _ _
  have HG : Hid (w.cell? ⟨g, 0, none⟩ = some (.int .i64 m)) := hg
  have HH : Hid (w.cell? ⟨h, 0, none⟩ = some (.int .i64 m)) := hh
  have lg := World.block_lt_of_cell? _ _ hg
  have lh := World.block_lt_of_cell? _ _ hh
  clear hg hh
  go_enter Tryd.func29, Tryd.ntmps29
  go_wp2_with fail
  have hb2 : Below w.heap.size w ((w.alloc (.cells #[.int .i64 (101 + (p : Int)), .slice (some ⟨g, 0, none⟩) 1 1] 41)).alloc (.cells #[.int .i64 (101 + (p : Int)), .slice (some ⟨h, 0, none⟩) 1 1] 41)) := (hb.alloc hb.size _).alloc (by simp) _
  refine (sameints_any ⟨some ⟨g, 0, none⟩, 1, 1⟩ ⟨some ⟨h, 0, none⟩, 1, 1⟩ [m] [m] _ (li1 g m _ (Nat.lt_of_lt_of_le lg hb2.size) ((hb2.cell (p := ⟨g, 0, none⟩) lg).trans HG.out)) (li1 h m _ (Nat.lt_of_lt_of_le lh hb2.size) ((hb2.cell (p := ⟨h, 0, none⟩) lh).trans HH.out))).mono ?_
  rintro e w3 ⟨rfl, hb3⟩
  rw [decide_eq_true (rfl : [m] = [m])]
  have c0 := hb3.cell (p := ⟨w.heap.size, 0, none⟩) (by simp; omega)
  have c1 := hb3.cell (p := ⟨w.heap.size + 1, 0, none⟩) (by simp)
  simp [go_sem] at c0 c1
  go_wp2
  go_ret
  exact ⟨rfl, hb2.trans (hb3.mono (by simp; omega))⟩

theorem same_at (A : Nat → Addr) (p : Nat) (hp : p < 11) (q h : Nat) (m : Int) (w : World) (hS : Sent A w) (hq : w.heap[q]? = some (.cells #[.int .i64 m, ptr A (perm p)] 80)) (hh : w.cell? ⟨h, 0, none⟩ = some (.int .i64 m)) :
    Calls Tryd.prog 10 #[.iface 78 (.pointer (some ⟨q, 0, none⟩)), .agg #[.int .i64 (101 + (p : Int)), .slice (some ⟨h, 0, none⟩) 1 1]] w fun e w' => e = .returned (.bool true) ∧ Below w.heap.size w w' := by
  have HS : Hid (Sent A w) := hS
  have hlt : q < w.heap.size := (Array.getElem?_eq_some_iff.1 hq).1
  have lh := World.block_lt_of_cell? _ _ hh
  have HQ : Hid (∀ o, (w.alloc o).heap[q]? = some (.cells #[.int .i64 m, ptr A (perm p)] 80)) := fun o => (Below.heap_alloc w o q hlt).trans hq
  have HH : Hid (w.cell? ⟨h, 0, none⟩ = some (.int .i64 m)) := hh
  clear hS hq hh
  go_enter Tryd.func10, Tryd.ntmps10
  go_wp2_with (first
    | (go_at_call 28; refine (faultOf_at A p hp q m _ (HS.out.below ((Below.refl _ _).alloc (Nat.le_refl _) _)) (HQ.out _)).mono ?_; rintro e w1 ⟨g, rfl, hb1, hg, hgc⟩; have hl1 : w.heap.size < w1.heap.size := (by have := hb1.size; simp at this; omega); have x0 := hb1.cell (p := ⟨w.heap.size, 0, none⟩) (by simp); have x1 := hb1.cell (p := ⟨w.heap.size, 1, none⟩) (by simp); simp [go_sem] at x0 x1; have hb : Below w.heap.size w w1 := ((Below.refl _ _).alloc (Nat.le_refl _) _).trans (hb1.mono (by simp)); have HGC : Hid (w1.cell? ⟨g, 0, none⟩ = some (.int .i64 m)) := hgc; clear hb1 hg hgc))
  have lg := World.block_lt_of_cell? _ _ HGC.out
  have hbn : Below w1.heap.size w1 (w1.alloc (.cells #[.int .i64 (101 + (p : Int)), .slice (some ⟨g, 0, none⟩) 1 1] 41)) := (Below.refl _ _).alloc (Nat.le_refl _) _
  refine (sameFault_at p m g h _ ((hbn.cell (p := ⟨g, 0, none⟩) lg).trans HGC.out) ((hbn.cell (p := ⟨h, 0, none⟩) (Nat.lt_trans lh hl1)).trans ((hb.cell (p := ⟨h, 0, none⟩) lh).trans HH.out))).mono ?_
  rintro e w2 ⟨rfl, hb2⟩
  go_wp2
  go_ret
  exact ⟨rfl, hb.trans ((hbn.trans (hb2.mono (by simp))).mono hb.size)⟩
end Go.Proofs.YtaioioilfanpeaaDoor
