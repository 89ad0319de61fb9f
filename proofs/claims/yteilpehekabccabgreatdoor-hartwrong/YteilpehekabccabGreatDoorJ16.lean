/- Texts in one: WalkF, WalkG. -/
import Derived.Deep.RegionWith
import Derived.Test.YteilpehekabccabGreatDoorJ14
import Derived.Test.YteilpehekabccabGreatDoorJ15
/- Down and Next, as functions of their numbers. -/
namespace Go.Proofs.YteilpehekabccabGreatDoor
open Go.ChangeShapes Go.WideShapes Go.ChangeAt Go.RowKit
set_option linter.unusedVariables false
set_option linter.unusedSimpArgs false

/-- The entries can be read. -/
def Reads (a : Option Addr) (n : Nat) (p : Nat → W.Pt) (w : World) : Prop :=
  n ≤ maxLen ∧ (0 < n → ∃ b off, a = some ⟨b, off, none⟩ ∧ b < w.heap.size ∧ Rd b off n p w) ∧ ∀ j, 0 ≤ (p j).v ∧ (p j).v < 4294967296
theorem Reads.below {a : Option Addr} {n : Nat} {p : Nat → W.Pt} {w w' : World} (h : Reads a n p w) (hb : Below w.heap.size w w') : Reads a n p w' :=
  ⟨h.1, fun hn => by obtain ⟨b, off, e, hl, hr⟩ := h.2.1 hn; exact ⟨b, off, e, Nat.lt_of_lt_of_le hl hb.size, hr.below hb hl⟩, h.2.2⟩

theorem down_any (mode va acc bytes table : Int) (v0 : 0 ≤ va) (v1 : va < 4294967296) (t0 : 0 ≤ table) (t1 : table < 4294967296) (a : Option Addr) (n cap : Nat) (p : Nat → W.Pt) (w : World) (hr : Reads a n p w) (S : W.Stp × Int)
    (hS : W.downS table va acc mode bytes n (fun j => (p j).a) (fun j => (p j).v) = S) :
    Calls Tryz.prog 84 #[.agg #[.int .i64 mode, .int .u32 va, .int .i64 acc, .int .i64 bytes], .int .u32 table, .slice a n cap] w fun x w' => x = .returned (.tuple #[S.1.val, .int .i64 S.2]) ∧ Below w.heap.size w w' := by
  obtain ⟨hm, hr, hv⟩ := hr
  unfold W.downS W.downL at hS
  cases c1 : W.entB table va bytes true
  · rw [c1] at hS; subst hS
    exact down_0 mode va acc bytes table v0 v1 t0 t1 a n cap hm w c1
  · by_cases hn : n = 0
    · rw [c1] at hS; simp only [cond_true, if_pos hn] at hS; subst hS
      exact down_1 mode va acc bytes table v0 v1 t0 t1 a n cap hm w hn c1
    · obtain ⟨b, off, rfl, hlt, hrd⟩ := hr (by omega)
      have hn0 : 0 < n := by omega
      rw [c1] at hS; simp only [cond_true, if_neg hn] at hS
      cases c3 : ((p 0).a != W.entA table va true)
      · cases c4 : W.bad (p 0).v
        · cases c5 : W.leaf (p 0).v
          · rw [c3, c4, c5] at hS; simp only [cond_false] at hS
            cases e1 : W.entB ((p 0).v / 1024) va bytes false
            · rw [e1] at hS; subst hS
              exact down_5 mode va acc bytes table v0 v1 t0 t1 n cap hm w b off p hlt hrd hn0 (hv 0).1 (hv 0).2 c1 c3 c4 c5 e1
            · by_cases hn1 : n = 1
              · rw [e1] at hS; simp only [cond_true, if_pos hn1] at hS; subst hS
                exact down_6 mode va acc bytes table v0 v1 t0 t1 n cap hm w b off p hlt hrd hn1 (hv 0).1 (hv 0).2 c1 c3 c4 c5 e1
              · have hn2 : 1 < n := by omega
                rw [e1] at hS; simp only [cond_true, if_neg hn1] at hS
                cases e3 : ((p 1).a != W.entA ((p 0).v / 1024) va false)
                · cases e4 : W.bad (p 1).v
                  · cases e5 : W.leaf (p 1).v
                    · rw [e3, e4, e5] at hS; subst hS
                      exact down_10 mode va acc bytes table v0 v1 t0 t1 n cap hm w b off p hlt hrd hn2 (hv 0).1 (hv 0).2 (hv 1).1 (hv 1).2 c1 c3 c4 c5 e1 e3 e4 e5
                    · rw [e3, e4, e5] at hS; subst hS
                      exact down_9 mode va acc bytes table v0 v1 t0 t1 n cap hm w b off p hlt hrd hn2 (hv 0).1 (hv 0).2 (hv 1).1 (hv 1).2 c1 c3 c4 c5 e1 e3 e4 e5
                  · rw [e3, e4] at hS; subst hS
                    exact down_8 mode va acc bytes table v0 v1 t0 t1 n cap hm w b off p hlt hrd hn2 (hv 0).1 (hv 0).2 (hv 1).1 (hv 1).2 c1 c3 c4 c5 e1 e3 e4
                · rw [e3] at hS; subst hS
                  exact down_7 mode va acc bytes table v0 v1 t0 t1 n cap hm w b off p hlt hrd hn2 (hv 0).1 (hv 0).2 (hv 1).1 (hv 1).2 c1 c3 c4 c5 e1 e3
          · rw [c3, c4, c5] at hS; subst hS
            exact down_4 mode va acc bytes table v0 v1 t0 t1 n cap hm w b off p hlt hrd hn0 (hv 0).1 (hv 0).2 c1 c3 c4 c5
        · rw [c3, c4] at hS; subst hS
          exact down_3 mode va acc bytes table v0 v1 t0 t1 n cap hm w b off p hlt hrd hn0 (hv 0).1 (hv 0).2 c1 c3 c4
      · rw [c3] at hS; subst hS
        exact down_2 mode va acc bytes table v0 v1 t0 t1 n cap hm w b off p hlt hrd hn0 (hv 0).1 (hv 0).2 c1 c3

end Go.Proofs.YteilpehekabccabGreatDoor

/- Next. -/
namespace Go.Proofs.YteilpehekabccabGreatDoor
open Go.ChangeShapes Go.WideShapes Go.ChangeAt Go.RowKit
set_option linter.unusedVariables false
set_option linter.unusedSimpArgs false

/-- Within Next: the result in block B, the way in the next one, the step behind. -/
structure Nw (B : Nat) (mode va acc bytes : Int) (w0 w : World) : Prop where
  base : Below w0.heap.size w0 w
  hB : w0.heap.size = B
  res : w.heap[B]? = some (.cells #[.int .i64 0, .int .u32 0, .int .u32 0, .int .u32 0, .int .u32 0] 94)
  way : w.heap[B + 1]? = some (.cells #[.int .i64 mode, .int .u32 va, .int .i64 acc, .int .i64 bytes] 135)
  lt : B + 1 + 1 < w.heap.size
theorem Nw.below {B : Nat} {mode va acc bytes : Int} {w0 w w' : World} (h : Nw B mode va acc bytes w0 w) (hb : Below w.heap.size w w') : Nw B mode va acc bytes w0 w' :=
  have l := h.lt
  ⟨h.base.trans (hb.mono h.base.size), h.hB, (hb.block _ (by omega)).trans h.res, (hb.block _ (by omega)).trans h.way, Nat.lt_of_lt_of_le h.lt hb.size⟩
theorem Nw.set {B : Nat} {mode va acc bytes : Int} {w0 w : World} (h : Nw B mode va acc bytes w0 w) (o : Nat) (v : Value) : Nw B mode va acc bytes w0 (w.setCell ⟨B + 1 + 1, o, none⟩ v) :=
  have hB := h.hB
  ⟨h.base.setCell (by show w0.heap.size ≤ B + 1 + 1; omega) v, h.hB, (Below.heap_setCell _ _ _ _ (by show B ≠ B + 1 + 1; omega)).trans h.res, (Below.heap_setCell _ _ _ _ (by show B + 1 ≠ B + 1 + 1; omega)).trans h.way, by simpa [World.setCell] using h.lt⟩
theorem Nw.first {mode va acc bytes : Int} (w : World) (o : Obj) (k : Nat) : Nw w.heap.size mode va acc bytes w ((((w.alloc (.cells #[.int .i64 0, .int .u32 0, .int .u32 0, .int .u32 0, .int .u32 0] 94)).alloc (.cells #[.int .i64 mode, .int .u32 va, .int .i64 acc, .int .i64 bytes] 135)).alloc o).drewN k) := by
  refine ⟨below3 _ _ _ _ _, rfl, get1 _ _ _ _ _, ?_, by simp⟩
  show (((w.heap.push _).push _).push _)[w.heap.size + 1]? = _
  rw [Array.getElem?_push, Array.getElem?_push]
  simp

theorem st_cells {w : World} {b : Nat} {T : TypeId} {x0 x1 x2 x3 x4 : Int} (h : w.heap[b]? = some (.cells #[.int .i64 x0, .int .u32 x1, .int .u32 x2, .int .u32 x3, .int .u32 x4] T)) :
    w.cell? ⟨b, 0, none⟩ = some (.int .i64 x0) ∧ w.cell? ⟨b, 1, none⟩ = some (.int .u32 x1) ∧ w.cell? ⟨b, 2, none⟩ = some (.int .u32 x2) ∧ w.cell? ⟨b, 3, none⟩ = some (.int .u32 x3) ∧ w.cell? ⟨b, 4, none⟩ = some (.int .u32 x4) ∧ ∀ o, w.frozen? ⟨b, o, none⟩ = false := by
  simp [World.cell?, World.frozen?, h]

set_option maxHeartbeats 1600000 in
theorem wnext_any (satp mode va acc bytes : Int) (s0 : 0 ≤ satp) (s1 : satp < 4294967296) (v0 : 0 ≤ va) (v1 : va < 4294967296) (a : Option Addr) (n cap : Nat) (p : Nat → W.Pt) (w : World) (hr : Reads a n p w) (S : W.Stp)
    (hS : W.nextS satp mode va acc bytes n (fun j => (p j).a) (fun j => (p j).v) = S) :
    Calls Tryz.prog 63 #[.int .u32 satp, .int .i64 mode, .int .u32 va, .int .i64 acc, .int .i64 bytes, .slice a n cap] w fun x w' => x = .returned (.agg #[.int .i64 S.k, .int .u32 S.pa, .int .u32 S.ad, .int .u32 S.vl, .int .u32 S.ca]) ∧ Below w.heap.size w w' := by
  have hm := hr.1
  have hbt := W.bits_l22 satp s0 s1
  have hen := fun w => entries_any satp mode s0 s1 w
  unfold W.nextS W.stepS at hS
  cases hon : W.onB satp mode
  · rw [hon] at hS hen
    simp only [cond_false, cond_true] at hS hen
    by_cases hn : 0 < n
    · have hS1 : S = W.fltS acc true := by rw [← hS]; simp [hn]
      subst hS1
      clear hS
      unfold W.fltS
      dsimp only
      go_enter Tryz.func63, Tryz.ntmps63
      go_wp2_with (first
        | (go_at_call 83; refine (hen _).mono ?_; rintro e w' ⟨rfl, kk, rfl⟩; have d1 := Nw.first (mode := mode) (va := va) (acc := acc) (bytes := bytes) w (.cells #[.int .i64 1, .int .u32 va, .int .u32 0, .int .u32 0, .int .u32 0] 94) kk; have st := get3 w (.cells #[.int .i64 0, .int .u32 0, .int .u32 0, .int .u32 0, .int .u32 0] 94) (.cells #[.int .i64 mode, .int .u32 va, .int .i64 acc, .int .i64 bytes] 135) (.cells #[.int .i64 1, .int .u32 va, .int .u32 0, .int .u32 0, .int .u32 0] 94) kk; generalize World.drewN (World.alloc (World.alloc (World.alloc w _) _) _) kk = W1 at *; have sp := st_cells st; obtain ⟨m0, m1, m2, m3, m4, mz⟩ := sp; have hl1 := d1.lt; obtain ⟨f0, f1, f2, f3, f4, fz⟩ := res_cells d1.res; obtain ⟨g0, g1, g2, g3⟩ := way_cells d1.way)
        | (go_at_call 85; refine (wfault_any _ _ _ _ _ _).mono ?_; rintro e wf ⟨rfl, hbf⟩; have d9 := d1.below hbf; clear f0 f1 f2 f3 f4 fz; obtain ⟨f0, f1, f2, f3, f4, fz⟩ := res_cells d9.res))
      exact bodyPost_ret (v := .agg #[.int .i64 2, .int .u32 0, .int .u32 0, .int .u32 0, .int .u32 (W.cause acc true)]) (by simp [results, Tryz.results63, go_sem, *]) rfl ⟨rfl, fin5 d9.base (by omega) _ _ _ _ _⟩
    · have hS1 : S = W.hereS va := by rw [← hS]; simp [hn]
      subst hS1
      clear hS
      obtain rfl : n = 0 := by omega
      unfold W.hereS
      dsimp only
      go_enter Tryz.func63, Tryz.ntmps63
      go_wp2_with (first
        | (go_at_call 83; refine (hen _).mono ?_; rintro e w' ⟨rfl, kk, rfl⟩; have d1 := Nw.first (mode := mode) (va := va) (acc := acc) (bytes := bytes) w (.cells #[.int .i64 1, .int .u32 va, .int .u32 0, .int .u32 0, .int .u32 0] 94) kk; have st := get3 w (.cells #[.int .i64 0, .int .u32 0, .int .u32 0, .int .u32 0, .int .u32 0] 94) (.cells #[.int .i64 mode, .int .u32 va, .int .i64 acc, .int .i64 bytes] 135) (.cells #[.int .i64 1, .int .u32 va, .int .u32 0, .int .u32 0, .int .u32 0] 94) kk; generalize World.drewN (World.alloc (World.alloc (World.alloc w _) _) _) kk = W1 at *; have sp := st_cells st; obtain ⟨m0, m1, m2, m3, m4, mz⟩ := sp; have hl1 := d1.lt; obtain ⟨f0, f1, f2, f3, f4, fz⟩ := res_cells d1.res; obtain ⟨g0, g1, g2, g3⟩ := way_cells d1.way))
      exact bodyPost_ret (v := .agg #[.int .i64 1, .int .u32 va, .int .u32 0, .int .u32 0, .int .u32 0]) (by simp [results, Tryz.results63, go_sem, *]) rfl ⟨rfl, fin5 d1.base (by omega) _ _ _ _ _⟩
  · rw [hon] at hS hen
    simp only [cond_false, cond_true] at hS hen
    have hdn := fun w (h : Reads a n p w) => down_any mode va acc bytes (satp % 4194304) v0 v1 (by omega) (by omega) a n cap p w h _ rfl
    generalize W.downS (satp % 4194304) va acc mode bytes n (fun j => (p j).a) (fun j => (p j).v) = D at *
    obtain ⟨⟨k1, k2, k3, k4, k5⟩, u⟩ := D
    unfold W.Stp.val at hdn
    dsimp only at hS hdn
    generalize satp % 4194304 = tb at *
    by_cases hn : u < n
    · have hS1 : S = W.fltS acc true := by rw [← hS]; simp [hn]
      subst hS1
      clear hS
      unfold W.fltS
      dsimp only
      go_enter Tryz.func63, Tryz.ntmps63
      go_wp2_with (first
        | (go_at_call 83; refine (hen _).mono ?_; rintro e w' ⟨rfl, kk, rfl⟩; have d1 := Nw.first (mode := mode) (va := va) (acc := acc) (bytes := bytes) w (.cells #[.int .i64 1, .int .u32 va, .int .u32 0, .int .u32 0, .int .u32 0] 94) kk; have st := get3 w (.cells #[.int .i64 0, .int .u32 0, .int .u32 0, .int .u32 0, .int .u32 0] 94) (.cells #[.int .i64 mode, .int .u32 va, .int .i64 acc, .int .i64 bytes] 135) (.cells #[.int .i64 1, .int .u32 va, .int .u32 0, .int .u32 0, .int .u32 0] 94) kk; generalize World.drewN (World.alloc (World.alloc (World.alloc w _) _) _) kk = W1 at *; have sp := st_cells st; obtain ⟨m0, m1, m2, m3, m4, mz⟩ := sp; have hl1 := d1.lt; obtain ⟨f0, f1, f2, f3, f4, fz⟩ := res_cells d1.res; obtain ⟨g0, g1, g2, g3⟩ := way_cells d1.way)
        | fail)
      go_region_with (first
        | (go_at_call 44; refine (bits_any _ _ _ _).mono ?_; rintro e w' ⟨rfl, kk2, rfl⟩)
        | (go_at_call 84; refine (hdn _ ?hh).mono ?_; (case hh => first | exact hr.below (below_drewN d1.base _) | exact hr.below d1.base); rintro e w2 ⟨rfl, hb2⟩; replace d1 : Nw w.heap.size mode va acc bytes w w2 := (by first | exact (d1.below (below_drewN (Below.refl _ _) _)).below hb2 | exact d1.below hb2); have st2 : w2.heap[w.heap.size + 1 + 1]? = some _ := (hb2.block _ (by simpa using hl1)).trans st; clear m0 m1 m2 m3 m4 mz f0 f1 f2 f3 f4 fz g0 g1 g2 g3; obtain ⟨m0, m1, m2, m3, m4, mz⟩ := st_cells st2; obtain ⟨f0, f1, f2, f3, f4, fz⟩ := res_cells d1.res; obtain ⟨g0, g1, g2, g3⟩ := way_cells d1.way))
      all_goals
        go_wp2_with (go_at_call 85; refine (wfault_any _ _ _ _ _ _).mono ?_; rintro e wf ⟨rfl, hbf⟩; have d9 := (((((d1.set 0 _).set 1 _).set 2 _).set 3 _).set 4 _).below hbf; clear f0 f1 f2 f3 f4 fz; obtain ⟨f0, f1, f2, f3, f4, fz⟩ := res_cells d9.res)
        exact bodyPost_ret (v := .agg #[.int .i64 2, .int .u32 0, .int .u32 0, .int .u32 0, .int .u32 (W.cause acc true)]) (by simp [results, Tryz.results63, go_sem, *]) rfl ⟨rfl, fin5 d9.base (by omega) _ _ _ _ _⟩
    · have hS1 : S = ⟨k1, k2, k3, k4, k5⟩ := by rw [← hS]; simp [hn]
      subst hS1
      clear hS
      dsimp only
      go_enter Tryz.func63, Tryz.ntmps63
      go_wp2_with (first
        | (go_at_call 83; refine (hen _).mono ?_; rintro e w' ⟨rfl, kk, rfl⟩; have d1 := Nw.first (mode := mode) (va := va) (acc := acc) (bytes := bytes) w (.cells #[.int .i64 1, .int .u32 va, .int .u32 0, .int .u32 0, .int .u32 0] 94) kk; have st := get3 w (.cells #[.int .i64 0, .int .u32 0, .int .u32 0, .int .u32 0, .int .u32 0] 94) (.cells #[.int .i64 mode, .int .u32 va, .int .i64 acc, .int .i64 bytes] 135) (.cells #[.int .i64 1, .int .u32 va, .int .u32 0, .int .u32 0, .int .u32 0] 94) kk; generalize World.drewN (World.alloc (World.alloc (World.alloc w _) _) _) kk = W1 at *; have sp := st_cells st; obtain ⟨m0, m1, m2, m3, m4, mz⟩ := sp; have hl1 := d1.lt; obtain ⟨f0, f1, f2, f3, f4, fz⟩ := res_cells d1.res; obtain ⟨g0, g1, g2, g3⟩ := way_cells d1.way)
        | fail)
      go_region_with (first
        | (go_at_call 44; refine (bits_any _ _ _ _).mono ?_; rintro e w' ⟨rfl, kk2, rfl⟩)
        | (go_at_call 84; refine (hdn _ ?hh).mono ?_; (case hh => first | exact hr.below (below_drewN d1.base _) | exact hr.below d1.base); rintro e w2 ⟨rfl, hb2⟩; replace d1 : Nw w.heap.size mode va acc bytes w w2 := (by first | exact (d1.below (below_drewN (Below.refl _ _) _)).below hb2 | exact d1.below hb2); have st2 : w2.heap[w.heap.size + 1 + 1]? = some _ := (hb2.block _ (by simpa using hl1)).trans st; clear m0 m1 m2 m3 m4 mz f0 f1 f2 f3 f4 fz g0 g1 g2 g3; obtain ⟨m0, m1, m2, m3, m4, mz⟩ := st_cells st2; obtain ⟨f0, f1, f2, f3, f4, fz⟩ := res_cells d1.res; obtain ⟨g0, g1, g2, g3⟩ := way_cells d1.way))
      all_goals
        go_wp2
        exact bodyPost_ret (v := .agg #[.int .i64 k1, .int .u32 k2, .int .u32 k3, .int .u32 k4, .int .u32 k5]) (by simp [results, Tryz.results63, go_sem, *]) rfl ⟨rfl, fin5 (((((d1.set 0 _).set 1 _).set 2 _).set 3 _).set 4 _).base (by omega) _ _ _ _ _⟩
end Go.Proofs.YteilpehekabccabGreatDoor
