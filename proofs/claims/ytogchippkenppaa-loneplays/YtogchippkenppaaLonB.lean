/- lone: a line in memory; what is read of it; New, Clone, msg, drop, share, given. -/
import Derived.Test.YtogchippkenppaaLonA0
import Derived.Test.YtogchippkenppaaLonM
import Derived.Deep.RegionHeld3
namespace Go.Proofs.Ytogchippkenppaa
open Go.ChangeShapes Go.WideShapes Go.ChangeAt Go.RowKit
set_option linter.unusedVariables false
set_option linter.unusedSimpArgs false
attribute [local go_sem ↓] ldM_eq stM_eq bdM_eq bsM_eq
variable {b : Nat} {s s' : W.Lo} {w w' w'' : World}

/-- A block is this row. -/
def Rw (b : Nat) (cs : Array Value) (T : TypeId) (w : World) : Prop := w.heap[b]? = some (.cells cs T)
theorem Rw.lt {cs : Array Value} {T : TypeId} (h : Rw b cs T w) : b < w.heap.size := (Array.getElem?_eq_some_iff.1 h).1
theorem Rw.below {cs : Array Value} {T : TypeId} (h : Rw b cs T w) (hb : Below w.heap.size w w') : Rw b cs T w' := (hb.block b h.lt).trans h
theorem Rw.gs {cs : Array Value} {T : TypeId} {S : Nat → Prop} (h : Rw b cs T w) (g : Gs S w w') (hs : ¬ S b) : Rw b cs T w' := (g.block b h.lt hs).trans h
theorem Rw.c {cs : Array Value} {T : TypeId} (h : Rw b cs T w) (k : Nat) {v : Value} (e : cs[k]? = some v) : w.cell? ⟨b, k, none⟩ = some v := by rw [cell_of_row _ _ k _ T (0, 0) h]; exact e
theorem Rw.fz {cs : Array Value} {T : TypeId} (h : Rw b cs T w) (k : Nat) : w.frozen? ⟨b, k, none⟩ = false := by
  have h' : w.heap[b]? = some (.cells cs T) := h
  simp [World.frozen?, h']
theorem Rw.set {cs : Array Value} {T : TypeId} (h : Rw b cs T w) (k : Nat) (v : Value) : Rw b (cs.setIfInBounds k v) T (w.setCell ⟨b, k, none⟩ v) := by
  have h' : w.heap[b]? = some (.cells cs T) := h
  unfold Rw World.setCell
  simp [Array.getElem?_modify, h']
theorem rw_new (w : World) (cs : Array Value) (T : TypeId) : Rw w.heap.size cs T (w.alloc (.cells cs T)) := heap_alloc_last w _
/-- But for a block, and new ones, the world is as it was. -/
def Up (b : Nat) (w w' : World) : Prop := Gs (fun x => x = b) w w'
theorem Up.refl (b : Nat) (w : World) : Up b w w := Gs.refl _ w
theorem Up.trans (h : Up b w w') (k : Up b w' w'') : Up b w w'' := Gs.trans h k
theorem Up.of_below (h : Below w.heap.size w w') : Up b w w' := Gs.of_below h
theorem Up.set (b : Nat) (w : World) (k : Nat) (v : Value) : Up b w (w.setCell ⟨b, k, none⟩ v) := Gs.of_grown (gsetCell w b k v) (fun g e => (Option.some.inj e).symm)
theorem Up.lnew (h : Up b w w') (hb : Below w'.heap.size w' w'') : Up b w w'' := h.trans (Up.of_below hb)
def loA (s : W.Lo) : Array Value := #[.int .i64 s.ln, .int .i64 s.ht, .int .i64 s.wt, .int .i64 s.hd, .int .u32 s.e0, .int .u32 s.e1, .int .u32 s.e2, .int .u32 s.e3]
/-- The code's line lies in a block. -/
def Lb (b : Nat) (s : W.Lo) (w : World) : Prop := Rw b (loA s) 55 w
theorem Lb.lt (h : Lb b s w) : b < w.heap.size := Rw.lt h
theorem Lb.below (h : Lb b s w) (hb : Below w.heap.size w w') : Lb b s w' := Rw.below h hb
theorem Lb.c0 (h : Lb b s w) : w.cell? ⟨b, 0, none⟩ = some (.int .i64 s.ln) := Rw.c h 0 rfl
theorem Lb.c1 (h : Lb b s w) : w.cell? ⟨b, 1, none⟩ = some (.int .i64 s.ht) := Rw.c h 1 rfl
theorem Lb.c2 (h : Lb b s w) : w.cell? ⟨b, 2, none⟩ = some (.int .i64 s.wt) := Rw.c h 2 rfl
theorem Lb.c3 (h : Lb b s w) : w.cell? ⟨b, 3, none⟩ = some (.int .i64 s.hd) := Rw.c h 3 rfl
theorem Lb.c4 (h : Lb b s w) : w.cell? ⟨b, 4, none⟩ = some (.int .u32 s.e0) := Rw.c h 4 rfl
theorem Lb.c5 (h : Lb b s w) : w.cell? ⟨b, 5, none⟩ = some (.int .u32 s.e1) := Rw.c h 5 rfl
theorem Lb.c6 (h : Lb b s w) : w.cell? ⟨b, 6, none⟩ = some (.int .u32 s.e2) := Rw.c h 6 rfl
theorem Lb.c7 (h : Lb b s w) : w.cell? ⟨b, 7, none⟩ = some (.int .u32 s.e3) := Rw.c h 7 rfl
theorem Lb.wt (h : Lb b s w) (x : Int) : Lb b ⟨s.ln, s.ht, x, s.hd, s.e0, s.e1, s.e2, s.e3⟩ (w.setCell ⟨b, 2, none⟩ (.int .i64 x)) := Rw.set h 2 _
theorem Lb.hd (h : Lb b s w) (x : Int) : Lb b ⟨s.ln, s.ht, s.wt, x, s.e0, s.e1, s.e2, s.e3⟩ (w.setCell ⟨b, 3, none⟩ (.int .i64 x)) := Rw.set h 3 _
def st4 (w : World) (b o : Nat) (x0 x1 x2 x3 : Int) : World := (((w.setCell ⟨b, o, none⟩ (.int .u32 x0)).setCell ⟨b, o + 1, none⟩ (.int .u32 x1)).setCell ⟨b, o + 2, none⟩ (.int .u32 x2)).setCell ⟨b, o + 3, none⟩ (.int .u32 x3)
theorem Lb.dt (h : Lb b s w) (x0 x1 x2 x3 : Int) : Lb b ⟨s.ln, s.ht, s.wt, s.hd, x0, x1, x2, x3⟩ (st4 w b 4 x0 x1 x2 x3) := Rw.set (Rw.set (Rw.set (Rw.set h 4 _) 5 _) 6 _) 7 _
theorem Up.dt (b o : Nat) (w : World) (x0 x1 x2 x3 : Int) : Up b w (st4 w b o x0 x1 x2 x3) := (((Up.set b w o _).trans (Up.set b _ _ _)).trans (Up.set b _ _ _)).trans (Up.set b _ _ _)
def lineV (x0 x1 x2 x3 : Int) : Value := .agg #[.int .u32 x0, .int .u32 x1, .int .u32 x2, .int .u32 x3]

theorem state_any (H : Lb b s w) : Calls Try.prog 9 #[.pointer (some ⟨b, 0, none⟩)] w fun e w' => e = .returned (.int .i64 s.st) ∧ w = w' := by
  have c2 := H.c2
  have c3 := H.c3
  clear H
  unfold W.Lo.st
  by_cases e : s.wt = 3
  · rw [e] at c2 ⊢
    go_enter Try.func9, Try.ntmps9
    go_wp2
    go_ret
    exact ⟨rfl, rfl⟩
  · rw [if_neg e]
    have q : (s.wt == 3) = false := by simpa using e
    clear e
    go_enter Try.func9, Try.ntmps9
    go_wp2
    go_ret
    exact ⟨rfl, rfl⟩

theorem waits_any (H : Lb b s w) : Calls Try.prog 22 #[.pointer (some ⟨b, 0, none⟩)] w fun e w' => e = .returned (.int .i64 s.wt) ∧ w = w' := by
  have c2 := H.c2
  clear H
  go_enter Try.func22, Try.ntmps22
  go_wp2
  go_ret
  exact ⟨rfl, rfl⟩

theorem can_any (H : Lb b s w) (x : Bool) : Calls Try.prog 23 #[.pointer (some ⟨b, 0, none⟩), .bool x] w fun e w' => e = .returned (.bool (s.can x)) ∧ w = w' := by
  have c2 := H.c2
  have c3 := H.c3
  clear H
  obtain ⟨ln, ht, wt, hd, e0, e1, e2, e3⟩ := s
  unfold W.Lo.can
  dsimp only at *
  by_cases e : wt = 0
  · subst e
    rw [if_pos rfl]
    cases x
    · by_cases q : hd = 0
      · subst q
        go_enter Try.func23, Try.ntmps23
        go_wp2
        go_ret
        exact ⟨rfl, rfl⟩
      · have q' : (hd != 0) = true := by simpa using q
        rw [if_neg (by decide), if_neg q]
        clear q
        go_enter Try.func23, Try.ntmps23
        go_wp2
        go_ret
        exact ⟨rfl, rfl⟩
    · by_cases q : hd = 2
      · subst q
        go_enter Try.func23, Try.ntmps23
        go_wp2
        go_ret
        exact ⟨rfl, rfl⟩
      · have q' : (hd == 2) = false := by simpa using q
        rw [if_pos rfl, if_neg q]
        by_cases r : hd = 4
        · subst r
          go_enter Try.func23, Try.ntmps23
          go_wp2
          go_ret
          exact ⟨rfl, rfl⟩
        · have r' : (hd == 4) = false := by simpa using r
          rw [if_neg r]
          clear q r
          go_enter Try.func23, Try.ntmps23
          go_wp2
          go_ret
          exact ⟨rfl, rfl⟩
  · rw [if_neg e]
    have q : (wt != 0) = true := by simpa using e
    clear e
    go_enter Try.func23, Try.ntmps23
    go_wp2
    go_ret
    exact ⟨rfl, rfl⟩

theorem bdM_4h (k l h t : Int) (w : World) : (bdM #[(0, .int .i64 k), (1, .int .i64 l), (2, .int .i64 h), (3, .int .i64 t)]).run Try.prog w = .ok (mgV ⟨k, l, h, t, 0, 0, 0, 0, false, false, false⟩) w := by kernel_rfl
abbrev z11 : Array Value := #[.int .i64 0, .int .i64 0, .int .i64 0, .int .i64 0, .int .u32 0, .int .u32 0, .int .u32 0, .int .u32 0, .bool false, .bool false, .bool false]
theorem msg_any (H : Lb b s w) (k : Int) : Calls Try.prog 25 #[.pointer (some ⟨b, 0, none⟩), .int .i64 k] w fun e w' => e = .returned (mgV (s.msg k)) ∧ Below w.heap.size w w' := by
  have hl := H.lt
  have c0 := H.c0
  have c1 := H.c1
  have bd := bdM_4h k s.ln s.ht (-1)
  have hst : (stM ⟨w.heap.size, 0, none⟩ (mgV (s.msg k))).run Try.prog (w.alloc (.cells z11 33)).drew = .ok () (w.alloc (.cells (mgL (s.msg k)).toArray 33)).drew := stM_new w.drew (s.msg k) z11 rfl
  have hld : (ldM ⟨w.heap.size, 0, none⟩).run Try.prog (w.alloc (.cells (mgL (s.msg k)).toArray 33)).drew = .ok (mgV (s.msg k)) (w.alloc (.cells (mgL (s.msg k)).toArray 33)).drew := (msgAt_new w.drew (s.msg k)).ld
  have hB := (below_alloc w (.cells (mgL (s.msg k)).toArray 33)).drew
  have HB : Hid (_) := hB
  have e : (⟨k, s.ln, s.ht, -1, 0, 0, 0, 0, false, false, false⟩ : W.Mg) = s.msg k := rfl
  rw [e] at bd
  clear hB e H
  generalize s.msg k = M at *
  go_enter Try.func25, Try.ntmps25
  go_wp2_with (fail)
  go_region
  all_goals
    go_wp2
    exact bodyPost_ret (v := mgV M) (by simp [results, Try.results25, asAddr, ldM_eq, hld]) rfl ⟨rfl, HB.out⟩

theorem drop_any (H : Lb b s w) : Calls Try.prog 28 #[.pointer (some ⟨b, 0, none⟩)] w fun e w' => e = .returned (.tuple #[]) ∧ Lb b s.drop w' ∧ Up b w w' := by
  have c3 := H.c3
  have c4 := H.c4
  have c5 := H.c5
  have c6 := H.c6
  have c7 := H.c7
  have f3 := Rw.fz H 3
  have f4 := Rw.fz H 4
  have f5 := Rw.fz H 5
  have f6 := Rw.fz H 6
  have f7 := Rw.fz H 7
  have HF : Hid (_ ∧ _) := ⟨(H.hd 0).dt 0 0 0 0, (Up.set b w 3 (.int .i64 0)).trans (Up.dt b 4 _ 0 0 0 0)⟩
  clear H
  go_enter Try.func28, Try.ntmps28
  go_wp2
  go_end0
  exact ⟨rfl, HF.out.1, HF.out.2⟩

theorem share_any (H : Lb b s w) : Calls Try.prog 32 #[.pointer (some ⟨b, 0, none⟩)] w fun e w' => e = .returned (.tuple #[]) ∧ Lb b s.share w' ∧ Up b w w' := by
  have c3 := H.c3
  have f3 := Rw.fz H 3
  have HF : Hid (_ ∧ _ ∧ _) := ⟨H, H.hd 3, H.hd 1⟩
  clear H
  unfold W.Lo.share
  by_cases q : s.hd = 4
  · rw [if_pos q]
    rw [q] at c3
    go_enter Try.func32, Try.ntmps32
    go_wp2
    go_end0
    exact ⟨rfl, HF.out.2.1, Up.set b w 3 _⟩
  · rw [if_neg q]
    by_cases r : s.hd = 2
    · rw [if_pos r]
      rw [r] at c3
      go_enter Try.func32, Try.ntmps32
      go_wp2
      go_end0
      exact ⟨rfl, HF.out.2.2, Up.set b w 3 _⟩
    · rw [if_neg r]
      have q' : (s.hd == 4) = false := by simpa using q
      have r' : (s.hd == 2) = false := by simpa using r
      clear q r
      go_enter Try.func32, Try.ntmps32
      go_wp2
      go_end0
      exact ⟨rfl, HF.out.1, Up.refl b w⟩

theorem new_any (l h : Int) (w : World) : Calls Try.prog 7 #[.int .i64 l, .int .i64 h] w fun e w' => e = .returned (.pointer (some ⟨w.heap.size, 0, none⟩)) ∧ Lb w.heap.size (W.lo0 l h) w' ∧ Below w.heap.size w w' := by
  go_enter Try.func7, Try.ntmps7
  go_wp2
  go_ret
  exact ⟨rfl, heap_alloc_last w _, below_alloc w _⟩

theorem clone_any (H : Lb b s w) : Calls Try.prog 8 #[.pointer (some ⟨b, 0, none⟩)] w fun e w' => e = .returned (.pointer (some ⟨w.heap.size, 0, none⟩)) ∧ Lb w.heap.size s w' ∧ Below w.heap.size w w' := by
  have c0 := H.c0
  have c1 := H.c1
  have c2 := H.c2
  have c3 := H.c3
  have c4 := H.c4
  have c5 := H.c5
  have c6 := H.c6
  have c7 := H.c7
  have hl := H.lt
  clear H
  go_enter Try.func8, Try.ntmps8
  go_wp2
  go_ret
  exact ⟨rfl, heap_alloc_last w _, below_alloc w _⟩

theorem data_any (H : Lb b s w) : Calls Try.prog 21 #[.pointer (some ⟨b, 0, none⟩)] w fun e w' => (e = if s.st = 0 then .returned (.tuple #[lineV 0 0 0 0, .bool false]) else .returned (.tuple #[lineV s.e0 s.e1 s.e2 s.e3, .bool true])) ∧ Below w.heap.size w w' := by
  have hba := below_alloc w (.cells #[.int .u32 0, .int .u32 0, .int .u32 0, .int .u32 0] 28)
  have hl := H.lt
  have HS : Hid (∀ T cs, Lb b s (w.alloc (.cells cs T))) := fun T cs => H.below (below_alloc w _)
  have c4 := H.c4
  have c5 := H.c5
  have c6 := H.c6
  have c7 := H.c7
  clear H
  by_cases q : s.st = 0
  · rw [if_pos q]
    go_enter Try.func21, Try.ntmps21
    go_wp2_with (fail)
    refine (state_any (HS.out _ _)).mono ?_
    rintro e w1 ⟨rfl, rfl⟩
    rw [q]
    go_wp2
    exact bodyPost_ret (v := .tuple #[lineV 0 0 0 0, .bool false]) (by simp [results, Try.results21, asAddr, go_sem, lineV]) rfl ⟨rfl, by
      repeat (first | exact below_alloc _ _ | (refine Below.setCell ?_ (by simp) _))⟩
  · rw [if_neg q]
    have q' : (s.st == 0) = false := by simpa using q
    clear q
    go_enter Try.func21, Try.ntmps21
    go_wp2_with (fail)
    refine (state_any (HS.out _ _)).mono ?_
    rintro e w1 ⟨rfl, rfl⟩
    generalize s.st = z at *
    go_wp2
    exact bodyPost_ret (v := .tuple #[lineV s.e0 s.e1 s.e2 s.e3, .bool true]) (by simp [results, Try.results21, asAddr, go_sem, lineV]) rfl ⟨rfl, by
      repeat (first | exact below_alloc _ _ | (refine Below.setCell ?_ (by simp) _))⟩

end Go.Proofs.Ytogchippkenppaa
