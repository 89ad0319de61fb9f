/- lone: the document's line in memory: Can, msg, full, Ask, Evict. -/
import Derived.Test.YtogchippkenppaaLonF
namespace Go.Proofs.Ytogchippkenppaa
open Go.ChangeShapes Go.WideShapes Go.ChangeAt Go.RowKit
set_option linter.unusedVariables false
set_option linter.unusedSimpArgs false
attribute [local go_sem ↓] ldM_eq stM_eq bdM_eq bsM_eq
variable {b : Nat} {s s' : W.Ld} {w w' w'' w2 : World}

def ldA (s : W.Ld) : Array Value := #[.int .i64 s.ln, .int .i64 s.ht, .int .i64 s.st, .int .i64 s.wt, .int .u32 s.e0, .int .u32 s.e1, .int .u32 s.e2, .int .u32 s.e3, .int .i64 s.kp]
/-- The document's line lies in a block. -/
def Db (b : Nat) (s : W.Ld) (w : World) : Prop := Rw b (ldA s) 31 w
theorem Db.lt (h : Db b s w) : b < w.heap.size := Rw.lt h
theorem Db.below (h : Db b s w) (hb : Below w.heap.size w w') : Db b s w' := Rw.below h hb
theorem Db.c0 (h : Db b s w) : w.cell? ⟨b, 0, none⟩ = some (.int .i64 s.ln) := Rw.c h 0 rfl
theorem Db.c1 (h : Db b s w) : w.cell? ⟨b, 1, none⟩ = some (.int .i64 s.ht) := Rw.c h 1 rfl
theorem Db.c2 (h : Db b s w) : w.cell? ⟨b, 2, none⟩ = some (.int .i64 s.st) := Rw.c h 2 rfl
theorem Db.c3 (h : Db b s w) : w.cell? ⟨b, 3, none⟩ = some (.int .i64 s.wt) := Rw.c h 3 rfl
theorem Db.c4 (h : Db b s w) : w.cell? ⟨b, 4, none⟩ = some (.int .u32 s.e0) := Rw.c h 4 rfl
theorem Db.c5 (h : Db b s w) : w.cell? ⟨b, 5, none⟩ = some (.int .u32 s.e1) := Rw.c h 5 rfl
theorem Db.c6 (h : Db b s w) : w.cell? ⟨b, 6, none⟩ = some (.int .u32 s.e2) := Rw.c h 6 rfl
theorem Db.c7 (h : Db b s w) : w.cell? ⟨b, 7, none⟩ = some (.int .u32 s.e3) := Rw.c h 7 rfl
theorem Db.c8 (h : Db b s w) : w.cell? ⟨b, 8, none⟩ = some (.int .i64 s.kp) := Rw.c h 8 rfl
theorem Db.st (h : Db b s w) (x : Int) : Db b ⟨s.ln, s.ht, x, s.wt, s.e0, s.e1, s.e2, s.e3, s.kp⟩ (w.setCell ⟨b, 2, none⟩ (.int .i64 x)) := Rw.set h 2 _
theorem Db.wt (h : Db b s w) (x : Int) : Db b ⟨s.ln, s.ht, s.st, x, s.e0, s.e1, s.e2, s.e3, s.kp⟩ (w.setCell ⟨b, 3, none⟩ (.int .i64 x)) := Rw.set h 3 _
theorem Db.kp (h : Db b s w) (x : Int) : Db b ⟨s.ln, s.ht, s.st, s.wt, s.e0, s.e1, s.e2, s.e3, x⟩ (w.setCell ⟨b, 8, none⟩ (.int .i64 x)) := Rw.set h 8 _
theorem Db.dt (h : Db b s w) (x0 x1 x2 x3 : Int) : Db b ⟨s.ln, s.ht, s.st, s.wt, x0, x1, x2, x3, s.kp⟩ (st4 w b 4 x0 x1 x2 x3) := Rw.set (Rw.set (Rw.set (Rw.set h 4 _) 5 _) 6 _) 7 _
def ResD (b : Nat) (s' : W.Ld) (l : List W.Mg) (sl : W.Sl) (w w' : World) : Prop := Ms sl l w' ∧ Db b s' w' ∧ Up b w w' ∧ ∀ g o, sl.a = some ⟨g, o, none⟩ → w.heap.size ≤ g
theorem resD_one (H : Db b s' w2) (U : Up b w w2) (m : W.Mg) : ResD b s' [m] ⟨some ⟨w2.heap.size, 0, none⟩, 1, 1⟩ w (w2.alloc (.cells (mgL m).toArray 33)) :=
  ⟨ms_one m w2, H.below (below_alloc w2 _), U.lnew (below_alloc w2 _), fun g o e => by cases e; exact U.size⟩
theorem resD_nil (H : Db b s' w2) (U : Up b w w2) : ResD b s' [] ⟨none, 0, 0⟩ w w2 := ⟨ms_nil w2, H, U, fun g o e => by cases e⟩

theorem dcan_any (H : Db b s w) (x : Bool) : Calls Try.prog 15 #[.pointer (some ⟨b, 0, none⟩), .bool x] w fun e w' => e = .returned (.bool (s.can x)) ∧ w = w' := by
  have c2 := H.c3
  have c3 := H.c2
  clear H
  obtain ⟨ln, ht, hd, wt, e0, e1, e2, e3, kp⟩ := s
  unfold W.Ld.can
  dsimp only at *
  by_cases e : wt = 0
  · subst e
    rw [if_pos rfl]
    by_cases q : hd = 0
    · subst q
      rw [if_pos rfl]
      go_enter Try.func15, Try.ntmps15
      go_wp2
      go_ret
      exact ⟨rfl, rfl⟩
    · have q' : (hd != 0) = true := by simpa using q
      rw [if_neg q]
      cases x
      · clear q
        go_enter Try.func15, Try.ntmps15
        go_wp2
        go_ret
        exact ⟨rfl, rfl⟩
      · rw [if_pos rfl]
        by_cases r : hd = 2
        · subst r
          go_enter Try.func15, Try.ntmps15
          go_wp2
          go_ret
          exact ⟨rfl, rfl⟩
        · have r' : (hd == 2) = false := by simpa using r
          rw [if_neg r]
          by_cases t : hd = 4
          · subst t
            go_enter Try.func15, Try.ntmps15
            go_wp2
            go_ret
            exact ⟨rfl, rfl⟩
          · have t' : (hd == 4) = false := by simpa using t
            rw [if_neg t]
            clear q r t
            go_enter Try.func15, Try.ntmps15
            go_wp2
            go_ret
            exact ⟨rfl, rfl⟩
  · rw [if_neg e]
    have q : (wt == 0) = false := by simpa using e
    clear e
    go_enter Try.func15, Try.ntmps15
    go_wp2
    go_ret
    exact ⟨rfl, rfl⟩

theorem dmsg_any (H : Db b s w) (k : Int) : Calls Try.prog 26 #[.pointer (some ⟨b, 0, none⟩), .int .i64 k] w fun e w' => e = .returned (mgV (s.msg k)) ∧ Below w.heap.size w w' := by
  have hl := H.lt
  have c0 := H.c0
  have c1 := H.c1
  have bd := bdM_4h k s.ln s.ht (-1)
  have hst : (stM ⟨w.heap.size, 0, none⟩ (mgV (s.msg k))).run Try.prog (w.alloc (.cells z11 33)).drew = .ok () (w.alloc (.cells (mgL (s.msg k)).toArray 33)).drew := stM_new w.drew (s.msg k) z11 rfl
  have hld : (ldM ⟨w.heap.size, 0, none⟩).run Try.prog (w.alloc (.cells (mgL (s.msg k)).toArray 33)).drew = .ok (mgV (s.msg k)) (w.alloc (.cells (mgL (s.msg k)).toArray 33)).drew := (msgAt_new w.drew (s.msg k)).ld
  have hB := (below_alloc w (.cells (mgL (s.msg k)).toArray 33)).drew
  have HB : Hid (_) := hB
  have e : (⟨k, s.ln, s.ht, -1, 0, 0, 0, 0, false, false, false⟩ : W.Mg) = s.msg k := rfl
  rw [e] at bd
  clear hB e H
  generalize s.msg k = M at *
  go_enter Try.func26, Try.ntmps26
  go_wp2_with (fail)
  go_region
  all_goals
    go_wp2
    exact bodyPost_ret (v := mgV M) (by simp [results, Try.results26, asAddr, ldM_eq, hld]) rfl ⟨rfl, HB.out⟩

theorem dask_any (H : Db b s w) (x : Bool) : Calls Try.prog 11 #[.pointer (some ⟨b, 0, none⟩), .bool x] w fun e w' => ∃ sl, e = .returned (.tuple #[slV sl, .bool (s.ask x).2.2]) ∧ ResD b (s.ask x).1 (s.ask x).2.1 sl w w' := by
  have c2 := H.c3
  have f2 := Rw.fz H 3
  have HH : Hid (Db b s w) := H
  clear H
  unfold W.Ld.ask
  by_cases e : s.wt = 0
  · rw [e] at c2
    have HC : Hid (Calls _ _ _ _ _) := dcan_any HH.out x
    by_cases hc : s.can x = false
    · rw [if_pos ⟨e, hc⟩]
      rw [hc] at HC
      clear e hc
      go_enter Try.func11, Try.ntmps11
      go_wp2_with (fail)
      refine HC.out.mono ?_
      rintro e w2 ⟨rfl, rfl⟩
      clear HC
      cases x
      · go_wp2_with (fail)
        have HB2 : Hid (_ ∧ _) := ⟨HH.out.wt 1, Up.set b w 3 (.int .i64 1)⟩
        clear HH c2 f2
        generalize World.setCell w _ _ = W1 at *
        refine (dmsg_any HB2.out.1 1).mono ?_
        rintro e w3 ⟨rfl, hb3⟩
        have HF : Hid (_) := resD_one (HB2.out.1.below hb3) (HB2.out.2.lnew hb3) (s.msg 1)
        have bs := bsM_any (s.msg 1)
        have e1 : W.Ld.msg ⟨s.ln, s.ht, s.st, 1, s.e0, s.e1, s.e2, s.e3, s.kp⟩ 1 = s.msg 1 := rfl
        rw [e1]
        clear hb3 HB2 e1
        go_wp2_with (fail)
        exact bodyPost_ret (by simp [results, Try.results11, asAddr, go_sem]; rfl) rfl ⟨_, rfl, HF.out⟩
      · go_wp2_with (fail)
        have HB2 : Hid (_ ∧ _) := ⟨(HH.out.wt 1).wt 2, (Up.set b w 3 (.int .i64 1)).trans (Up.set b _ 3 (.int .i64 2))⟩
        clear HH c2 f2
        generalize World.setCell (World.setCell w _ _) _ _ = W1 at *
        refine (dmsg_any HB2.out.1 2).mono ?_
        rintro e w3 ⟨rfl, hb3⟩
        have HF : Hid (_) := resD_one (HB2.out.1.below hb3) (HB2.out.2.lnew hb3) (s.msg 2)
        have bs := bsM_any (s.msg 2)
        have e1 : W.Ld.msg ⟨s.ln, s.ht, s.st, 2, s.e0, s.e1, s.e2, s.e3, s.kp⟩ 2 = s.msg 2 := rfl
        rw [e1]
        clear hb3 HB2 e1
        go_wp2_with (fail)
        exact bodyPost_ret (by simp [results, Try.results11, asAddr, go_sem]; rfl) rfl ⟨_, rfl, HF.out⟩
    · rw [if_neg (fun h => hc h.2)]
      have hc' : s.can x = true := by simpa using hc
      rw [hc'] at HC
      clear e hc hc'
      go_enter Try.func11, Try.ntmps11
      go_wp2_with (fail)
      refine HC.out.mono ?_
      rintro e w2 ⟨rfl, rfl⟩
      clear HC
      go_wp2_with (fail)
      exact bodyPost_ret (by simp [results, Try.results11, asAddr, go_sem]; rfl) rfl ⟨⟨none, 0, 0⟩, rfl, resD_nil HH.out (Up.refl b w)⟩
  · rw [if_neg (fun h => e h.1)]
    have q : (s.wt != 0) = true := by simpa using e
    clear e
    go_enter Try.func11, Try.ntmps11
    go_wp2_with (fail)
    exact bodyPost_ret (by simp [results, Try.results11, asAddr, go_sem]; rfl) rfl ⟨⟨none, 0, 0⟩, rfl, resD_nil HH.out (Up.refl b w)⟩

end Go.Proofs.Ytogchippkenppaa
