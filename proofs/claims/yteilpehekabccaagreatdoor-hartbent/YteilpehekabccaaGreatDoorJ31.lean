/- Texts in one: HartJ29, HartJ210, HartJ3. -/
import Derived.Test.YteilpehekabccaaGreatDoorJ26
import Derived.Test.YteilpehekabccaaGreatDoorJ27
import Derived.Test.YteilpehekabccaaGreatDoorJ28
import Derived.Test.YteilpehekabccaaGreatDoorJ29
import Derived.Test.YteilpehekabccaaGreatDoorJ30
/- Is an event as it has to be? Way 9. -/
namespace Go.Proofs.YteilpehekabccaaGreatDoor
open Go.ChangeShapes Go.WideShapes Go.ChangeAt Go.RowKit
set_option linter.unusedVariables false
set_option linter.unusedSimpArgs false

set_option maxHeartbeats 3200000 in
theorem same_9 (e d : W.Ev) (h0 : (e.k == d.k) = true) (h1 : (e.pc == d.pc) = true) (h2 : (e.wd == d.wd) = true) (h3 : (e.fpa == d.fpa) = true) (h4 : (e.pa == d.pa) = true) (h5 : (e.ld == d.ld) = true) (h6 : (e.ca == d.ca) = true) (h7 : (e.tv == d.tv) = true) (h8 : (e.dn == d.dn) = true) (w : World) (Hfw : ∀ w', Below w.heap.size w w' → Calls Tryz.prog 74 #[.slice e.fw.a e.fw.n e.fw.c, .slice d.fw.a d.fw.n d.fw.c] w' fun x w'' => x = .returned (.bool false) ∧ Below w'.heap.size w' w'') : Calls Tryz.prog 35 #[.agg (evCells e), .agg (evCells d)] w fun x w' => x = .returned (.bool false) ∧ Below w.heap.size w w' := by
  obtain ⟨k, pc, wd, fpa, pa, ld, ⟨fa, fn, fc⟩, ⟨wa, wn, wc⟩, ca, tv, dn, fat, at_⟩ := e
  obtain ⟨dk, dpc, dwd, dfpa, dpa, dld, ⟨dfa, dfn, dfc⟩, ⟨dwa, dwn, dwc⟩, dca, dtv, ddn, dfat, dat_⟩ := d
  unfold evCells
  dsimp only at *
  have hb2 : Below w.heap.size w ((w.alloc (.cells #[.int .i64 k, .int .u32 pc, .int .u32 wd, .int .u32 fpa, .int .u32 pa, .int .u32 ld, .slice fa fn fc, .slice wa wn wc, .int .u32 ca, .int .u32 tv, .bool dn, .int .i64 fat, .int .i64 at_] 27)).alloc (.cells #[.int .i64 dk, .int .u32 dpc, .int .u32 dwd, .int .u32 dfpa, .int .u32 dpa, .int .u32 dld, .slice dfa dfn dfc, .slice dwa dwn dwc, .int .u32 dca, .int .u32 dtv, .bool ddn, .int .i64 dfat, .int .i64 dat_] 27)) := ((Below.refl _ _).alloc (Nat.le_refl _) _).alloc (by simp) _
  go_enter Tryz.func35, Tryz.ntmps35
  go_wp2_with (fail)
  refine (Hfw _ hb2).mono ?_
  rintro x w1 ⟨rfl, hb⟩
  go_wp2
  go_ret
  exact ⟨rfl, hb2.trans (hb.mono hb2.size)⟩
end Go.Proofs.YteilpehekabccaaGreatDoor

/- Is an event as it has to be? Way 10. -/
namespace Go.Proofs.YteilpehekabccaaGreatDoor
open Go.ChangeShapes Go.WideShapes Go.ChangeAt Go.RowKit
set_option linter.unusedVariables false
set_option linter.unusedSimpArgs false

set_option maxHeartbeats 3200000 in
theorem same_10 (e d : W.Ev) (R : Bool) (h0 : (e.k == d.k) = true) (h1 : (e.pc == d.pc) = true) (h2 : (e.wd == d.wd) = true) (h3 : (e.fpa == d.fpa) = true) (h4 : (e.pa == d.pa) = true) (h5 : (e.ld == d.ld) = true) (h6 : (e.ca == d.ca) = true) (h7 : (e.tv == d.tv) = true) (h8 : (e.dn == d.dn) = true) (w : World) (Hfw : ∀ w', Below w.heap.size w w' → Calls Tryz.prog 74 #[.slice e.fw.a e.fw.n e.fw.c, .slice d.fw.a d.fw.n d.fw.c] w' fun x w'' => x = .returned (.bool true) ∧ Below w'.heap.size w' w'') (Hwk : ∀ w', Below w.heap.size w w' → Calls Tryz.prog 74 #[.slice e.wk.a e.wk.n e.wk.c, .slice d.wk.a d.wk.n d.wk.c] w' fun x w'' => x = .returned (.bool R) ∧ Below w'.heap.size w' w'') : Calls Tryz.prog 35 #[.agg (evCells e), .agg (evCells d)] w fun x w' => x = .returned (.bool R) ∧ Below w.heap.size w w' := by
  obtain ⟨k, pc, wd, fpa, pa, ld, ⟨fa, fn, fc⟩, ⟨wa, wn, wc⟩, ca, tv, dn, fat, at_⟩ := e
  obtain ⟨dk, dpc, dwd, dfpa, dpa, dld, ⟨dfa, dfn, dfc⟩, ⟨dwa, dwn, dwc⟩, dca, dtv, ddn, dfat, dat_⟩ := d
  unfold evCells
  dsimp only at *
  have hb2 : Below w.heap.size w ((w.alloc (.cells #[.int .i64 k, .int .u32 pc, .int .u32 wd, .int .u32 fpa, .int .u32 pa, .int .u32 ld, .slice fa fn fc, .slice wa wn wc, .int .u32 ca, .int .u32 tv, .bool dn, .int .i64 fat, .int .i64 at_] 27)).alloc (.cells #[.int .i64 dk, .int .u32 dpc, .int .u32 dwd, .int .u32 dfpa, .int .u32 dpa, .int .u32 dld, .slice dfa dfn dfc, .slice dwa dwn dwc, .int .u32 dca, .int .u32 dtv, .bool ddn, .int .i64 dfat, .int .i64 dat_] 27)) := ((Below.refl _ _).alloc (Nat.le_refl _) _).alloc (by simp) _
  have q1 : ((w.alloc (.cells #[.int .i64 k, .int .u32 pc, .int .u32 wd, .int .u32 fpa, .int .u32 pa, .int .u32 ld, .slice fa fn fc, .slice wa wn wc, .int .u32 ca, .int .u32 tv, .bool dn, .int .i64 fat, .int .i64 at_] 27)).alloc (.cells #[.int .i64 dk, .int .u32 dpc, .int .u32 dwd, .int .u32 dfpa, .int .u32 dpa, .int .u32 dld, .slice dfa dfn dfc, .slice dwa dwn dwc, .int .u32 dca, .int .u32 dtv, .bool ddn, .int .i64 dfat, .int .i64 dat_] 27)).cell? ⟨w.heap.size, 7, none⟩ = some (.slice wa wn wc) := by simp [go_sem]
  have q2 : ((w.alloc (.cells #[.int .i64 k, .int .u32 pc, .int .u32 wd, .int .u32 fpa, .int .u32 pa, .int .u32 ld, .slice fa fn fc, .slice wa wn wc, .int .u32 ca, .int .u32 tv, .bool dn, .int .i64 fat, .int .i64 at_] 27)).alloc (.cells #[.int .i64 dk, .int .u32 dpc, .int .u32 dwd, .int .u32 dfpa, .int .u32 dpa, .int .u32 dld, .slice dfa dfn dfc, .slice dwa dwn dwc, .int .u32 dca, .int .u32 dtv, .bool ddn, .int .i64 dfat, .int .i64 dat_] 27)).cell? ⟨w.heap.size + 1, 7, none⟩ = some (.slice dwa dwn dwc) := by simp [go_sem]
  go_enter Tryz.func35, Tryz.ntmps35
  go_wp2_with (fail)
  refine (Hfw _ hb2).mono ?_
  rintro x w1 ⟨rfl, hb⟩
  have hb3 := hb2.trans (hb.mono hb2.size)
  have s1 := (hb.cell (p := ⟨w.heap.size, 7, none⟩) (by simp; omega)).trans q1
  have s2 := (hb.cell (p := ⟨w.heap.size + 1, 7, none⟩) (by simp)).trans q2
  clear q1 q2
  go_wp2_with (fail)
  refine (Hwk _ hb3).mono ?_
  rintro x w2 ⟨rfl, hb⟩
  go_wp2
  go_ret
  exact ⟨rfl, hb3.trans (hb.mono hb3.size)⟩
end Go.Proofs.YteilpehekabccaaGreatDoor

/- Is an event as it has to be? Every way. -/
namespace Go.Proofs.YteilpehekabccaaGreatDoor
open Go.ChangeShapes Go.WideShapes Go.ChangeAt Go.RowKit
set_option linter.unusedVariables false
set_option linter.unusedSimpArgs false

theorem peq_any (s t : W.Sl) (p : Nat → W.Pt) (w : World) (hr : Reads s.a s.n p w) (h : t = s ∨ t = W.Sl.nil) : Calls Tryz.prog 74 #[.slice s.a s.n s.c, .slice t.a t.n t.c] w fun x w' => x = .returned (.bool (s.n == t.n)) ∧ Below w.heap.size w w' := by
  rcases h with rfl | rfl
  · have := peq_same t.a t.n t.c p w hr
    simpa using this
  · exact peq_nil s.a s.n s.c w

theorem same_any (e d : W.Ev) (q p : Nat → W.Pt) (w : World) (hq : Reads e.fw.a e.fw.n q w) (hp : Reads e.wk.a e.wk.n p w) (hf : d.fw = e.fw ∨ d.fw = W.Sl.nil) (hw : d.wk = e.wk ∨ d.wk = W.Sl.nil) : Calls Tryz.prog 35 #[.agg (evCells e), .agg (evCells d)] w fun x w' => x = .returned (.bool (W.sameE e d)) ∧ Below w.heap.size w w' := by
  unfold W.sameE
  cases h0 : (e.k == d.k)
  case false => exact same_0 e d h0 w
  cases h1 : (e.pc == d.pc)
  case false => exact same_1 e d h0 h1 w
  cases h2 : (e.wd == d.wd)
  case false => exact same_2 e d h0 h1 h2 w
  cases h3 : (e.fpa == d.fpa)
  case false => exact same_3 e d h0 h1 h2 h3 w
  cases h4 : (e.pa == d.pa)
  case false => exact same_4 e d h0 h1 h2 h3 h4 w
  cases h5 : (e.ld == d.ld)
  case false => exact same_5 e d h0 h1 h2 h3 h4 h5 w
  cases h6 : (e.ca == d.ca)
  case false => exact same_6 e d h0 h1 h2 h3 h4 h5 h6 w
  cases h7 : (e.tv == d.tv)
  case false => exact same_7 e d h0 h1 h2 h3 h4 h5 h6 h7 w
  cases h8 : (e.dn == d.dn)
  case false => exact same_8 e d h0 h1 h2 h3 h4 h5 h6 h7 h8 w
  have H1 := fun w' (hb : Below w.heap.size w w') => peq_any e.fw d.fw q w' (hq.below hb) hf
  have H2 := fun w' (hb : Below w.heap.size w w') => peq_any e.wk d.wk p w' (hp.below hb) hw
  cases h9 : (e.fw.n == d.fw.n)
  · rw [h9] at H1
    exact same_9 e d h0 h1 h2 h3 h4 h5 h6 h7 h8 w H1
  · rw [h9] at H1
    exact same_10 e d _ h0 h1 h2 h3 h4 h5 h6 h7 h8 w H1 H2
end Go.Proofs.YteilpehekabccaaGreatDoor
