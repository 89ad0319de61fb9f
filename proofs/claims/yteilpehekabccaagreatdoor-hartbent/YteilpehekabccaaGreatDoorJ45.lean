/- Texts in one: HartQ3, HartQ2. -/
import Derived.Deep.RegionWith
import Derived.Deep.WholeRow
import Derived.Deep.RegionHeld3
import Derived.Test.YteilpehekabccaaGreatDoorJ04
import Derived.Test.YteilpehekabccaaGreatDoorJ32
import Derived.Test.YteilpehekabccaaGreatDoorJ44
/- What is a step just if it is like one; without any Go. -/
namespace Go.Proofs.YteilpehekabccaaGreatDoor.W
open Go.RowKit
set_option linter.unusedVariables false
set_option linter.unusedSimpArgs false

/-- The same, but for times and entries. -/
def likeB (a b : Ev) : Bool := (a.k == b.k) && ((a.pc == b.pc) && ((a.wd == b.wd) && ((a.fpa == b.fpa) && ((a.pa == b.pa) && ((a.ld == b.ld) && ((a.ca == b.ca) && ((a.tv == b.tv) && (a.dn == b.dn))))))))
/-- An interrupt is no step where none can come. -/
theorem rrun_int (H : Ht) (e : Ev) (hp : pend (bell H.G true) = false) (k3 : (e.k == 3) = true) (m : Nat) (B U : Nat → Int) (n : Nat) (A V : Nat → Int) : (rrun H e m B U n A V).w.k = 0 := by
  unfold rrun srun
  show (bif e.k == 3 then sint (st0 H e) else sfet (st0 H e) m B U n A V).w.k = 0
  rw [k3]
  show (sint (st0 H e)).w.k = 0
  unfold sint
  show (bif pend (bell H.G true) then _ else _ : St).w.k = 0
  rw [hp]
  rfl
theorem want_n (H : Ht) (e : Ev) (f0 : e.fw.n = 0) (w0 : e.wk.n = 0) (m : Nat) (B U : Nat → Int) (n : Nat) (A V : Nat → Int) : (rrun H e m B U n A V).w.fw.n = 0 ∧ (rrun H e m B U n A V).w.wk.n = 0 := by
  obtain ⟨h1, h2⟩ := rrun_lists H e m B U n A V
  constructor
  · rcases h1 with h | h <;> rw [h]
    · exact f0
    · rfl
  · rcases h2 with h | h <;> rw [h]
    · exact w0
    · rfl
theorem bent_law (H : Ht) (hp : pend (bell H.G true) = false) (e g : Ev) (e1 : e.fw.n = 0) (e2 : e.wk.n = 0) (g1 : g.fw.n = 0) (g2 : g.wk.n = 0) (h1 : g.wd = e.wd) (h2 : g.ld = e.ld) (h3 : g.dn = e.dn) (m : Nat) (B U : Nat → Int) (n : Nat) (A V : Nat → Int)
    (hok : (!((rrun H e m B U n A V).w.k == 0) && sameE e (rrun H e m B U n A V).w) = true) : (!((rrun H g m B U n A V).w.k == 0) && sameE g (rrun H g m B U n A V).w) = likeB g e := by
  have he3 : (e.k == 3) = false := by
    cases h : (e.k == 3)
    · rfl
    · rw [rrun_int H e hp h] at hok
      simp at hok
  obtain ⟨ne1, ne2⟩ := want_n H e e1 e2 m B U n A V
  obtain ⟨ng1, ng2⟩ := want_n H g g1 g2 m B U n A V
  cases hg3 : (g.k == 3)
  · have hs := rrun_alike H e g m B U n A V h1 h2 h3 he3 hg3
    generalize rrun H e m B U n A V = R at *
    generalize rrun H g m B U n A V = R' at *
    have hw := congrArg St.w hs
    simp only [strip, Ev.mk.injEq] at hw
    obtain ⟨q1, q2, q3, q4, q5, q6, _, _, q7, q8, q9, _, _⟩ := hw
    simp only [sameE, Bool.and_eq_true, beq_iff_eq, Bool.not_eq_true'] at hok
    obtain ⟨k0, r1, r2, r3, r4, r5, r6, r7, r8, r9, _, _⟩ := hok
    unfold sameE likeB
    rw [q1, q2, q3, q4, q5, q6, q7, q8, q9, ng1, ng2, g1, g2, k0, r1, r2, r3, r4, r5, r6, r7, r8, r9]
    simp
  · rw [rrun_int H g hp hg3]
    have : (g.k == e.k) = false := by
      have a1 : g.k = 3 := by simpa using hg3
      have a2 : ¬ e.k = 3 := by simpa using he3
      rw [a1]
      simp only [beq_eq_false_iff_ne, ne_eq]
      exact fun h => a2 h.symm
    simp [likeB, this]
end Go.Proofs.YteilpehekabccaaGreatDoor.W

/- The document's copies and comparisons of events, where the lists are empty. -/
namespace Go.Proofs.YteilpehekabccaaGreatDoor
open Go.ChangeShapes Go.WideShapes Go.ChangeAt Go.RowKit
set_option linter.unusedVariables false
set_option linter.unusedSimpArgs false

/-- The same, but for times and entries. -/
def W.likeE (a b : W.Ev) : Bool := (a.k == b.k) && ((a.pc == b.pc) && ((a.wd == b.wd) && ((a.fpa == b.fpa) && ((a.pa == b.pa) && ((a.ld == b.ld) && ((a.ca == b.ca) && ((a.tv == b.tv) && (a.dn == b.dn))))))))

theorem samep_0 (a b : Option Addr) (c d : Nat) (w : World) : Calls Tryz.prog 59 #[.slice a 0 c, .slice b 0 d] w fun z w' => z = .returned (.bool true) ∧ w = w' := by
  go_enter Tryz.func59, Tryz.ntmps59
  go_wp2
  refine wp_loop_rounds 1 ?_
  rw [rounds_succ]
  go_wp2
  go_ret
  exact ⟨rfl, rfl⟩
theorem make_ptes (w : World) : ∃ o, (Instr.makeSlice 25 (.int .i64 0) (.int .i64 0)).run Tryz.prog w = .ok (.slice (some ⟨w.heap.size, 0, none⟩) 0 0) (w.alloc o) := by
  obtain ⟨i, hi, hzz⟩ := Option.map_eq_some_iff.1 (show (Tryz.prog.info? 119).map (fun i => (i.zero, i.size, i.bytes)) = some (some (.agg #[.int .u32 0, .int .u32 0, .int .u32 0, .int .i64 0, .bool false]), 5, 32) by kernel_rfl)
  simp only [Prod.mk.injEq] at hzz
  obtain ⟨hz, hs, hb⟩ := hzz
  exact ⟨_, run_make (P := Tryz.prog) w 25 119 i _ Tryz.underlying25 hi hz .i64 .i64 0 0 (by omega) (Int.le_refl _) (by rw [hb]; omega) (by omega)⟩
theorem ptes_0 (a : Option Addr) (c : Nat) (w : World) : Calls Tryz.prog 58 #[.slice a 0 c] w fun z w' => (∃ x, z = .returned (.slice x 0 0)) ∧ Below w.heap.size w w' := by
  obtain ⟨o, ho⟩ := make_ptes w
  go_enter Tryz.func58, Tryz.ntmps58
  go_wp2
  refine wp_loop_rounds 1 ?_
  rw [rounds_succ]
  go_wp2
  go_ret
  exact ⟨⟨_, rfl⟩, (Below.refl _ _).alloc (Nat.le_refl _) _⟩

set_option maxHeartbeats 3200000 in
theorem likee_any (a b : W.Ev) (w : World) : Calls Tryz.prog 60 #[.agg (evCells a), .agg (evCells b)] w fun z w' => z = .returned (.bool (W.likeE a b)) ∧ Below w.heap.size w w' := by
  obtain ⟨k, pc, wd, fpa, pa, ld, ⟨fa, fn, fc⟩, ⟨wa, wn, wc⟩, ca, tv, dn, fat, at_⟩ := a
  obtain ⟨k', pc', wd', fpa', pa', ld', ⟨fa', fn', fc'⟩, ⟨wa', wn', wc'⟩, ca', tv', dn', fat', at_'⟩ := b
  unfold W.likeE evCells
  dsimp only
  generalize e1 : (k == k') = q1
  generalize e2 : (pc == pc') = q2
  generalize e3 : (wd == wd') = q3
  generalize e4 : (fpa == fpa') = q4
  generalize e5 : (pa == pa') = q5
  generalize e6 : (ld == ld') = q6
  generalize e7 : (ca == ca') = q7
  generalize e8 : (tv == tv') = q8
  generalize e9 : (dn == dn') = q9
  have fin : ∀ (X Y : Obj), Below w.heap.size w ((w.alloc X).alloc Y) := fun X Y => ((Below.refl _ _).alloc (Nat.le_refl _) _).alloc (by simp) _
  cases q1
  case' true => cases q2
  case' true.true => cases q3
  case' true.true.true => cases q4
  case' true.true.true.true => cases q5
  case' true.true.true.true.true => cases q6
  case' true.true.true.true.true.true => cases q7
  case' true.true.true.true.true.true.true => cases q8
  case' true.true.true.true.true.true.true.true => cases q9
  all_goals
    go_enter Tryz.func60, Tryz.ntmps60
    go_wp2
    go_ret
    exact ⟨rfl, fin _ _⟩

set_option maxHeartbeats 1600000 in
theorem samee_0 (a b : W.Ev) (a1 : a.fw.n = 0) (a2 : a.wk.n = 0) (b1 : b.fw.n = 0) (b2 : b.wk.n = 0) (w : World) : Calls Tryz.prog 22 #[.agg (evCells a), .agg (evCells b)] w fun z w' => z = .returned (.bool ((a.fat == b.fat) && ((a.at_ == b.at_) && W.likeE a b))) ∧ Below w.heap.size w w' := by
  have hl := fun w => likee_any a b w
  obtain ⟨k, pc, wd, fpa, pa, ld, ⟨fa, fn, fc⟩, ⟨wa, wn, wc⟩, ca, tv, dn, fat, at_⟩ := a
  obtain ⟨k', pc', wd', fpa', pa', ld', ⟨fa', fn', fc'⟩, ⟨wa', wn', wc'⟩, ca', tv', dn', fat', at_'⟩ := b
  dsimp only at a1 a2 b1 b2
  subst a1 a2 b1 b2
  unfold evCells at hl ⊢
  dsimp only at hl ⊢
  generalize W.likeE _ _ = lk at *
  generalize e1 : (fat == fat') = q1
  generalize e2 : (at_ == at_') = q2
  have fin : ∀ (X Y : Obj), Below w.heap.size w ((w.alloc X).alloc Y) := fun X Y => ((Below.refl _ _).alloc (Nat.le_refl _) _).alloc (by simp) _
  have hs1 := fun w => samep_0 fa fa' fc fc' w
  have hs2 := fun w => samep_0 wa wa' wc wc' w
  have HH : Hid (_ ∧ _ ∧ _) := ⟨hl, hs1, hs2⟩
  clear hl hs1 hs2
  cases q1
  · go_enter Tryz.func22, Tryz.ntmps22
    go_wp2_with (fail)
    refine (HH.out.2.1 _).mono ?_
    rintro e w' ⟨rfl, rfl⟩
    go_wp2_with (fail)
    refine (HH.out.2.2 _).mono ?_
    rintro e w' ⟨rfl, rfl⟩
    go_wp2
    go_ret
    exact ⟨rfl, fin _ _⟩
  · cases q2
    · go_enter Tryz.func22, Tryz.ntmps22
      go_wp2_with (fail)
      refine (HH.out.2.1 _).mono ?_
      rintro e w' ⟨rfl, rfl⟩
      go_wp2_with (fail)
      refine (HH.out.2.2 _).mono ?_
      rintro e w' ⟨rfl, rfl⟩
      go_wp2
      go_ret
      exact ⟨rfl, fin _ _⟩
    · go_enter Tryz.func22, Tryz.ntmps22
      go_wp2_with (fail)
      refine (HH.out.2.1 _).mono ?_
      rintro e w' ⟨rfl, rfl⟩
      go_wp2_with (fail)
      refine (HH.out.2.2 _).mono ?_
      rintro e w' ⟨rfl, rfl⟩
      go_wp2_with (fail)
      refine (HH.out.1 _).mono ?_
      rintro e w9 ⟨rfl, b9⟩
      go_wp2
      go_ret
      exact ⟨rfl, (fin _ _).trans (b9.mono (by simp; omega))⟩
end Go.Proofs.YteilpehekabccaaGreatDoor
