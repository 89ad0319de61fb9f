/- Texts in one: HartQ4, HartBent0, HartBentF, HartBentN, HartBentPt, HartBentPf. -/
import Derived.Deep.RegionWith
import Derived.Deep.RegionHeld3
import Derived.Test.YteilpehekabccaaGreatDoorJ32
import Derived.Test.YteilpehekabccaaGreatDoorJ44
import Derived.Test.YteilpehekabccaaGreatDoorJ45
/- The document's copy of an event, where the lists are empty. -/
namespace Go.Proofs.YteilpehekabccaaGreatDoor
open Go.ChangeShapes Go.WideShapes Go.ChangeAt Go.RowKit
set_option linter.unusedVariables false
set_option linter.unusedSimpArgs false

def stE (a : Addr) (v : Value) : Sem Unit := storeVar 27 a v
theorem stE_eq (a : Addr) (v : Value) : storeVar 27 a v = stE a v := rfl
theorem info27 : (Tryz.prog.info? 27).map (·.size) = some 13 := by kernel_rfl
theorem ev_st {g : Nat} {w : World} {CS : Array Value} (h : ∃ Z : Array Value, Z.size = 13 ∧ w.heap[g]? = some (.cells Z 27)) (hs : CS.size = 13) (ha : CS.all (fun x => x.oneCell') = true) : (stE ⟨g, 0, none⟩ (.agg CS)).run Tryz.prog w = .ok () (w.setRow g CS) := by
  obtain ⟨Z, hz, hh⟩ := h
  exact run_storeVar_row w g _ _ _ _ hh (by rw [info27, hs]) (by rw [hz, hs]) ha

abbrev SEv (w : World) (k pc wd fpa pa ld ca tv fat at_ : Int) (fa wa : Option Addr) (fc wc : Nat) (dn : Bool) (w' : World) : Prop := Below w.heap.size w w' ∧ w.heap.size + 1 < w'.heap.size ∧ (∃ Z : Array Value, Z.size = 13 ∧ w'.heap[w.heap.size + 1]? = some (.cells Z 27)) ∧ (∀ x y : Option Addr, (stE ⟨w.heap.size + 1, 0, none⟩ (.agg #[.int .i64 k, .int .u32 pc, .int .u32 wd, .int .u32 fpa, .int .u32 pa, .int .u32 ld, .slice x 0 0, .slice y 0 0, .int .u32 ca, .int .u32 tv, .bool dn, .int .i64 fat, .int .i64 at_])).run Tryz.prog w' = .ok () (w'.setRow (w.heap.size + 1) #[.int .i64 k, .int .u32 pc, .int .u32 wd, .int .u32 fpa, .int .u32 pa, .int .u32 ld, .slice x 0 0, .slice y 0 0, .int .u32 ca, .int .u32 tv, .bool dn, .int .i64 fat, .int .i64 at_])) ∧ w'.cell? ⟨w.heap.size, 0, none⟩ = some (.int .i64 k) ∧ w'.cell? ⟨w.heap.size, 1, none⟩ = some (.int .u32 pc) ∧ w'.cell? ⟨w.heap.size, 2, none⟩ = some (.int .u32 wd) ∧ w'.cell? ⟨w.heap.size, 3, none⟩ = some (.int .u32 fpa) ∧ w'.cell? ⟨w.heap.size, 4, none⟩ = some (.int .u32 pa) ∧ w'.cell? ⟨w.heap.size, 5, none⟩ = some (.int .u32 ld) ∧ w'.cell? ⟨w.heap.size, 6, none⟩ = some (.slice fa 0 fc) ∧ w'.cell? ⟨w.heap.size, 7, none⟩ = some (.slice wa 0 wc) ∧ w'.cell? ⟨w.heap.size, 8, none⟩ = some (.int .u32 ca) ∧ w'.cell? ⟨w.heap.size, 9, none⟩ = some (.int .u32 tv) ∧ w'.cell? ⟨w.heap.size, 10, none⟩ = some (.bool dn) ∧ w'.cell? ⟨w.heap.size, 11, none⟩ = some (.int .i64 fat) ∧ w'.cell? ⟨w.heap.size, 12, none⟩ = some (.int .i64 at_)
theorem SEv.below {w a b : World} {k pc wd fpa pa ld ca tv fat at_ : Int} {fa wa : Option Addr} {fc wc : Nat} {dn : Bool} (h : SEv w k pc wd fpa pa ld ca tv fat at_ fa wa fc wc dn a) (hm : Below a.heap.size a b) : SEv w k pc wd fpa pa ld ca tv fat at_ fa wa fc wc dn b := by
  obtain ⟨h1, h2, ⟨Z, hz, hh⟩, _, h3⟩ := h
  have q : ∀ j, b.cell? ⟨w.heap.size, j, none⟩ = a.cell? ⟨w.heap.size, j, none⟩ := fun j => hm.cell (by show w.heap.size < a.heap.size; omega)
  refine ⟨h1.trans (hm.mono (by omega)), Nat.lt_of_lt_of_le h2 hm.size, ⟨Z, hz, (hm.block _ h2).trans hh⟩, fun x y => ev_st ⟨Z, hz, (hm.block _ h2).trans hh⟩ rfl (by simp [Value.oneCell']), ?_⟩
  simp only [q]
  exact h3
theorem SEv.set {w a : World} {k pc wd fpa pa ld ca tv fat at_ : Int} {fa wa : Option Addr} {fc wc : Nat} {dn : Bool} {CS : Array Value} (h : SEv w k pc wd fpa pa ld ca tv fat at_ fa wa fc wc dn a) (hc : CS.size = 13) : SEv w k pc wd fpa pa ld ca tv fat at_ fa wa fc wc dn (a.setRow (w.heap.size + 1) CS) := by
  obtain ⟨h1, h2, ⟨Z, hz, hh⟩, _, h3⟩ := h
  have q : ∀ j, (a.setRow (w.heap.size + 1) CS).cell? ⟨w.heap.size, j, none⟩ = a.cell? ⟨w.heap.size, j, none⟩ := fun j => cell_setRow_other a _ CS _ (by show w.heap.size ≠ w.heap.size + 1; omega)
  refine ⟨below_over h1 (gsetRow a _ CS) (by omega) (by omega), by simpa using h2, ⟨CS, hc, setRow_heap a _ Z CS _ _ hh⟩, fun x y => ev_st ⟨CS, hc, setRow_heap a _ Z CS _ _ hh⟩ rfl (by simp [Value.oneCell']), ?_⟩
  simp only [q]
  exact h3
theorem SEv.start (w : World) (k pc wd fpa pa ld ca tv fat at_ : Int) (fa wa : Option Addr) (fc wc : Nat) (dn : Bool) : SEv w k pc wd fpa pa ld ca tv fat at_ fa wa fc wc dn ((w.alloc (.cells #[.int .i64 k, .int .u32 pc, .int .u32 wd, .int .u32 fpa, .int .u32 pa, .int .u32 ld, .slice fa 0 fc, .slice wa 0 wc, .int .u32 ca, .int .u32 tv, .bool dn, .int .i64 fat, .int .i64 at_] 27)).alloc (.cells #[.int .i64 0, .int .u32 0, .int .u32 0, .int .u32 0, .int .u32 0, .int .u32 0, .slice none 0 0, .slice none 0 0, .int .u32 0, .int .u32 0, .bool false, .int .i64 0, .int .i64 0] 27)).drew := by
  obtain ⟨e1, e2⟩ := ev_two w (.cells #[.int .i64 k, .int .u32 pc, .int .u32 wd, .int .u32 fpa, .int .u32 pa, .int .u32 ld, .slice fa 0 fc, .slice wa 0 wc, .int .u32 ca, .int .u32 tv, .bool dn, .int .i64 fat, .int .i64 at_] 27) (.cells #[.int .i64 0, .int .u32 0, .int .u32 0, .int .u32 0, .int .u32 0, .int .u32 0, .slice none 0 0, .slice none 0 0, .int .u32 0, .int .u32 0, .bool false, .int .i64 0, .int .i64 0] 27)
  refine SEv.below (a := (w.alloc (.cells #[.int .i64 k, .int .u32 pc, .int .u32 wd, .int .u32 fpa, .int .u32 pa, .int .u32 ld, .slice fa 0 fc, .slice wa 0 wc, .int .u32 ca, .int .u32 tv, .bool dn, .int .i64 fat, .int .i64 at_] 27)).alloc (.cells #[.int .i64 0, .int .u32 0, .int .u32 0, .int .u32 0, .int .u32 0, .int .u32 0, .slice none 0 0, .slice none 0 0, .int .u32 0, .int .u32 0, .bool false, .int .i64 0, .int .i64 0] 27)) ⟨((Below.refl _ _).alloc (Nat.le_refl _) _).alloc (by simp) _, by simp, ⟨_, rfl, e2⟩, fun x y => ev_st ⟨_, rfl, e2⟩ rfl (by simp [Value.oneCell']), ?_⟩ (Below.refl _ _).drew
  simp [World.cell?, e1]
attribute [local go_sem ↓] ldE_eq stE_eq
set_option maxRecDepth 100000 in
set_option maxHeartbeats 3200000 in
theorem event_0 (a : W.Ev) (a1 : a.fw.n = 0) (a2 : a.wk.n = 0) (w : World) : Calls Tryz.prog 21 #[.agg (evCells a)] w fun z w' => (∃ x y, z = .returned (.agg (evCells { a with fw := ⟨x, 0, 0⟩, wk := ⟨y, 0, 0⟩ }))) ∧ Below w.heap.size w w' := by
  obtain ⟨k, pc, wd, fpa, pa, ld, ⟨fa, fn, fc⟩, ⟨wa, wn, wc⟩, ca, tv, dn, fat, at_⟩ := a
  dsimp only at a1 a2
  subst a1 a2
  have s0 := SEv.start w k pc wd fpa pa ld ca tv fat at_ fa wa fc wc dn
  have HS : Hid (SEv w k pc wd fpa pa ld ca tv fat at_ fa wa fc wc dn _) := s0
  clear s0
  unfold evCells
  dsimp only
  have hs1 := fun w => ptes_0 fa fc w
  have hs2 := fun w => ptes_0 wa wc w
  have HH : Hid (_ ∧ _) := ⟨hs1, hs2⟩
  clear hs1 hs2
  go_enter Tryz.func21, Tryz.ntmps21
  go_wp2_with (fail)
  go_region_held3 (fun w' => Below w.heap.size w w' ∧ w.heap.size + 1 < w'.heap.size ∧ (∃ Z : Array Value, Z.size = 13 ∧ w'.heap[w.heap.size + 1]? = some (.cells Z 27)) ∧ (∀ x y : Option Addr, (stE ⟨w.heap.size + 1, 0, none⟩ (.agg #[.int .i64 k, .int .u32 pc, .int .u32 wd, .int .u32 fpa, .int .u32 pa, .int .u32 ld, .slice x 0 0, .slice y 0 0, .int .u32 ca, .int .u32 tv, .bool dn, .int .i64 fat, .int .i64 at_])).run Tryz.prog w' = .ok () (w'.setRow (w.heap.size + 1) #[.int .i64 k, .int .u32 pc, .int .u32 wd, .int .u32 fpa, .int .u32 pa, .int .u32 ld, .slice x 0 0, .slice y 0 0, .int .u32 ca, .int .u32 tv, .bool dn, .int .i64 fat, .int .i64 at_])) ∧ w'.cell? ⟨w.heap.size, 0, none⟩ = some (.int .i64 k) ∧ w'.cell? ⟨w.heap.size, 1, none⟩ = some (.int .u32 pc) ∧ w'.cell? ⟨w.heap.size, 2, none⟩ = some (.int .u32 wd) ∧ w'.cell? ⟨w.heap.size, 3, none⟩ = some (.int .u32 fpa) ∧ w'.cell? ⟨w.heap.size, 4, none⟩ = some (.int .u32 pa) ∧ w'.cell? ⟨w.heap.size, 5, none⟩ = some (.int .u32 ld) ∧ w'.cell? ⟨w.heap.size, 6, none⟩ = some (.slice fa 0 fc) ∧ w'.cell? ⟨w.heap.size, 7, none⟩ = some (.slice wa 0 wc) ∧ w'.cell? ⟨w.heap.size, 8, none⟩ = some (.int .u32 ca) ∧ w'.cell? ⟨w.heap.size, 9, none⟩ = some (.int .u32 tv) ∧ w'.cell? ⟨w.heap.size, 10, none⟩ = some (.bool dn) ∧ w'.cell? ⟨w.heap.size, 11, none⟩ = some (.int .i64 fat) ∧ w'.cell? ⟨w.heap.size, 12, none⟩ = some (.int .i64 at_))
    (first
      | exact HS.out
      | (refine SEv.below ?_ bb; assumption)
      | (refine SEv.below ?_ ba; assumption)
      | (refine SEv.set (CS := #[.int .i64 k, .int .u32 pc, .int .u32 wd, .int .u32 fpa, .int .u32 pa, .int .u32 ld, .slice x 0 0, .slice y 0 0, .int .u32 ca, .int .u32 tv, .bool dn, .int .i64 fat, .int .i64 at_]) ?_ rfl; assumption)
      | with_reducible assumption)
    (first
      | (go_at_call_of 58 (Value.slice fa 0 fc); refine (HH.out.1 _).mono ?_; rintro e wa' ⟨⟨x, rfl⟩, ba⟩)
      | (go_at_call_of 58 (Value.slice wa 0 wc); refine (HH.out.2 _).mono ?_; rintro e wb' ⟨⟨y, rfl⟩, bb⟩))
  all_goals
    obtain ⟨B9, _, ⟨Z, hz, hh⟩, _⟩ : SEv w k pc wd fpa pa ld ca tv fat at_ fa wa fc wc dn wb' := SEv.below (SEv.below HS.out ba) bb
    have F : (ldE ⟨w.heap.size + 1, 0, none⟩).run Tryz.prog (wb'.setRow (w.heap.size + 1) #[.int .i64 k, .int .u32 pc, .int .u32 wd, .int .u32 fpa, .int .u32 pa, .int .u32 ld, .slice x 0 0, .slice y 0 0, .int .u32 ca, .int .u32 tv, .bool dn, .int .i64 fat, .int .i64 at_]) = .ok (.agg #[.int .i64 k, .int .u32 pc, .int .u32 wd, .int .u32 fpa, .int .u32 pa, .int .u32 ld, .slice x 0 0, .slice y 0 0, .int .u32 ca, .int .u32 tv, .bool dn, .int .i64 fat, .int .i64 at_]) (wb'.setRow (w.heap.size + 1) #[.int .i64 k, .int .u32 pc, .int .u32 wd, .int .u32 fpa, .int .u32 pa, .int .u32 ld, .slice x 0 0, .slice y 0 0, .int .u32 ca, .int .u32 tv, .bool dn, .int .i64 fat, .int .i64 at_]) := ev_load (ev := ⟨k, pc, wd, fpa, pa, ld, ⟨x, 0, 0⟩, ⟨y, 0, 0⟩, ca, tv, dn, fat, at_⟩) (setRow_heap wb' _ Z _ _ _ hh)
    go_wp2
    refine bodyPost_ret (v := .agg #[.int .i64 k, .int .u32 pc, .int .u32 wd, .int .u32 fpa, .int .u32 pa, .int .u32 ld, .slice x 0 0, .slice y 0 0, .int .u32 ca, .int .u32 tv, .bool dn, .int .i64 fat, .int .i64 at_]) (by simp [results, Tryz.results21, asAddr, ldE_eq, F]) rfl ⟨⟨x, y, rfl⟩, below_over B9 (gsetRow _ _ _) (by omega) B9.size⟩
end Go.Proofs.YteilpehekabccaaGreatDoor

/- HartBent, walked: what it calls. -/
namespace Go.Proofs.YteilpehekabccaaGreatDoor
open Go.ChangeShapes Go.WideShapes Go.ChangeAt Go.RowKit
set_option linter.unusedVariables false
set_option linter.unusedSimpArgs false

/-- Replay of an event whose lists are empty. -/
theorem replay_e (b : Nat) (H : W.Ht) (ev : W.Ev) (E : Addr) (hH : W.HOk H) (hwd : W.Rg ev.wd) (f0 : ev.fw.n = 0) (k0 : ev.wk.n = 0) (ok : Bool) (rr : W.St) (hrr : W.rrun H ev 0 (fun _ => (0 : Int)) (fun _ => (0 : Int)) 0 (fun _ => (0 : Int)) (fun _ => (0 : Int)) = rr) (hok : (!(rr.w.k == 0) && W.sameE ev rr.w) = ok) (w : World) (h : HAt b H w) (hE : Tr E w) :
    Calls Tryz.prog 14 #[.pointer (some ⟨b, 0, none⟩), .agg (evCells ev)] w fun z w' => z = .returned (bif ok then .tuple #[.agg (efCells rr.e), .nilIface] else .tuple #[.agg (efCells W.Ef.no), .iface 211 (.pointer (some E))]) ∧ HAt b (bif ok then rr.h else H) w' ∧ w.grownBy w' (some b) := by
  have hl := W.rrun_lists H ev 0 (fun _ => (0 : Int)) (fun _ => (0 : Int)) 0 (fun _ => (0 : Int)) (fun _ => (0 : Int))
  rw [hrr] at hl
  refine replay_any b H ev (fun _ => ⟨0, 0, 0, 0, false⟩) (fun _ => ⟨0, 0, 0, 0, false⟩) E hH hwd (by omega) (by omega) w h hE (by rw [f0]; exact ⟨Nat.zero_le _, fun h => absurd h (by decide), fun _ => ⟨(by decide : (0 : Int) ≤ 0), (by decide : (0 : Int) < 4294967296)⟩⟩) (by rw [k0]; exact ⟨Nat.zero_le _, fun h => absurd h (by decide), fun _ => ⟨(by decide : (0 : Int) ≤ 0), (by decide : (0 : Int) < 4294967296)⟩⟩) rr ?_ hl.1 hl.2 ok hok
  rw [f0, k0]
  exact hrr
theorem like_eq (a b : W.Ev) : W.likeE a b = W.likeB a b := rfl

/-- Two harts of a law's own, and the event that was handed in. -/
structure Hv (E : Addr) (c d g : Nat) (H K : W.Ht) (ev : W.Ev) (n : Nat) (w0 w : World) : Prop where
  k : HAt c H w
  kd : HAt d K w
  t : Tr E w
  b : Below n w0 w
  s : n ≤ w.heap.size
  hc : n ≤ c
  hd : n ≤ d
  cd : c ≠ d
  gn : g < n
  gg : w.heap[g]? = some (.cells (evCells ev) 27)
theorem Hv.below {E : Addr} {c d g n : Nat} {H K : W.Ht} {ev : W.Ev} {w0 w w' : World} (h : Hv E c d g H K ev n w0 w) (hb : Below w.heap.size w w') : Hv E c d g H K ev n w0 w' :=
  ⟨h.k.below hb, h.kd.below hb, h.t.below hb, h.b.trans (hb.mono h.s), Nat.le_trans h.s hb.size, h.hc, h.hd, h.cd, h.gn, (hb.block g (Nat.lt_of_lt_of_le h.gn h.s)).trans h.gg⟩
theorem Hv.alloc {E : Addr} {c d g n : Nat} {H K : W.Ht} {ev : W.Ev} {w0 w : World} (h : Hv E c d g H K ev n w0 w) (o : Obj) : Hv E c d g H K ev n w0 (w.alloc o) := h.below ((Below.refl _ _).alloc (Nat.le_refl _) _)
theorem Hv.stepc {E : Addr} {c d g n : Nat} {H K L : W.Ht} {ev : W.Ev} {w0 w w' : World} (h : Hv E c d g H K ev n w0 w) (k : HAt c L w') (hg : w.grownBy w' (some c)) : Hv E c d g L K ev n w0 w' :=
  ⟨k, h.kd.kept hg (Ne.symm h.cd), h.t.over hg (by have := h.hc; have := h.gn; omega), below_over h.b hg h.hc h.s, Nat.le_trans h.s hg.size, h.hc, h.hd, h.cd, h.gn, (hg.block g (Nat.lt_of_lt_of_le h.gn h.s) (by have := h.hc; have := h.gn; simp; omega)).trans h.gg⟩
theorem Hv.stepd {E : Addr} {c d g n : Nat} {H K L : W.Ht} {ev : W.Ev} {w0 w w' : World} (h : Hv E c d g H K ev n w0 w) (k : HAt d L w') (hg : w.grownBy w' (some d)) : Hv E c d g H L ev n w0 w' :=
  ⟨h.k.kept hg h.cd, k, h.t.over hg (by have := h.hd; have := h.gn; omega), below_over h.b hg h.hd h.s, Nat.le_trans h.s hg.size, h.hc, h.hd, h.cd, h.gn, (hg.block g (Nat.lt_of_lt_of_le h.gn h.s) (by have := h.hd; have := h.gn; simp; omega)).trans h.gg⟩
theorem Hv.ld {E : Addr} {c d g n : Nat} {H K : W.Ht} {ev : W.Ev} {w0 w : World} (h : Hv E c d g H K ev n w0 w) : (ldE ⟨g, 0, none⟩).run Tryz.prog w = .ok (.agg (evCells ev)) w := ev_load h.gg
end Go.Proofs.YteilpehekabccaaGreatDoor

/- HartBent, walked: entries. -/
namespace Go.Proofs.YteilpehekabccaaGreatDoor
open Go.ChangeShapes Go.WideShapes Go.ChangeAt Go.RowKit
set_option linter.unusedVariables false
set_option linter.unusedSimpArgs false

set_option maxRecDepth 100000 in
set_option maxHeartbeats 1000000 in
theorem hb_f (E : Addr) (k pc wd fpa pa ld : Int) (fa wa : Option Addr) (fn fc wn wc : Nat) (ca tv : Int) (dn : Bool) (fat at_ : Int) (at' v : Int) (h : 0 < fn) (w : World) (hE : Tr E w) :
    Calls Tryz.prog 4 #[.agg #[.int .i64 k, .int .u32 pc, .int .u32 wd, .int .u32 fpa, .int .u32 pa, .int .u32 ld, .slice fa fn fc, .slice wa wn wc, .int .u32 ca, .int .u32 tv, .bool dn, .int .i64 fat, .int .i64 at_], .int .i64 at', .int .u32 v] w fun e w' => e = .returned (.bool true) ∧ Below w.heap.size w w' := by
  have hF := fun w1 (k : Tr E w1) => first10_any E w1 k
  have HF : Hid (∀ w1, Tr E w1 → _) := hF
  clear hF
  have hB : ∀ o : Obj, Below w.heap.size w (w.alloc o) := fun o => (Below.refl _ _).alloc (Nat.le_refl _) _
  go_enter Tryz.func4, Tryz.ntmps4
  go_wp2_with (fail)
  refine (HF.out _ (hE.below (hB _))).mono ?_
  rintro e w1 ⟨rfl, b1⟩
  have B1 := (hB (.cells #[.int .i64 k, .int .u32 pc, .int .u32 wd, .int .u32 fpa, .int .u32 pa, .int .u32 ld, .slice fa fn fc, .slice wa wn wc, .int .u32 ca, .int .u32 tv, .bool dn, .int .i64 fat, .int .i64 at_] 27)).trans (b1.mono (by simp))
  have gg : w1.heap[w.heap.size]? = some (.cells #[.int .i64 k, .int .u32 pc, .int .u32 wd, .int .u32 fpa, .int .u32 pa, .int .u32 ld, .slice fa fn fc, .slice wa wn wc, .int .u32 ca, .int .u32 tv, .bool dn, .int .i64 fat, .int .i64 at_] 27) := (b1.block w.heap.size (by simp)).trans (heap_alloc_last w _)
  have gl : w.heap.size < w1.heap.size := (Array.getElem?_eq_some_iff.1 gg).1
  have e6 : w1.cell? ⟨w.heap.size, 6, none⟩ = some (.slice fa fn fc) := by simp [World.cell?, gg]
  have e7 : w1.cell? ⟨w.heap.size, 7, none⟩ = some (.slice wa wn wc) := by simp [World.cell?, gg]
  have h' : (0 : Int) < (fn : Int) := by omega
  go_wp2
  go_ret
  exact ⟨rfl, B1⟩

set_option maxRecDepth 100000 in
set_option maxHeartbeats 1000000 in
theorem hb_w (E : Addr) (k pc wd fpa pa ld : Int) (fa wa : Option Addr) (fn fc wn wc : Nat) (ca tv : Int) (dn : Bool) (fat at_ : Int) (at' v : Int) (hf : fn = 0) (h : 0 < wn) (w : World) (hE : Tr E w) :
    Calls Tryz.prog 4 #[.agg #[.int .i64 k, .int .u32 pc, .int .u32 wd, .int .u32 fpa, .int .u32 pa, .int .u32 ld, .slice fa fn fc, .slice wa wn wc, .int .u32 ca, .int .u32 tv, .bool dn, .int .i64 fat, .int .i64 at_], .int .i64 at', .int .u32 v] w fun e w' => e = .returned (.bool true) ∧ Below w.heap.size w w' := by
  subst hf
  have hF := fun w1 (k : Tr E w1) => first10_any E w1 k
  have HF : Hid (∀ w1, Tr E w1 → _) := hF
  clear hF
  have hB : ∀ o : Obj, Below w.heap.size w (w.alloc o) := fun o => (Below.refl _ _).alloc (Nat.le_refl _) _
  go_enter Tryz.func4, Tryz.ntmps4
  go_wp2_with (fail)
  refine (HF.out _ (hE.below (hB _))).mono ?_
  rintro e w1 ⟨rfl, b1⟩
  have B1 := (hB (.cells #[.int .i64 k, .int .u32 pc, .int .u32 wd, .int .u32 fpa, .int .u32 pa, .int .u32 ld, .slice fa 0 fc, .slice wa wn wc, .int .u32 ca, .int .u32 tv, .bool dn, .int .i64 fat, .int .i64 at_] 27)).trans (b1.mono (by simp))
  have gg : w1.heap[w.heap.size]? = some (.cells #[.int .i64 k, .int .u32 pc, .int .u32 wd, .int .u32 fpa, .int .u32 pa, .int .u32 ld, .slice fa 0 fc, .slice wa wn wc, .int .u32 ca, .int .u32 tv, .bool dn, .int .i64 fat, .int .i64 at_] 27) := (b1.block w.heap.size (by simp)).trans (heap_alloc_last w _)
  have gl : w.heap.size < w1.heap.size := (Array.getElem?_eq_some_iff.1 gg).1
  have e6 : w1.cell? ⟨w.heap.size, 6, none⟩ = some (.slice fa 0 fc) := by simp [World.cell?, gg]
  have e7 : w1.cell? ⟨w.heap.size, 7, none⟩ = some (.slice wa wn wc) := by simp [World.cell?, gg]
  have h' : (0 : Int) < (wn : Int) := by omega
  go_wp2
  go_ret
  exact ⟨rfl, B1⟩
end Go.Proofs.YteilpehekabccaaGreatDoor

/- HartBent, walked: no step. -/
namespace Go.Proofs.YteilpehekabccaaGreatDoor
open Go.ChangeShapes Go.WideShapes Go.ChangeAt Go.RowKit
set_option linter.unusedVariables false
set_option linter.unusedSimpArgs false

attribute [local go_sem ↓] ldE_eq
set_option maxRecDepth 100000 in
set_option maxHeartbeats 3200000 in
theorem hb_n (E : Addr) (ev : W.Ev) (at' v : Int) (hwd : W.Rg ev.wd) (f0 : ev.fw.n = 0) (w0 : ev.wk.n = 0) (hok : (!((W.rrun (W.H0 0 4096) ev 0 (fun _ => (0 : Int)) (fun _ => (0 : Int)) 0 (fun _ => (0 : Int)) (fun _ => (0 : Int))).w.k == 0) && W.sameE ev (W.rrun (W.H0 0 4096) ev 0 (fun _ => (0 : Int)) (fun _ => (0 : Int)) 0 (fun _ => (0 : Int)) (fun _ => (0 : Int))).w) = false) (w : World) (hE : Tr E w) :
    Calls Tryz.prog 4 #[.agg (evCells ev), .int .i64 at', .int .u32 v] w fun e w' => e = .returned (.bool true) ∧ Below w.heap.size w w' := by
  have hF := fun w1 (k : Tr E w1) => first10_any E w1 k
  have hN := hnew_any 0 4096
  have hC := fun c w1 (k : HAt c (W.H0 0 4096) w1) => clone_any c (W.H0 0 4096) w1 k
  have hR := fun c w1 (k : HAt c (W.H0 0 4096) w1) (t : Tr E w1) => replay_e c (W.H0 0 4096) ev E (H0_ok 0 4096) hwd f0 w0 false _ rfl hok w1 k t
  have hB : ∀ o : Obj, Below w.heap.size w (w.alloc o) := fun o => (Below.refl _ _).alloc (Nat.le_refl _) _
  have c6 : (evCells ev)[6]? = some (.slice ev.fw.a 0 ev.fw.c) := by rw [← f0]; rfl
  have c7 : (evCells ev)[7]? = some (.slice ev.wk.a 0 ev.wk.c) := by rw [← w0]; rfl
  have hvs : ∀ c d g n w0 w, Hv E c d g (W.H0 0 4096) (W.H0 0 4096) ev n w0 w → (ldE ⟨g, 0, none⟩).run Tryz.prog w = .ok (.agg (evCells ev)) w := fun c d g n w0 w h => h.ld
  have hv2 : ∀ c d g n (L : W.Ht) w0 w, Hv E c d g L (W.H0 0 4096) ev n w0 w → (ldE ⟨g, 0, none⟩).run Tryz.prog w = .ok (.agg (evCells ev)) w := fun c d g n L w0 w h => h.ld
  simp only [cond_true, cond_false, efCells, W.Ef.no] at hR
  have hmk : ∀ c d g n w0 w, HAt c (W.H0 0 4096) w → HAt d (W.H0 0 4096) w → Tr E w → Below n w0 w → n ≤ w.heap.size → n ≤ c → n ≤ d → c ≠ d → g < n → w.heap[g]? = some (.cells (evCells ev) 27) → Hv E c d g (W.H0 0 4096) (W.H0 0 4096) ev n w0 w := fun c d g n w0 w a1 a2 a3 a4 a5 a6 a7 a8 a9 a10 => ⟨a1, a2, a3, a4, a5, a6, a7, a8, a9, a10⟩
  generalize hRR : W.rrun (W.H0 0 4096) ev 0 (fun _ => (0 : Int)) (fun _ => (0 : Int)) 0 (fun _ => (0 : Int)) (fun _ => (0 : Int)) = rr at *
  generalize evCells ev = ES at *
  generalize W.H0 0 4096 = h0 at *
  have HH : Hid (_ ∧ _ ∧ _ ∧ _ ∧ _ ∧ _ ∧ _ ∧ _ ∧ _) := ⟨hF, hN, hC, hR, hvs, hv2, hmk, c6, c7⟩
  clear hF hN hC hR hvs hv2 hmk c6 c7 hok
  go_enter Tryz.func4, Tryz.ntmps4
  go_wp2_with (fail)
  refine (HH.out.1 _ (hE.below (hB _))).mono ?_
  rintro e w1 ⟨rfl, b1⟩
  have B1 := (hB (.cells ES 27)).trans (b1.mono (by simp))
  have gg : w1.heap[w.heap.size]? = some (.cells ES 27) := (b1.block w.heap.size (by simp)).trans (heap_alloc_last w _)
  have gl : w.heap.size < w1.heap.size := (Array.getElem?_eq_some_iff.1 gg).1
  have e6 : w1.cell? ⟨w.heap.size, 6, none⟩ = some (.slice ev.fw.a 0 ev.fw.c) := by simp only [World.cell?, gg]; exact HH.out.2.2.2.2.2.2.2.1
  have e7 : w1.cell? ⟨w.heap.size, 7, none⟩ = some (.slice ev.wk.a 0 ev.wk.c) := by simp only [World.cell?, gg]; exact HH.out.2.2.2.2.2.2.2.2
  have T1 := hE.below B1
  go_wp2_with (fail)
  refine (HH.out.2.1 _).mono ?_
  rintro e w2 ⟨c, hc, rfl, k2, b2⟩
  have l2 := k2.lt
  go_wp2_with (fail)
  refine (HH.out.2.2.1 c _ k2).mono ?_
  rintro e w3 ⟨rfl, kd, b3⟩
  have S3 := HH.out.2.2.2.2.2.2.1 c w2.heap.size w.heap.size w1.heap.size w1 w3 (k2.below b3) kd ((T1.below b2).below b3) (b2.trans (b3.mono b2.size)) (Nat.le_trans b2.size b3.size) hc b2.size (by omega) gl ((b3.block _ (Nat.lt_of_lt_of_le gl b2.size)).trans ((b2.block _ gl).trans gg))
  clear k2 kd b3 e6 e7
  have ld3 := HH.out.2.2.2.2.1 _ _ _ _ _ _ S3
  have g3 : w.heap.size < w3.heap.size := Nat.lt_of_lt_of_le gl S3.s
  go_wp2_with (fail)
  refine (HH.out.2.2.2.1 c _ S3.k S3.t).mono ?_
  rintro e w4 ⟨rfl, k4, g4⟩
  go_wp2
  go_ret
  exact ⟨rfl, B1.trans ((((S3.stepc k4 g4).alloc _).b).mono B1.size)⟩
end Go.Proofs.YteilpehekabccaaGreatDoor

/- HartBent, walked: a step, turned. -/
namespace Go.Proofs.YteilpehekabccaaGreatDoor
open Go.ChangeShapes Go.WideShapes Go.ChangeAt Go.RowKit
set_option linter.unusedVariables false
set_option linter.unusedSimpArgs false

attribute [local go_sem ↓] ldE_eq
set_option maxRecDepth 100000 in
set_option maxHeartbeats 1000000 in
theorem hb_Pt (E : Addr) (ev : W.Ev) (at' v : Int) (hwd : W.Rg ev.wd) (f0 : ev.fw.n = 0) (w0 : ev.wk.n = 0) (hok : (!((W.rrun (W.H0 0 4096) ev 0 (fun _ => (0 : Int)) (fun _ => (0 : Int)) 0 (fun _ => (0 : Int)) (fun _ => (0 : Int))).w.k == 0) && W.sameE ev (W.rrun (W.H0 0 4096) ev 0 (fun _ => (0 : Int)) (fun _ => (0 : Int)) 0 (fun _ => (0 : Int)) (fun _ => (0 : Int))).w) = true) (hT : ∀ w, Calls Tryz.prog 19 #[.int .i64 at', .int .i64 5] w fun z w' => z = .returned (.int .i64 0) ∧ w = w') (hq : W.likeB (({ ev with fw := W.Sl.nil, wk := W.Sl.nil, pc := v } : W.Ev)) ev = true) (w : World) (hE : Tr E w) :
    Calls Tryz.prog 4 #[.agg (evCells ev), .int .i64 at', .int .u32 v] w fun e w' => e = .returned (.bool true) ∧ Below w.heap.size w w' := by
  have hF := fun w1 (k : Tr E w1) => first10_any E w1 k
  have hN := hnew_any 0 4096
  have hC := fun c w1 (k : HAt c (W.H0 0 4096) w1) => clone_any c (W.H0 0 4096) w1 k
  have hR := fun c w1 (k : HAt c (W.H0 0 4096) w1) (t : Tr E w1) => replay_e c (W.H0 0 4096) ev E (H0_ok 0 4096) hwd f0 w0 true _ rfl hok w1 k t
  have hB : ∀ o : Obj, Below w.heap.size w (w.alloc o) := fun o => (Below.refl _ _).alloc (Nat.le_refl _) _
  have c6 : (evCells ev)[6]? = some (.slice ev.fw.a 0 ev.fw.c) := by rw [← f0]; rfl
  have c7 : (evCells ev)[7]? = some (.slice ev.wk.a 0 ev.wk.c) := by rw [← w0]; rfl
  have hvs : ∀ c d g n w0 w, Hv E c d g (W.H0 0 4096) (W.H0 0 4096) ev n w0 w → (ldE ⟨g, 0, none⟩).run Tryz.prog w = .ok (.agg (evCells ev)) w := fun c d g n w0 w h => h.ld
  have hv2 : ∀ c d g n (L : W.Ht) w0 w, Hv E c d g L (W.H0 0 4096) ev n w0 w → (ldE ⟨g, 0, none⟩).run Tryz.prog w = .ok (.agg (evCells ev)) w := fun c d g n L w0 w h => h.ld
  have hG : ∀ x y : Option Addr, (!((W.rrun (W.H0 0 4096) ({ ev with fw := ⟨x, 0, 0⟩, wk := ⟨y, 0, 0⟩, pc := v } : W.Ev) 0 (fun _ => (0 : Int)) (fun _ => (0 : Int)) 0 (fun _ => (0 : Int)) (fun _ => (0 : Int))).w.k == 0) && W.sameE ({ ev with fw := ⟨x, 0, 0⟩, wk := ⟨y, 0, 0⟩, pc := v } : W.Ev) (W.rrun (W.H0 0 4096) ({ ev with fw := ⟨x, 0, 0⟩, wk := ⟨y, 0, 0⟩, pc := v } : W.Ev) 0 (fun _ => (0 : Int)) (fun _ => (0 : Int)) 0 (fun _ => (0 : Int)) (fun _ => (0 : Int))).w) = true := fun x y => by
    rw [← hq]
    exact W.bent_law (W.H0 0 4096) (by decide +kernel) ev ({ ev with fw := ⟨x, 0, 0⟩, wk := ⟨y, 0, 0⟩, pc := v } : W.Ev) f0 w0 rfl rfl rfl rfl rfl 0 (fun _ => (0 : Int)) (fun _ => (0 : Int)) 0 (fun _ => (0 : Int)) (fun _ => (0 : Int)) hok
  have hRG := fun (x y : Option Addr) d w1 (k : HAt d (W.H0 0 4096) w1) (t : Tr E w1) => replay_e d (W.H0 0 4096) ({ ev with fw := ⟨x, 0, 0⟩, wk := ⟨y, 0, 0⟩, pc := v } : W.Ev) E (H0_ok 0 4096) hwd rfl rfl true _ rfl (hG x y) w1 k t
  simp only [cond_true, cond_false, efCells, W.Ef.no] at hRG
  have hEv := fun w => event_0 ev f0 w0 w
  have hSm : ∀ (x y : Option Addr) w, Calls Tryz.prog 22 #[.agg (evCells ({ ev with fw := ⟨x, 0, 0⟩, wk := ⟨y, 0, 0⟩, pc := v } : W.Ev)), .agg (evCells ev)] w fun z w' => z = .returned (.bool true) ∧ Below w.heap.size w w' := fun x y w => by
    have h := samee_0 ({ ev with fw := ⟨x, 0, 0⟩, wk := ⟨y, 0, 0⟩, pc := v } : W.Ev) ev rfl rfl f0 w0 w
    have e : ((ev.fat == ev.fat) && ((ev.at_ == ev.at_) && W.likeE ({ ev with fw := ⟨x, 0, 0⟩, wk := ⟨y, 0, 0⟩, pc := v } : W.Ev) ev)) = true := by
      rw [like_eq]
      have : W.likeB ({ ev with fw := ⟨x, 0, 0⟩, wk := ⟨y, 0, 0⟩, pc := v } : W.Ev) ev = true := hq
      rw [this]
      simp
    exact h.mono fun z w' ⟨h1, h2⟩ => ⟨h1.trans (by rw [← e]), h2⟩
  have hlg : ∀ (x y : Option Addr) g w, w.heap[g]? = some (.cells (evCells ({ ev with fw := ⟨x, 0, 0⟩, wk := ⟨y, 0, 0⟩, pc := v } : W.Ev)) 27) → (ldE ⟨g, 0, none⟩).run Tryz.prog w = .ok (.agg (evCells ({ ev with fw := ⟨x, 0, 0⟩, wk := ⟨y, 0, 0⟩, pc := v } : W.Ev))) w := fun x y g w h => ev_load h
  have hln : ∀ (W9 : World) (x y : Option Addr), (ldE ⟨W9.heap.size, 0, none⟩).run Tryz.prog (W9.alloc (.cells (evCells ({ ev with fw := ⟨x, 0, 0⟩, wk := ⟨y, 0, 0⟩, pc := v } : W.Ev)) 27)) = .ok (.agg (evCells ({ ev with fw := ⟨x, 0, 0⟩, wk := ⟨y, 0, 0⟩, pc := v } : W.Ev))) (W9.alloc (.cells (evCells ({ ev with fw := ⟨x, 0, 0⟩, wk := ⟨y, 0, 0⟩, pc := v } : W.Ev)) 27)) := fun W9 x y => ev_load (heap_alloc_last W9 _)
  have hv3 : ∀ c d g n (L K : W.Ht) w0 w, Hv E c d g L K ev n w0 w → (ldE ⟨g, 0, none⟩).run Tryz.prog w = .ok (.agg (evCells ev)) w := fun c d g n L K w0 w h => h.ld
  clear hG hq
  simp only [cond_true, cond_false, efCells, W.Ef.no] at hR
  have hmk : ∀ c d g n w0 w, HAt c (W.H0 0 4096) w → HAt d (W.H0 0 4096) w → Tr E w → Below n w0 w → n ≤ w.heap.size → n ≤ c → n ≤ d → c ≠ d → g < n → w.heap[g]? = some (.cells (evCells ev) 27) → Hv E c d g (W.H0 0 4096) (W.H0 0 4096) ev n w0 w := fun c d g n w0 w a1 a2 a3 a4 a5 a6 a7 a8 a9 a10 => ⟨a1, a2, a3, a4, a5, a6, a7, a8, a9, a10⟩
  generalize hRR : W.rrun (W.H0 0 4096) ev 0 (fun _ => (0 : Int)) (fun _ => (0 : Int)) 0 (fun _ => (0 : Int)) (fun _ => (0 : Int)) = rr at *
  generalize evCells ev = ES at *
  simp only [evCells] at hRG hEv hSm hlg hln
  generalize W.H0 0 4096 = h0 at *
  have HH : Hid (_ ∧ _ ∧ _ ∧ _ ∧ _ ∧ _ ∧ _ ∧ _ ∧ _ ∧ _ ∧ _ ∧ _ ∧ _ ∧ _ ∧ _) := ⟨hF, hN, hC, hR, hvs, hv2, hmk, c6, c7, hT, hRG, hEv, hSm, hv3, hlg⟩
  clear hF hN hC hR hvs hv2 hmk c6 c7 hok hT hRG hEv hSm hv3 hlg
  go_enter Tryz.func4, Tryz.ntmps4
  go_wp2_with (fail)
  refine (HH.out.1 _ (hE.below (hB _))).mono ?_
  rintro e w1 ⟨rfl, b1⟩
  have B1 := (hB (.cells ES 27)).trans (b1.mono (by simp))
  have gg : w1.heap[w.heap.size]? = some (.cells ES 27) := (b1.block w.heap.size (by simp)).trans (heap_alloc_last w _)
  have gl : w.heap.size < w1.heap.size := (Array.getElem?_eq_some_iff.1 gg).1
  have e6 : w1.cell? ⟨w.heap.size, 6, none⟩ = some (.slice ev.fw.a 0 ev.fw.c) := by simp only [World.cell?, gg]; exact HH.out.2.2.2.2.2.2.2.1
  have e7 : w1.cell? ⟨w.heap.size, 7, none⟩ = some (.slice ev.wk.a 0 ev.wk.c) := by simp only [World.cell?, gg]; exact HH.out.2.2.2.2.2.2.2.2.1
  have T1 := hE.below B1
  go_wp2_with (fail)
  refine (HH.out.2.1 _).mono ?_
  rintro e w2 ⟨c, hc, rfl, k2, b2⟩
  have l2 := k2.lt
  go_wp2_with (fail)
  refine (HH.out.2.2.1 c _ k2).mono ?_
  rintro e w3 ⟨rfl, kd, b3⟩
  have S3 := HH.out.2.2.2.2.2.2.1 c w2.heap.size w.heap.size w1.heap.size w1 w3 (k2.below b3) kd ((T1.below b2).below b3) (b2.trans (b3.mono b2.size)) (Nat.le_trans b2.size b3.size) hc b2.size (by omega) gl ((b3.block _ (Nat.lt_of_lt_of_le gl b2.size)).trans ((b2.block _ gl).trans gg))
  clear k2 kd b3 e6 e7
  have ld3 := HH.out.2.2.2.2.1 _ _ _ _ _ _ S3
  have g3 : w.heap.size < w3.heap.size := Nat.lt_of_lt_of_le gl S3.s
  go_wp2_with (fail)
  refine (HH.out.2.2.2.1 c _ S3.k S3.t).mono ?_
  rintro e w4 ⟨rfl, k4, g4⟩
  have S4 := S3.stepc k4 g4
  clear k4 g4 ld3 S3
  have ld4 := fun o => HH.out.2.2.2.2.2.1 _ _ _ _ _ _ _ (S4.alloc o)
  have g4 : w.heap.size < w4.heap.size := Nat.lt_of_lt_of_le gl S4.s
  go_wp2_with (fail)
  refine (HH.out.2.2.2.2.2.2.2.2.2.2.2.1 _).mono ?_
  rintro e w5 ⟨⟨x, y, rfl⟩, b5⟩
  have S5 := (S4.alloc _).below b5
  clear S4 ld4 b5
  have ld5 := fun o => HH.out.2.2.2.2.2.1 _ _ _ _ _ _ _ (S5.alloc o)
  have g5 : w.heap.size < w5.heap.size := Nat.lt_of_lt_of_le gl S5.s
  go_wp2_with (fail)
  refine (HH.out.2.2.2.2.2.2.2.2.2.1 _).mono ?_
  rintro e w' ⟨rfl, rfl⟩
  have hn5 := hln w5 x y
  go_wp2_with (fail)
  refine (HH.out.2.2.2.2.2.2.2.2.2.2.1 x y _ _ (S5.alloc _).kd (S5.alloc _).t).mono ?_
  rintro e w6 ⟨rfl, k6, g6⟩
  have S6 := (S5.alloc _).stepd k6 g6
  have hg6 : w6.heap[w5.heap.size]? = some (.cells #[.int .i64 ev.k, .int .u32 v, .int .u32 ev.wd, .int .u32 ev.fpa, .int .u32 ev.pa, .int .u32 ev.ld, .slice x 0 0, .slice y 0 0, .int .u32 ev.ca, .int .u32 ev.tv, .bool ev.dn, .int .i64 ev.fat, .int .i64 ev.at_] 27) := (g6.block w5.heap.size (by simp) (by have := S5.kd.lt; simp; omega)).trans (heap_alloc_last w5 _)
  have hl6 : w5.heap.size < w6.heap.size := (Array.getElem?_eq_some_iff.1 hg6).1
  have lg6 := fun o => HH.out.2.2.2.2.2.2.2.2.2.2.2.2.2.2 x y w5.heap.size (w6.alloc o).drew (((Below.refl _ _).alloc (Nat.le_refl _) o).block w5.heap.size hl6 |>.trans hg6)
  have ld6 := fun o => HH.out.2.2.2.2.2.2.2.2.2.2.2.2.2.1 _ _ _ _ _ _ _ _ ((S6.alloc o).below (Below.refl _ _).drew)
  clear k6 g6 hn5 ld5 hln
  go_wp2_with (fail)
  go_region_held3 (fun w' => (ldE ⟨w5.heap.size, 0, none⟩).run Tryz.prog w' = .ok (.agg #[.int .i64 ev.k, .int .u32 v, .int .u32 ev.wd, .int .u32 ev.fpa, .int .u32 ev.pa, .int .u32 ev.ld, .slice x 0 0, .slice y 0 0, .int .u32 ev.ca, .int .u32 ev.tv, .bool ev.dn, .int .i64 ev.fat, .int .i64 ev.at_]) w' ∧ (ldE ⟨w.heap.size, 0, none⟩).run Tryz.prog w' = .ok (.agg ES) w')
    (first
      | (refine ⟨?_, ?_⟩; exact lg6 _; exact ld6 _)
      | exact ⟨HH.out.2.2.2.2.2.2.2.2.2.2.2.2.2.2 x y w5.heap.size w7 ((b7.block w5.heap.size (by simp; omega)).trans (((Below.refl _ _).alloc (Nat.le_refl _) _).block w5.heap.size hl6 |>.trans hg6)), HH.out.2.2.2.2.2.2.2.2.2.2.2.2.2.1 _ _ _ _ _ _ _ _ (((S6.alloc _).below (Below.refl _ _).drew).below b7)⟩)
    ((go_at_call 22; refine (HH.out.2.2.2.2.2.2.2.2.2.2.2.2.1 x y _).mono ?_; rintro e w7 ⟨rfl, b7⟩))
  all_goals
    go_wp2
    go_ret
    exact ⟨rfl, B1.trans (((((S6.alloc _).below (Below.refl _ _).drew).below b7).b).mono B1.size)⟩
end Go.Proofs.YteilpehekabccaaGreatDoor

/- HartBent, walked: a step, turned. -/
namespace Go.Proofs.YteilpehekabccaaGreatDoor
open Go.ChangeShapes Go.WideShapes Go.ChangeAt Go.RowKit
set_option linter.unusedVariables false
set_option linter.unusedSimpArgs false

attribute [local go_sem ↓] ldE_eq
set_option maxRecDepth 100000 in
set_option maxHeartbeats 1000000 in
theorem hb_Pf (E : Addr) (ev : W.Ev) (at' v : Int) (hwd : W.Rg ev.wd) (f0 : ev.fw.n = 0) (w0 : ev.wk.n = 0) (hok : (!((W.rrun (W.H0 0 4096) ev 0 (fun _ => (0 : Int)) (fun _ => (0 : Int)) 0 (fun _ => (0 : Int)) (fun _ => (0 : Int))).w.k == 0) && W.sameE ev (W.rrun (W.H0 0 4096) ev 0 (fun _ => (0 : Int)) (fun _ => (0 : Int)) 0 (fun _ => (0 : Int)) (fun _ => (0 : Int))).w) = true) (hT : ∀ w, Calls Tryz.prog 19 #[.int .i64 at', .int .i64 5] w fun z w' => z = .returned (.int .i64 0) ∧ w = w') (hq : W.likeB (({ ev with fw := W.Sl.nil, wk := W.Sl.nil, pc := v } : W.Ev)) ev = false) (w : World) (hE : Tr E w) :
    Calls Tryz.prog 4 #[.agg (evCells ev), .int .i64 at', .int .u32 v] w fun e w' => e = .returned (.bool true) ∧ Below w.heap.size w w' := by
  have hF := fun w1 (k : Tr E w1) => first10_any E w1 k
  have hN := hnew_any 0 4096
  have hC := fun c w1 (k : HAt c (W.H0 0 4096) w1) => clone_any c (W.H0 0 4096) w1 k
  have hR := fun c w1 (k : HAt c (W.H0 0 4096) w1) (t : Tr E w1) => replay_e c (W.H0 0 4096) ev E (H0_ok 0 4096) hwd f0 w0 true _ rfl hok w1 k t
  have hB : ∀ o : Obj, Below w.heap.size w (w.alloc o) := fun o => (Below.refl _ _).alloc (Nat.le_refl _) _
  have c6 : (evCells ev)[6]? = some (.slice ev.fw.a 0 ev.fw.c) := by rw [← f0]; rfl
  have c7 : (evCells ev)[7]? = some (.slice ev.wk.a 0 ev.wk.c) := by rw [← w0]; rfl
  have hvs : ∀ c d g n w0 w, Hv E c d g (W.H0 0 4096) (W.H0 0 4096) ev n w0 w → (ldE ⟨g, 0, none⟩).run Tryz.prog w = .ok (.agg (evCells ev)) w := fun c d g n w0 w h => h.ld
  have hv2 : ∀ c d g n (L : W.Ht) w0 w, Hv E c d g L (W.H0 0 4096) ev n w0 w → (ldE ⟨g, 0, none⟩).run Tryz.prog w = .ok (.agg (evCells ev)) w := fun c d g n L w0 w h => h.ld
  have hG : ∀ x y : Option Addr, (!((W.rrun (W.H0 0 4096) ({ ev with fw := ⟨x, 0, 0⟩, wk := ⟨y, 0, 0⟩, pc := v } : W.Ev) 0 (fun _ => (0 : Int)) (fun _ => (0 : Int)) 0 (fun _ => (0 : Int)) (fun _ => (0 : Int))).w.k == 0) && W.sameE ({ ev with fw := ⟨x, 0, 0⟩, wk := ⟨y, 0, 0⟩, pc := v } : W.Ev) (W.rrun (W.H0 0 4096) ({ ev with fw := ⟨x, 0, 0⟩, wk := ⟨y, 0, 0⟩, pc := v } : W.Ev) 0 (fun _ => (0 : Int)) (fun _ => (0 : Int)) 0 (fun _ => (0 : Int)) (fun _ => (0 : Int))).w) = false := fun x y => by
    rw [← hq]
    exact W.bent_law (W.H0 0 4096) (by decide +kernel) ev ({ ev with fw := ⟨x, 0, 0⟩, wk := ⟨y, 0, 0⟩, pc := v } : W.Ev) f0 w0 rfl rfl rfl rfl rfl 0 (fun _ => (0 : Int)) (fun _ => (0 : Int)) 0 (fun _ => (0 : Int)) (fun _ => (0 : Int)) hok
  have hRG := fun (x y : Option Addr) d w1 (k : HAt d (W.H0 0 4096) w1) (t : Tr E w1) => replay_e d (W.H0 0 4096) ({ ev with fw := ⟨x, 0, 0⟩, wk := ⟨y, 0, 0⟩, pc := v } : W.Ev) E (H0_ok 0 4096) hwd rfl rfl false _ rfl (hG x y) w1 k t
  simp only [cond_true, cond_false, efCells, W.Ef.no] at hRG
  have hEv := fun w => event_0 ev f0 w0 w
  have hSm : ∀ (x y : Option Addr) w, Calls Tryz.prog 22 #[.agg (evCells ({ ev with fw := ⟨x, 0, 0⟩, wk := ⟨y, 0, 0⟩, pc := v } : W.Ev)), .agg (evCells ev)] w fun z w' => z = .returned (.bool false) ∧ Below w.heap.size w w' := fun x y w => by
    have h := samee_0 ({ ev with fw := ⟨x, 0, 0⟩, wk := ⟨y, 0, 0⟩, pc := v } : W.Ev) ev rfl rfl f0 w0 w
    have e : ((ev.fat == ev.fat) && ((ev.at_ == ev.at_) && W.likeE ({ ev with fw := ⟨x, 0, 0⟩, wk := ⟨y, 0, 0⟩, pc := v } : W.Ev) ev)) = false := by
      rw [like_eq]
      have : W.likeB ({ ev with fw := ⟨x, 0, 0⟩, wk := ⟨y, 0, 0⟩, pc := v } : W.Ev) ev = false := hq
      rw [this]
      simp
    exact h.mono fun z w' ⟨h1, h2⟩ => ⟨h1.trans (by rw [← e]), h2⟩
  have hlg : ∀ (x y : Option Addr) g w, w.heap[g]? = some (.cells (evCells ({ ev with fw := ⟨x, 0, 0⟩, wk := ⟨y, 0, 0⟩, pc := v } : W.Ev)) 27) → (ldE ⟨g, 0, none⟩).run Tryz.prog w = .ok (.agg (evCells ({ ev with fw := ⟨x, 0, 0⟩, wk := ⟨y, 0, 0⟩, pc := v } : W.Ev))) w := fun x y g w h => ev_load h
  have hln : ∀ (W9 : World) (x y : Option Addr), (ldE ⟨W9.heap.size, 0, none⟩).run Tryz.prog (W9.alloc (.cells (evCells ({ ev with fw := ⟨x, 0, 0⟩, wk := ⟨y, 0, 0⟩, pc := v } : W.Ev)) 27)) = .ok (.agg (evCells ({ ev with fw := ⟨x, 0, 0⟩, wk := ⟨y, 0, 0⟩, pc := v } : W.Ev))) (W9.alloc (.cells (evCells ({ ev with fw := ⟨x, 0, 0⟩, wk := ⟨y, 0, 0⟩, pc := v } : W.Ev)) 27)) := fun W9 x y => ev_load (heap_alloc_last W9 _)
  have hv3 : ∀ c d g n (L K : W.Ht) w0 w, Hv E c d g L K ev n w0 w → (ldE ⟨g, 0, none⟩).run Tryz.prog w = .ok (.agg (evCells ev)) w := fun c d g n L K w0 w h => h.ld
  clear hG hq
  simp only [cond_true, cond_false, efCells, W.Ef.no] at hR
  have hmk : ∀ c d g n w0 w, HAt c (W.H0 0 4096) w → HAt d (W.H0 0 4096) w → Tr E w → Below n w0 w → n ≤ w.heap.size → n ≤ c → n ≤ d → c ≠ d → g < n → w.heap[g]? = some (.cells (evCells ev) 27) → Hv E c d g (W.H0 0 4096) (W.H0 0 4096) ev n w0 w := fun c d g n w0 w a1 a2 a3 a4 a5 a6 a7 a8 a9 a10 => ⟨a1, a2, a3, a4, a5, a6, a7, a8, a9, a10⟩
  generalize hRR : W.rrun (W.H0 0 4096) ev 0 (fun _ => (0 : Int)) (fun _ => (0 : Int)) 0 (fun _ => (0 : Int)) (fun _ => (0 : Int)) = rr at *
  generalize evCells ev = ES at *
  simp only [evCells] at hRG hEv hSm hlg hln
  generalize W.H0 0 4096 = h0 at *
  have HH : Hid (_ ∧ _ ∧ _ ∧ _ ∧ _ ∧ _ ∧ _ ∧ _ ∧ _ ∧ _ ∧ _ ∧ _ ∧ _ ∧ _ ∧ _) := ⟨hF, hN, hC, hR, hvs, hv2, hmk, c6, c7, hT, hRG, hEv, hSm, hv3, hlg⟩
  clear hF hN hC hR hvs hv2 hmk c6 c7 hok hT hRG hEv hSm hv3 hlg
  go_enter Tryz.func4, Tryz.ntmps4
  go_wp2_with (fail)
  refine (HH.out.1 _ (hE.below (hB _))).mono ?_
  rintro e w1 ⟨rfl, b1⟩
  have B1 := (hB (.cells ES 27)).trans (b1.mono (by simp))
  have gg : w1.heap[w.heap.size]? = some (.cells ES 27) := (b1.block w.heap.size (by simp)).trans (heap_alloc_last w _)
  have gl : w.heap.size < w1.heap.size := (Array.getElem?_eq_some_iff.1 gg).1
  have e6 : w1.cell? ⟨w.heap.size, 6, none⟩ = some (.slice ev.fw.a 0 ev.fw.c) := by simp only [World.cell?, gg]; exact HH.out.2.2.2.2.2.2.2.1
  have e7 : w1.cell? ⟨w.heap.size, 7, none⟩ = some (.slice ev.wk.a 0 ev.wk.c) := by simp only [World.cell?, gg]; exact HH.out.2.2.2.2.2.2.2.2.1
  have T1 := hE.below B1
  go_wp2_with (fail)
  refine (HH.out.2.1 _).mono ?_
  rintro e w2 ⟨c, hc, rfl, k2, b2⟩
  have l2 := k2.lt
  go_wp2_with (fail)
  refine (HH.out.2.2.1 c _ k2).mono ?_
  rintro e w3 ⟨rfl, kd, b3⟩
  have S3 := HH.out.2.2.2.2.2.2.1 c w2.heap.size w.heap.size w1.heap.size w1 w3 (k2.below b3) kd ((T1.below b2).below b3) (b2.trans (b3.mono b2.size)) (Nat.le_trans b2.size b3.size) hc b2.size (by omega) gl ((b3.block _ (Nat.lt_of_lt_of_le gl b2.size)).trans ((b2.block _ gl).trans gg))
  clear k2 kd b3 e6 e7
  have ld3 := HH.out.2.2.2.2.1 _ _ _ _ _ _ S3
  have g3 : w.heap.size < w3.heap.size := Nat.lt_of_lt_of_le gl S3.s
  go_wp2_with (fail)
  refine (HH.out.2.2.2.1 c _ S3.k S3.t).mono ?_
  rintro e w4 ⟨rfl, k4, g4⟩
  have S4 := S3.stepc k4 g4
  clear k4 g4 ld3 S3
  have ld4 := fun o => HH.out.2.2.2.2.2.1 _ _ _ _ _ _ _ (S4.alloc o)
  have g4 : w.heap.size < w4.heap.size := Nat.lt_of_lt_of_le gl S4.s
  go_wp2_with (fail)
  refine (HH.out.2.2.2.2.2.2.2.2.2.2.2.1 _).mono ?_
  rintro e w5 ⟨⟨x, y, rfl⟩, b5⟩
  have S5 := (S4.alloc _).below b5
  clear S4 ld4 b5
  have ld5 := fun o => HH.out.2.2.2.2.2.1 _ _ _ _ _ _ _ (S5.alloc o)
  have g5 : w.heap.size < w5.heap.size := Nat.lt_of_lt_of_le gl S5.s
  go_wp2_with (fail)
  refine (HH.out.2.2.2.2.2.2.2.2.2.1 _).mono ?_
  rintro e w' ⟨rfl, rfl⟩
  have hn5 := hln w5 x y
  go_wp2_with (fail)
  refine (HH.out.2.2.2.2.2.2.2.2.2.2.1 x y _ _ (S5.alloc _).kd (S5.alloc _).t).mono ?_
  rintro e w6 ⟨rfl, k6, g6⟩
  have S6 := (S5.alloc _).stepd k6 g6
  have hg6 : w6.heap[w5.heap.size]? = some (.cells #[.int .i64 ev.k, .int .u32 v, .int .u32 ev.wd, .int .u32 ev.fpa, .int .u32 ev.pa, .int .u32 ev.ld, .slice x 0 0, .slice y 0 0, .int .u32 ev.ca, .int .u32 ev.tv, .bool ev.dn, .int .i64 ev.fat, .int .i64 ev.at_] 27) := (g6.block w5.heap.size (by simp) (by have := S5.kd.lt; simp; omega)).trans (heap_alloc_last w5 _)
  have hl6 : w5.heap.size < w6.heap.size := (Array.getElem?_eq_some_iff.1 hg6).1
  have lg6 := fun o => HH.out.2.2.2.2.2.2.2.2.2.2.2.2.2.2 x y w5.heap.size (w6.alloc o).drew (((Below.refl _ _).alloc (Nat.le_refl _) o).block w5.heap.size hl6 |>.trans hg6)
  have ld6 := fun o => HH.out.2.2.2.2.2.2.2.2.2.2.2.2.2.1 _ _ _ _ _ _ _ _ ((S6.alloc o).below (Below.refl _ _).drew)
  clear k6 g6 hn5 ld5 hln
  go_wp2_with (fail)
  go_region_held3 (fun w' => (ldE ⟨w5.heap.size, 0, none⟩).run Tryz.prog w' = .ok (.agg #[.int .i64 ev.k, .int .u32 v, .int .u32 ev.wd, .int .u32 ev.fpa, .int .u32 ev.pa, .int .u32 ev.ld, .slice x 0 0, .slice y 0 0, .int .u32 ev.ca, .int .u32 ev.tv, .bool ev.dn, .int .i64 ev.fat, .int .i64 ev.at_]) w' ∧ (ldE ⟨w.heap.size, 0, none⟩).run Tryz.prog w' = .ok (.agg ES) w')
    (first
      | (refine ⟨?_, ?_⟩; exact lg6 _; exact ld6 _)
      | exact ⟨HH.out.2.2.2.2.2.2.2.2.2.2.2.2.2.2 x y w5.heap.size w7 ((b7.block w5.heap.size (by simp; omega)).trans (((Below.refl _ _).alloc (Nat.le_refl _) _).block w5.heap.size hl6 |>.trans hg6)), HH.out.2.2.2.2.2.2.2.2.2.2.2.2.2.1 _ _ _ _ _ _ _ _ (((S6.alloc _).below (Below.refl _ _).drew).below b7)⟩)
    ((go_at_call 22; refine (HH.out.2.2.2.2.2.2.2.2.2.2.2.2.1 x y _).mono ?_; rintro e w7 ⟨rfl, b7⟩))
  all_goals
    go_wp2
    go_ret
    exact ⟨rfl, B1.trans (((((S6.alloc _).below (Below.refl _ _).drew).below b7).b).mono B1.size)⟩
end Go.Proofs.YteilpehekabccaaGreatDoor
