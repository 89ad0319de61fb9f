/- Texts in one: HartJ210, HartJ3, HartL2, HartL3, HartP. -/
import Derived.Deep.RegionHeld3
import Derived.Deep.RegionWith
import Derived.Test.YteilpehekabccabGreatDoorJ06
import Derived.Test.YteilpehekabccabGreatDoorJ13
import Derived.Test.YteilpehekabccabGreatDoorJ27
import Derived.Test.YteilpehekabccabGreatDoorJ28
import Derived.Test.YteilpehekabccabGreatDoorJ29
import Derived.Test.YteilpehekabccabGreatDoorJ30
import Derived.Test.YteilpehekabccabGreatDoorJ31
import Derived.Test.YteilpehekabccabGreatDoorJ32
/- Is an event as it has to be? Way 10. -/
namespace Go.Proofs.YteilpehekabccabGreatDoor
open Go.ChangeShapes Go.WideShapes Go.ChangeAt Go.RowKit
set_option linter.unusedVariables false
set_option linter.unusedSimpArgs false

set_option maxHeartbeats 3200000 in
theorem same_10 (e d : W.Ev) (R : Bool) (h0 : (e.k == d.k) = true) (h1 : (e.pc == d.pc) = true) (h2 : (e.wd == d.wd) = true) (h3 : (e.fpa == d.fpa) = true) (h4 : (e.pa == d.pa) = true) (h5 : (e.ld == d.ld) = true) (h6 : (e.ca == d.ca) = true) (h7 : (e.tv == d.tv) = true) (h8 : (e.dn == d.dn) = true) (w : World) (Hfw : ∀ w', Below w.heap.size w w' → Calls Tryz.prog 24 #[.slice e.fw.a e.fw.n e.fw.c, .slice d.fw.a d.fw.n d.fw.c] w' fun x w'' => x = .returned (.bool true) ∧ Below w'.heap.size w' w'') (Hwk : ∀ w', Below w.heap.size w w' → Calls Tryz.prog 24 #[.slice e.wk.a e.wk.n e.wk.c, .slice d.wk.a d.wk.n d.wk.c] w' fun x w'' => x = .returned (.bool R) ∧ Below w'.heap.size w' w'') : Calls Tryz.prog 15 #[.agg (evCells e), .agg (evCells d)] w fun x w' => x = .returned (.bool R) ∧ Below w.heap.size w w' := by
  obtain ⟨k, pc, wd, fpa, pa, ld, ⟨fa, fn, fc⟩, ⟨wa, wn, wc⟩, ca, tv, dn, fat, at_⟩ := e
  obtain ⟨dk, dpc, dwd, dfpa, dpa, dld, ⟨dfa, dfn, dfc⟩, ⟨dwa, dwn, dwc⟩, dca, dtv, ddn, dfat, dat_⟩ := d
  unfold evCells
  dsimp only at *
  have hb2 : Below w.heap.size w ((w.alloc (.cells #[.int .i64 k, .int .u32 pc, .int .u32 wd, .int .u32 fpa, .int .u32 pa, .int .u32 ld, .slice fa fn fc, .slice wa wn wc, .int .u32 ca, .int .u32 tv, .bool dn, .int .i64 fat, .int .i64 at_] 29)).alloc (.cells #[.int .i64 dk, .int .u32 dpc, .int .u32 dwd, .int .u32 dfpa, .int .u32 dpa, .int .u32 dld, .slice dfa dfn dfc, .slice dwa dwn dwc, .int .u32 dca, .int .u32 dtv, .bool ddn, .int .i64 dfat, .int .i64 dat_] 29)) := ((Below.refl _ _).alloc (Nat.le_refl _) _).alloc (by simp) _
  have q1 : ((w.alloc (.cells #[.int .i64 k, .int .u32 pc, .int .u32 wd, .int .u32 fpa, .int .u32 pa, .int .u32 ld, .slice fa fn fc, .slice wa wn wc, .int .u32 ca, .int .u32 tv, .bool dn, .int .i64 fat, .int .i64 at_] 29)).alloc (.cells #[.int .i64 dk, .int .u32 dpc, .int .u32 dwd, .int .u32 dfpa, .int .u32 dpa, .int .u32 dld, .slice dfa dfn dfc, .slice dwa dwn dwc, .int .u32 dca, .int .u32 dtv, .bool ddn, .int .i64 dfat, .int .i64 dat_] 29)).cell? ⟨w.heap.size, 7, none⟩ = some (.slice wa wn wc) := by simp [go_sem]
  have q2 : ((w.alloc (.cells #[.int .i64 k, .int .u32 pc, .int .u32 wd, .int .u32 fpa, .int .u32 pa, .int .u32 ld, .slice fa fn fc, .slice wa wn wc, .int .u32 ca, .int .u32 tv, .bool dn, .int .i64 fat, .int .i64 at_] 29)).alloc (.cells #[.int .i64 dk, .int .u32 dpc, .int .u32 dwd, .int .u32 dfpa, .int .u32 dpa, .int .u32 dld, .slice dfa dfn dfc, .slice dwa dwn dwc, .int .u32 dca, .int .u32 dtv, .bool ddn, .int .i64 dfat, .int .i64 dat_] 29)).cell? ⟨w.heap.size + 1, 7, none⟩ = some (.slice dwa dwn dwc) := by simp [go_sem]
  go_enter Tryz.func15, Tryz.ntmps15
  go_wp2_with (fail)
  refine (Hfw _ hb2).mono ?_
  rintro x w1 ⟨rfl, hb⟩
  have hb3 := hb2.trans (hb.mono hb2.size)
  have s1 := (hb.cell (p := ⟨w.heap.size, 7, none⟩) (by simp; omega)).trans q1
  have s2 := (hb.cell (p := ⟨w.heap.size + 1, 7, none⟩) (by simp)).trans q2
  clear q1 q2
  go_wp2_with (fail)
  refine (Hwk _ hb3).mono ?_
  rintro x w2 ⟨rfl, hb⟩
  go_wp2
  go_ret
  exact ⟨rfl, hb3.trans (hb.mono hb3.size)⟩
end Go.Proofs.YteilpehekabccabGreatDoor

/- Is an event as it has to be? Every way. -/
namespace Go.Proofs.YteilpehekabccabGreatDoor
open Go.ChangeShapes Go.WideShapes Go.ChangeAt Go.RowKit
set_option linter.unusedVariables false
set_option linter.unusedSimpArgs false

theorem peq_any (s t : W.Sl) (p : Nat → W.Pt) (w : World) (hr : Reads s.a s.n p w) (h : t = s ∨ t = W.Sl.nil) : Calls Tryz.prog 24 #[.slice s.a s.n s.c, .slice t.a t.n t.c] w fun x w' => x = .returned (.bool (s.n == t.n)) ∧ Below w.heap.size w w' := by
  rcases h with rfl | rfl
  · have := peq_same t.a t.n t.c p w hr
    simpa using this
  · exact peq_nil s.a s.n s.c w

theorem same_any (e d : W.Ev) (q p : Nat → W.Pt) (w : World) (hq : Reads e.fw.a e.fw.n q w) (hp : Reads e.wk.a e.wk.n p w) (hf : d.fw = e.fw ∨ d.fw = W.Sl.nil) (hw : d.wk = e.wk ∨ d.wk = W.Sl.nil) : Calls Tryz.prog 15 #[.agg (evCells e), .agg (evCells d)] w fun x w' => x = .returned (.bool (W.sameE e d)) ∧ Below w.heap.size w w' := by
  unfold W.sameE
  cases h0 : (e.k == d.k)
  case false => exact same_0 e d h0 w
  cases h1 : (e.pc == d.pc)
  case false => exact same_1 e d h0 h1 w
  cases h2 : (e.wd == d.wd)
  case false => exact same_2 e d h0 h1 h2 w
  cases h3 : (e.fpa == d.fpa)
  case false => exact same_3 e d h0 h1 h2 h3 w
  cases h4 : (e.pa == d.pa)
  case false => exact same_4 e d h0 h1 h2 h3 h4 w
  cases h5 : (e.ld == d.ld)
  case false => exact same_5 e d h0 h1 h2 h3 h4 h5 w
  cases h6 : (e.ca == d.ca)
  case false => exact same_6 e d h0 h1 h2 h3 h4 h5 h6 w
  cases h7 : (e.tv == d.tv)
  case false => exact same_7 e d h0 h1 h2 h3 h4 h5 h6 h7 w
  cases h8 : (e.dn == d.dn)
  case false => exact same_8 e d h0 h1 h2 h3 h4 h5 h6 h7 h8 w
  have H1 := fun w' (hb : Below w.heap.size w w') => peq_any e.fw d.fw q w' (hq.below hb) hf
  have H2 := fun w' (hb : Below w.heap.size w w') => peq_any e.wk d.wk p w' (hp.below hb) hw
  cases h9 : (e.fw.n == d.fw.n)
  · rw [h9] at H1
    exact same_9 e d h0 h1 h2 h3 h4 h5 h6 h7 h8 w H1
  · rw [h9] at H1
    exact same_10 e d _ h0 h1 h2 h3 h4 h5 h6 h7 h8 w H1 H2
end Go.Proofs.YteilpehekabccabGreatDoor

/- Replay: its first statement, and what follows. -/
namespace Go.Proofs.YteilpehekabccabGreatDoor
open Go.ChangeShapes Go.WideShapes Go.ChangeAt Go.RowKit
set_option linter.unusedVariables false
set_option linter.unusedSimpArgs false

def want0 (H : W.Ht) : Array Value := #[.int .i64 0, .int .u32 H.pc, .int .u32 0, .int .u32 0, .int .u32 0, .int .u32 0, .slice none 0 0, .slice none 0 0, .int .u32 0, .int .u32 0, .bool false, .int .i64 0, .int .i64 0]
def stepRow (H : W.Ht) (ev : W.Ev) : Array Value := fileCells H.G ++ sRest (W.st0 H ev)
theorem stepRow_eq (H : W.Ht) (ev : W.Ev) : stepRow H ev = stepAll H ev ⟨0, H.pc, 0, 0, 0, 0, W.Sl.nil, W.Sl.nil, 0, 0, false, 0, 0⟩ W.Ef.no := stepAll_eq _ _ _ _
theorem stepRow_size (H : W.Ht) (ev : W.Ev) : (stepRow H ev).size = 78 := by rw [stepRow_eq]; rfl
theorem stepRow_all (H : W.Ht) (ev : W.Ev) : (stepRow H ev).all (fun x => x.oneCell') = true := by rw [stepRow_eq]; exact all81 _ _ _ _
set_option maxRecDepth 100000 in
theorem build_row (H : W.Ht) (ev : W.Ev) (w : World) : (Instr.build 55 #[(0, .agg (hartCells H)), (1, .agg (evCells ev)), (2, .agg (want0 H))]).run Tryz.prog w = .ok (.agg (stepRow H ev)) w := by
  rw [hartAll_eq, stepRow_eq]
  obtain ⟨k, pc, wd, fpa, pa, ld, ⟨fa, fn, fc⟩, ⟨wa, wn, wc⟩, ca, tv, dn, fat, at_⟩ := ev
  rw [← step81_eq]
  exact build81 _ _ _ _ _ _ _ _ _ _ _ _ _ _ _ _ _ _ _ _ _ _ _ _ _ _ _ _ _ _ _ _ _ _ _ _ _ _ _ _ _ _ _ _ _ _ _ _ _ _ _ _ _ _ _ _ _ _ _ _ _ _ _ _ _ _ _ _ _ _ _ w
theorem info81 : (Tryz.prog.info? 55).map (·.size) = some 78 := zero81.2
theorem store_step (w : World) (H : W.Ht) (ev : W.Ev) (Z : Array Value) (hz : Z.size = 78) : (storeVar 55 ⟨w.heap.size, 0, none⟩ (.agg (stepRow H ev))).run Tryz.prog (w.alloc (.cells Z 55)) = .ok () (w.alloc (.cells (stepRow H ev) 55)) :=
  run_storeVar_new w _ Z _ (by rw [info81, stepRow_size]) (by rw [hz, stepRow_size]) (stepRow_all H ev)
theorem SAt.new (w : World) (H : W.Ht) (ev : W.Ev) : SAt w.heap.size (W.st0 H ev) (w.alloc (.cells (stepRow H ev) 55)) := ⟨heap_alloc_last w _⟩
theorem ev_load {g : Nat} {ev : W.Ev} {w : World} {T : TypeId} (h : w.heap[g]? = some (.cells (evCells ev) T)) : (loadVar 29 ⟨g, 0, none⟩).run Tryz.prog w = .ok (.agg (evCells ev)) w := by
  refine load_part h (fun j v hv => by simpa using hv) ?_ ?_
  · simp [go_sem]
  · rw [evCells_size]; simp [go_sem]

/-- What the first statement reads. -/
structure Rr (b g : Nat) (CS ES : Array Value) (pc : Int) (w : World) : Prop where
  l : (ldH ⟨b, 0, none⟩).run Tryz.prog w = .ok (.agg CS) w
  e : (ldE ⟨g, 0, none⟩).run Tryz.prog w = .ok (.agg ES) w
  p : w.cell? ⟨b, 12, none⟩ = some (.int .u32 pc)
theorem Rr.of {b g : Nat} {H : W.Ht} {ev : W.Ev} {w : World} {T : TypeId} (h : HAt b H w) (he : w.heap[g]? = some (.cells (evCells ev) T)) : Rr b g (hartCells H) (evCells ev) H.pc w :=
  ⟨HAt.loadV h, ev_load he, h.c 1 rfl⟩

attribute [local go_sem ↓] ldH_eq stH_eq ldE_eq stS_eq bdS_eq ldF_eq stF_eq
set_option maxRecDepth 100000 in
set_option maxHeartbeats 4000000 in
theorem replay_any (b : Nat) (H : W.Ht) (ev : W.Ev) (q p : Nat → W.Pt) (E : Addr) (hH : W.HOk H) (hwd : W.Rg ev.wd) (hcq : ev.fw.n ≤ ev.fw.c) (hcap : ev.wk.n ≤ ev.wk.c) (w : World) (h : HAt b H w)
    (hE : w.cell? ⟨0, 0, none⟩ = some (.iface 172 (.pointer (some E)))) (hq : Reads ev.fw.a ev.fw.n q w) (hr : Reads ev.wk.a ev.wk.n p w)
    (rr : W.St) (hrr : W.rrun H ev ev.fw.n (fun j => (q j).a) (fun j => (q j).v) ev.wk.n (fun j => (p j).a) (fun j => (p j).v) = rr) (hf : rr.w.fw = ev.fw ∨ rr.w.fw = W.Sl.nil) (hw2 : rr.w.wk = ev.wk ∨ rr.w.wk = W.Sl.nil)
    (ok : Bool) (hok : (!(rr.w.k == 0) && W.sameE ev rr.w) = ok) :
    Calls Tryz.prog 8 #[.pointer (some ⟨b, 0, none⟩), .agg (evCells ev)] w fun z w' => z = .returned (bif ok then .tuple #[.agg (efCells rr.e), .nilIface] else .tuple #[.agg (efCells W.Ef.no), .iface 172 (.pointer (some E))]) ∧ HAt b (bif ok then rr.h else H) w' ∧ w.grownBy w' (some b) := by
  have hlt := h.lt
  have hw0 : 0 < w.heap.size := World.block_lt_of_cell? _ _ hE
  have hB := build_row H ev
  have hst := fun W => store_step W H ev
  have hnew := fun W => SAt.new W H ev
  have hsz := evCells_size ev
  have hnq : ∀ q off, ev.fw.a = some ⟨q, off, none⟩ → 0 < ev.fw.n → q < w.heap.size := fun q' off e hn => by
    obtain ⟨b', off', e', hl, _⟩ := hq.2.1 hn
    rw [e] at e'
    simp at e'
    omega
  have hne : ∀ q off, ev.wk.a = some ⟨q, off, none⟩ → 0 < ev.wk.n → q < w.heap.size := fun q' off e hn => by
    obtain ⟨b', off', e', hl, _⟩ := hr.2.1 hn
    rw [e] at e'
    simp at e'
    omega
  have hR : ∀ o : Obj, Rr b w.heap.size (hartCells H) (evCells ev) H.pc ((w.alloc (.cells (evCells ev) 29)).alloc o).drew := fun o => Rr.of ((h.alloc _).alloc _).drew (ev_two w _ _).1
  have hRA : ∀ o p : Obj, Rr b w.heap.size (hartCells H) (evCells ev) H.pc (((w.alloc (.cells (evCells ev) 29)).alloc o).alloc p).drew := fun o p => Rr.of (((h.alloc _).alloc _).alloc _).drew (((Below.refl _ _).alloc (Nat.le_refl _) p).block w.heap.size (by simp; omega) |>.trans (ev_two w _ _).1)
  have hrun0 := fun w2 b2 => fun (k : SAt b2 (W.st0 H ev) w2) k1 k2 k3 k4 => run_any b2 (W.st0 H ev) hH hwd q p hcq hcap w2 k k1 k2 k3 k4
  have hrun : ∀ w2 b2, SAt b2 (W.st0 H ev) w2 → Reads ev.fw.a ev.fw.n q w2 → Reads ev.wk.a ev.wk.n p w2 → (∀ q off, ev.fw.a = some ⟨q, off, none⟩ → 0 < ev.fw.n → q ≠ b2) → (∀ q off, ev.wk.a = some ⟨q, off, none⟩ → 0 < ev.wk.n → q ≠ b2) → Calls Tryz.prog 14 #[.pointer (some ⟨b2, 0, none⟩)] w2 fun z w' => z = .returned (.tuple #[]) ∧ SAt b2 rr w' ∧ w2.grownBy w' (some b2) := fun w2 b2 k k1 k2 k3 k4 => by
    have := hrun0 w2 b2 k k1 k2 k3 k4
    rw [← hrr]
    exact this
  have hsame := fun w' k1 k2 => same_any ev rr.w q p w' k1 k2 hf hw2
  have hse : ∀ c w', SAt c rr w' → (ldE ⟨c, 58, none⟩).run Tryz.prog w' = .ok (.agg (evCells rr.w)) w' := fun c w' k => SAt.loadW k
  have hee : ∀ g w' T, w'.heap[g]? = some (.cells (evCells ev) T) → (ldE ⟨g, 0, none⟩).run Tryz.prog w' = .ok (.agg (evCells ev)) w' := fun g w' T k => ev_load k
  have hsh : ∀ c w', SAt c rr w' → (ldH ⟨c, 0, none⟩).run Tryz.prog w' = .ok (.agg (hartCells rr.h)) w' := fun c w' k => SAt.loadH k
  have hss : ∀ w', HAt b H w' → (stH ⟨b, 0, none⟩ (.agg (hartCells rr.h))).run Tryz.prog w' = .ok () (w'.setRow b (hartCells rr.h)) := fun w' k => HAt.store k
  have hsf : ∀ w', HAt b H w' → HAt b rr.h (w'.setRow b (hartCells rr.h)) := fun w' k => HAt.set k
  have hsx : ∀ c w', SAt c rr w' → (ldF ⟨c, 71, none⟩).run Tryz.prog w' = .ok (.agg (efCells rr.e)) w' := fun c w' k => SAt.loadE k
  have hfs : ∀ g w' Z T, w'.heap[g]? = some (.cells Z T) → Z.size = 7 → (stF ⟨g, 0, none⟩ (.agg (efCells rr.e))).run Tryz.prog w' = .ok () (w'.setRow g (efCells rr.e)) := fun g w' Z T k k2 => ef_store rr.e k k2
  have hfl : ∀ g w' T, w'.heap[g]? = some (.cells (efCells rr.e) T) → (ldF ⟨g, 0, none⟩).run Tryz.prog w' = .ok (.agg (efCells rr.e)) w' := fun g w' T k => ef_load k
  simp only [stS_eq] at hst
  simp only [bdS_eq] at hB
  unfold want0 at hB
  clear hrr hf hw2 hrun0
  generalize evCells ev = ES at *
  generalize hartCells H = CS at *
  generalize stepRow H ev = SS at *
  generalize evCells rr.w = DS at *
  generalize hartCells rr.h = HS at *
  generalize efCells rr.e = FS at *
  generalize W.sameE ev rr.w = sm at *
  have HRUN : Hid (_ ∧ _ ∧ _ ∧ _ ∧ _) := ⟨hrun, hsame, hse, hee, hsh⟩
  have HREST : Hid (_ ∧ _ ∧ _ ∧ _ ∧ _) := ⟨hss, hsf, hsx, hfs, hfl⟩
  clear hrun hsame hse hee hsh hss hsf hsx hfs hfl
  have HOK : Hid (_ = ok) := hok
  have HNQ : Hid (_ ∧ _) := ⟨hnq, hne⟩
  clear hok hnq hne hcq hcap
  go_enter Tryz.func8, Tryz.ntmps8
  go_wp2_with (fail)
  have hR0 := hR (.cells #[.int .i64 0, .int .u32 0, .int .i64 0, .int .u32 0, .bool false, .bool false, .bool false] 35)
  have hRa : ∀ o : Obj, Rr b w.heap.size CS ES H.pc (((w.alloc (.cells ES 29)).alloc (.cells #[.int .i64 0, .int .u32 0, .int .i64 0, .int .u32 0, .bool false, .bool false, .bool false] 35)).alloc o).drew := hRA _
  clear hR hRA
  have hh1 := (h.alloc (.cells ES 29)).alloc (.cells #[.int .i64 0, .int .u32 0, .int .i64 0, .int .u32 0, .bool false, .bool false, .bool false] 35)
  have hl1 := hh1.lt
  have hbw : Below w.heap.size w ((w.alloc (.cells ES 29)).alloc (.cells #[.int .i64 0, .int .u32 0, .int .i64 0, .int .u32 0, .bool false, .bool false, .bool false] 35)) := ((Below.refl _ _).alloc (Nat.le_refl _) _).alloc (by simp) _
  have hev := (ev_two w (.cells ES 29) (.cells #[.int .i64 0, .int .u32 0, .int .i64 0, .int .u32 0, .bool false, .bool false, .bool false] 35))
  have hs1 : ((w.alloc (.cells ES 29)).alloc (.cells #[.int .i64 0, .int .u32 0, .int .i64 0, .int .u32 0, .bool false, .bool false, .bool false] 35)).heap.size = w.heap.size + 1 + 1 := by simp
  generalize World.alloc (World.alloc w (.cells ES 29)) (.cells #[.int .i64 0, .int .u32 0, .int .i64 0, .int .u32 0, .bool false, .bool false, .bool false] 35) = W1 at *
  have gw1 : w.grownBy W1 (some b) := gbelow hbw
  have hq1 := hq.below hbw
  have hr1 := hr.below hbw
  have hE1 : W1.cell? ⟨0, 0, none⟩ = _ := (hbw.cell (p := ⟨0, 0, none⟩) hw0).trans hE
  have HW : Hid (_ ∧ _ ∧ _) := ⟨hE1, hq1, hr1⟩
  clear hE hq hr h hq1 hr1 hE1
  generalize hg : w.heap.size = g at *
  have hst2 : ∀ Z : Array Value, Z.size = 78 → (stS ⟨g + 1 + 1, 0, none⟩ (.agg SS)).run Tryz.prog (W1.alloc (.cells Z 55)).drew = .ok () (W1.alloc (.cells SS 55)).drew := fun Z hz => by
    rw [← hs1]
    exact hst W1.drew Z hz
  have hn2 : SAt (g + 1 + 1) (W.st0 H ev) (W1.alloc (.cells SS 55)).drew := by
    rw [← hs1]
    exact (hnew W1).drew
  clear hst hnew
  have R0 : Hid (Rr b g CS ES H.pc W1.drew) := hR0
  have R1 : Hid (∀ o, Rr b g CS ES H.pc (W1.alloc o).drew) := hRa
  clear hR0 hRa
  go_region_held3 (fun w' => (ldH ⟨b, 0, none⟩).run Tryz.prog w' = .ok (.agg CS) w' ∧ (ldE ⟨g, 0, none⟩).run Tryz.prog w' = .ok (.agg ES) w' ∧ w'.cell? ⟨b, 12, none⟩ = some (.int .u32 H.pc))
    (first | exact ⟨R0.out.l, R0.out.e, R0.out.p⟩ | exact ⟨(R1.out _).l, (R1.out _).e, (R1.out _).p⟩)
    (fail)
  clear hst2 R0 R1 hB hsz
  have hb2 : Below W1.heap.size W1 (W1.alloc (.cells SS 55)).drew := ((Below.refl _ _).alloc (Nat.le_refl _) _).drew
  have hs2 : (W1.alloc (.cells SS 55)).drew.heap.size = g + 1 + 1 + 1 := by simp [hs1]
  generalize (W1.alloc (.cells SS 55)).drew = W2 at *
  obtain ⟨hE1, hq1, hr1⟩ := HW.out
  have hq2 := hq1.below hb2
  have hr2 := hr1.below hb2
  have hh2 := hh1.below hb2
  have he2 : W2.heap[g]? = some (.cells ES 29) := (hb2.block g (by omega)).trans hev.1
  have hf2 : W2.heap[g + 1]? = some (.cells #[.int .i64 0, .int .u32 0, .int .i64 0, .int .u32 0, .bool false, .bool false, .bool false] 35) := (hb2.block (g + 1) (by omega)).trans hev.2
  have hE2 : W2.cell? ⟨0, 0, none⟩ = _ := (hb2.cell (p := ⟨0, 0, none⟩) (by show 0 < W1.heap.size; omega)).trans hE1
  have gw2 : w.grownBy W2 (some b) := gtrans gw1 (gbelow hb2)
  clear hE1 hq1 hr1 hh1 hev hbw hl1 hb2
  go_wp2_with (fail)
  refine (HRUN.out.1 W2 (g + 1 + 1) hn2 hq2 hr2 (fun q' off e hn => by have := HNQ.out.1 q' off e hn; omega) (fun q' off e hn => by have := HNQ.out.2 q' off e hn; omega)).mono ?_
  rintro e w3 ⟨rfl, h3, g3⟩
  have hh3 := hh2.kept g3 (by omega)
  have he3 : w3.heap[g]? = some (.cells ES 29) := (g3.block g (by omega) (by simp; omega)).trans he2
  have hf3 : w3.heap[g + 1]? = some (.cells #[.int .i64 0, .int .u32 0, .int .i64 0, .int .u32 0, .bool false, .bool false, .bool false] 35) := (g3.block (g + 1) (by omega) (by simp)).trans hf2
  have hE3 : w3.cell? ⟨0, 0, none⟩ = _ := (by simp only [World.cell?, g3.block 0 (by omega) (by simp)] : w3.cell? ⟨0, 0, none⟩ = W2.cell? ⟨0, 0, none⟩).trans hE2
  have hq3 := hq2.grown g3 (fun q' off e hn => by have := HNQ.out.1 q' off e hn; omega)
  have hr3 := hr2.grown g3 (fun q' off e hn => by have := HNQ.out.2 q' off e hn; omega)
  have gw3 : w.grownBy w3 (some b) := gover gw2 g3 (by omega)
  clear hE2 hq2 hr2 hh2 he2 hf2 hn2 gw2 gw1
  have hl3 := h3.lt
  have hb3 := hh3.lt
  have e58 : w3.cell? ⟨g + 1 + 1, 58, none⟩ = some (.int .i64 rr.w.k) := h3.cw 0 rfl
  have L1 := HRUN.out.2.2.1 (g + 1 + 1) w3 h3
  have L2 := HRUN.out.2.2.2.1 g w3 _ he3
  have hsm := HRUN.out.2.1 w3 hq3 hr3
  clear hq3 hr3
  cases hk : (rr.w.k == 0)
  · have HSM : Hid (Calls _ _ _ _ _) := hsm
    clear hsm
    cases sm
    · go_wp2_with (fail)
      refine HSM.out.mono ?_
      rintro e w4 ⟨rfl, hb4⟩
      have xh := hh3.below hb4
      have xf : w4.heap[g + 1]? = some (.cells #[.int .i64 0, .int .u32 0, .int .i64 0, .int .u32 0, .bool false, .bool false, .bool false] 35) := (hb4.block (g + 1) (by omega)).trans hf3
      have xE : w4.cell? ⟨0, 0, none⟩ = _ := (hb4.cell (p := ⟨0, 0, none⟩) (by show 0 < w3.heap.size; omega)).trans hE3
      have xg : w.grownBy w4 (some b) := gtrans gw3 (gbelow hb4)
      have hs4 := hb4.size
      clear hE3 hf3 he3 e58 L1 L2
      have hfd : w4.drew.heap[g + 1]? = some (.cells #[.int .i64 0, .int .u32 0, .int .i64 0, .int .u32 0, .bool false, .bool false, .bool false] 35) := xf
      have sF : (stF ⟨g + 1, 0, none⟩ (.agg #[.int .i64 0, .int .u32 0, .int .i64 0, .int .u32 0, .bool false, .bool false, .bool false])).run Tryz.prog w4.drew = .ok () (w4.drew.setRow (g + 1) #[.int .i64 0, .int .u32 0, .int .i64 0, .int .u32 0, .bool false, .bool false, .bool false]) := ef_store W.Ef.no hfd rfl
      have lF : (ldF ⟨g + 1, 0, none⟩).run Tryz.prog (w4.drew.setRow (g + 1) #[.int .i64 0, .int .u32 0, .int .i64 0, .int .u32 0, .bool false, .bool false, .bool false]) = .ok (.agg #[.int .i64 0, .int .u32 0, .int .i64 0, .int .u32 0, .bool false, .bool false, .bool false]) (w4.drew.setRow (g + 1) #[.int .i64 0, .int .u32 0, .int .i64 0, .int .u32 0, .bool false, .bool false, .bool false]) := ef_load (e := W.Ef.no) (setRow_heap _ _ _ _ _ _ hfd)
      have hEd : Hid ((w4.drew).cell? ⟨0, 0, none⟩ = some (.iface 172 (.pointer (some E)))) := xE
      have hEs : Hid ((w4.drew.setRow (g + 1) #[.int .i64 0, .int .u32 0, .int .i64 0, .int .u32 0, .bool false, .bool false, .bool false]).cell? ⟨0, 0, none⟩ = some (.iface 172 (.pointer (some E)))) := (cell_setRow_other w4.drew (g + 1) #[.int .i64 0, .int .u32 0, .int .i64 0, .int .u32 0, .bool false, .bool false, .bool false] ⟨0, 0, none⟩ (by show (0 : Nat) ≠ g + 1; omega)).trans xE
      go_wp2_with (fail)
      go_region_held3 (fun w' => w'.cell? ⟨0, 0, none⟩ = some (.iface 172 (.pointer (some E)))) (first | exact hEd.out | exact hEs.out) (fail)
      go_wp2
      refine bodyPost_ret (v := .tuple #[.agg #[.int .i64 0, .int .u32 0, .int .i64 0, .int .u32 0, .bool false, .bool false, .bool false], .iface 172 (.pointer (some E))]) (by simp [results, Tryz.results8, asAddr, ldF_eq, lF]) rfl ?_
      have hokf : ok = false := by rw [← HOK.out, hk]; rfl
      rw [hokf]
      exact ⟨rfl, (xh.drew).kept (gsetRow _ (g + 1) _) (by omega), gover (gtrans xg (gdrew _ _)) (gsetRow _ (g + 1) _) (by omega)⟩
    · go_wp2_with (fail)
      refine HSM.out.mono ?_
      rintro e w4 ⟨rfl, hb4⟩
      have xh := hh3.below hb4
      have h4 := h3.below hb4
      have xf : w4.heap[g + 1]? = some (.cells #[.int .i64 0, .int .u32 0, .int .i64 0, .int .u32 0, .bool false, .bool false, .bool false] 35) := (hb4.block (g + 1) (by omega)).trans hf3
      have xg : w.grownBy w4 (some b) := gtrans gw3 (gbelow hb4)
      have hs4 := hb4.size
      clear hE3 hf3 he3 e58 L1 L2
      have H1 := HRUN.out.2.2.2.2 (g + 1 + 1) w4 h4
      have S1 := HREST.out.1 w4 xh
      have hA := HREST.out.2.1 w4 xh
      have h5 : SAt (g + 1 + 1) rr (w4.setRow b HS) := h4.kept (gsetRow w4 b HS) (by omega)
      have F1 := HREST.out.2.2.1 (g + 1 + 1) _ h5
      have hf5 : (w4.setRow b HS).heap[g + 1]? = some (.cells #[.int .i64 0, .int .u32 0, .int .i64 0, .int .u32 0, .bool false, .bool false, .bool false] 35) := (setRow_other w4 b (g + 1) HS (by omega)).trans xf
      have F2 := HREST.out.2.2.2.1 (g + 1) _ _ _ hf5 rfl
      have F3 := HREST.out.2.2.2.2 (g + 1) ((w4.setRow b HS).setRow (g + 1) FS) _ (setRow_heap _ _ _ _ _ _ hf5)
      go_wp2
      refine bodyPost_ret (v := .tuple #[.agg FS, .nilIface]) (by simp [results, Tryz.results8, asAddr, ldF_eq, F3]) rfl ?_
      have hokt : ok = true := by rw [← HOK.out, hk]; rfl
      rw [hokt]
      exact ⟨rfl, hA.kept (gsetRow _ (g + 1) _) (by omega), gover (gtrans xg (gsetRow _ b _)) (gsetRow _ (g + 1) _) (by omega)⟩
  · have xh := hh3
    have xf := hf3
    have xE := hE3
    have xg := gw3
    clear hsm L1 L2 hE3 hf3 hh3
    have hfd : w3.drew.heap[g + 1]? = some (.cells #[.int .i64 0, .int .u32 0, .int .i64 0, .int .u32 0, .bool false, .bool false, .bool false] 35) := xf
    have sF : (stF ⟨g + 1, 0, none⟩ (.agg #[.int .i64 0, .int .u32 0, .int .i64 0, .int .u32 0, .bool false, .bool false, .bool false])).run Tryz.prog w3.drew = .ok () (w3.drew.setRow (g + 1) #[.int .i64 0, .int .u32 0, .int .i64 0, .int .u32 0, .bool false, .bool false, .bool false]) := ef_store W.Ef.no hfd rfl
    have lF : (ldF ⟨g + 1, 0, none⟩).run Tryz.prog (w3.drew.setRow (g + 1) #[.int .i64 0, .int .u32 0, .int .i64 0, .int .u32 0, .bool false, .bool false, .bool false]) = .ok (.agg #[.int .i64 0, .int .u32 0, .int .i64 0, .int .u32 0, .bool false, .bool false, .bool false]) (w3.drew.setRow (g + 1) #[.int .i64 0, .int .u32 0, .int .i64 0, .int .u32 0, .bool false, .bool false, .bool false]) := ef_load (e := W.Ef.no) (setRow_heap _ _ _ _ _ _ hfd)
    have hEd : Hid ((w3.drew).cell? ⟨0, 0, none⟩ = some (.iface 172 (.pointer (some E)))) := xE
    have hEs : Hid ((w3.drew.setRow (g + 1) #[.int .i64 0, .int .u32 0, .int .i64 0, .int .u32 0, .bool false, .bool false, .bool false]).cell? ⟨0, 0, none⟩ = some (.iface 172 (.pointer (some E)))) := (cell_setRow_other w3.drew (g + 1) #[.int .i64 0, .int .u32 0, .int .i64 0, .int .u32 0, .bool false, .bool false, .bool false] ⟨0, 0, none⟩ (by show (0 : Nat) ≠ g + 1; omega)).trans xE
    go_wp2_with (fail)
    go_region_held3 (fun w' => w'.cell? ⟨0, 0, none⟩ = some (.iface 172 (.pointer (some E)))) (first | exact hEd.out | exact hEs.out) (fail)
    go_wp2
    refine bodyPost_ret (v := .tuple #[.agg #[.int .i64 0, .int .u32 0, .int .i64 0, .int .u32 0, .bool false, .bool false, .bool false], .iface 172 (.pointer (some E))]) (by simp [results, Tryz.results8, asAddr, ldF_eq, lF]) rfl ?_
    have hokf : ok = false := by rw [← HOK.out, hk]; rfl
    rw [hokf]
    exact ⟨rfl, (xh.drew).kept (gsetRow _ (g + 1) _) (by omega), gover (gtrans xg (gdrew _ _)) (gsetRow _ (g + 1) _) (by omega)⟩
end Go.Proofs.YteilpehekabccabGreatDoor

/- New, PC of a hart; Replay of an event without entries. -/
namespace Go.Proofs.YteilpehekabccabGreatDoor
open Go.ChangeShapes Go.WideShapes Go.ChangeAt Go.RowKit
set_option linter.unusedVariables false
set_option linter.unusedSimpArgs false

def W.H0 (id by_ : Int) : W.Ht := ⟨W.fnew id, by_, 0, fun _ => 0⟩
theorem H0_ok (id by_ : Int) : W.HOk (W.H0 id by_) := ⟨W.FOk.fnew id, W.rg0, fun _ => W.rg0⟩
set_option maxRecDepth 100000 in
theorem build_h0 (c0 c1 c2 c3 c4 c5 c6 c7 c8 c9 c10 : Value) (y : Int) (w : World) : (Instr.build 49 #[(0, .agg #[c0, c1, c2, c3, c4, c5, c6, c7, c8, c9, c10]), (1, .int .i64 y)]).run Tryz.prog w = .ok (.agg #[c0, c1, c2, c3, c4, c5, c6, c7, c8, c9, c10, .int .i64 y, .int .u32 0, .int .u32 0, .int .u32 0, .int .u32 0, .int .u32 0, .int .u32 0, .int .u32 0, .int .u32 0, .int .u32 0, .int .u32 0, .int .u32 0, .int .u32 0, .int .u32 0, .int .u32 0, .int .u32 0, .int .u32 0, .int .u32 0, .int .u32 0, .int .u32 0, .int .u32 0, .int .u32 0, .int .u32 0, .int .u32 0, .int .u32 0, .int .u32 0, .int .u32 0, .int .u32 0, .int .u32 0, .int .u32 0, .int .u32 0, .int .u32 0, .int .u32 0, .int .u32 0]) w := run_build w 49 _ _ (by kernel_rfl)
theorem build_h (id by_ : Int) (w : World) : (bdH #[(0, .agg (fileCells (W.fnew id))), (1, .int .i64 by_)]).run Tryz.prog w = .ok (.agg (hartCells (W.H0 id by_))) w := by
  rw [hartAll_eq]
  exact build_h0 _ _ _ _ _ _ _ _ _ _ _ _ w

attribute [local go_sem ↓] ldH_eq stH_eq bdH_eq
theorem hnew_any (id by_ : Int) (w : World) : Calls Tryz.prog 5 #[.int .i64 id, .int .i64 by_] w fun z w' => ∃ c, w.heap.size ≤ c ∧ z = .returned (.pointer (some ⟨c, 0, none⟩)) ∧ HAt c (W.H0 id by_) w' ∧ Below w.heap.size w w' := by
  have hB := build_h id by_
  have hst := fun w => store_new w (W.H0 id by_)
  have hnw := fun w => HAt.new w (W.H0 id by_)
  have hN := new_any id
  generalize fileCells (W.fnew id) = FS at *
  generalize hartCells (W.H0 id by_) = CS at *
  simp only [stH_eq] at hst
  have HN : Hid (∀ w, Calls _ _ _ w _) := hN
  clear hN
  go_enter Tryz.func5, Tryz.ntmps5
  go_wp2_with (fail)
  refine (HN.out w).mono ?_
  rintro e w1 ⟨rfl, hb1⟩
  go_wp2
  go_ret
  exact ⟨w1.heap.size, hb1.size, rfl, hnw w1, hb1.alloc hb1.size _⟩

theorem pc_any (b : Nat) (H : W.Ht) (w : World) (h : HAt b H w) : Calls Tryz.prog 10 #[.pointer (some ⟨b, 0, none⟩)] w fun z w' => z = .returned (.int .u32 H.pc) ∧ w = w' := by
  have hc : w.cell? ⟨b, 12, none⟩ = some (.int .u32 H.pc) := h.c 1 rfl
  have hlt := h.lt
  go_enter Tryz.func10, Tryz.ntmps10
  go_wp2
  go_ret
  exact ⟨rfl, rfl⟩

theorem reads_nil (w : World) : Reads W.Sl.nil.a W.Sl.nil.n (fun _ => ⟨0, 0, 0, 0, false⟩) w := ⟨Nat.zero_le _, fun h => absurd h (by decide), fun _ => ⟨(by decide : (0 : Int) ≤ 0), (by decide : (0 : Int) < 4294967296)⟩⟩

/-- Replay of an event without entries. -/
theorem replay_0 (b : Nat) (H : W.Ht) (ev : W.Ev) (E : Addr) (hH : W.HOk H) (hwd : W.Rg ev.wd) (hf : ev.fw = W.Sl.nil) (hk : ev.wk = W.Sl.nil) (w : World) (h : HAt b H w)
    (hE : w.cell? ⟨0, 0, none⟩ = some (.iface 172 (.pointer (some E)))) (rr : W.St) (hrr : ∀ B U A V, W.rrun H ev 0 B U 0 A V = rr) (hrf : rr.w.fw = W.Sl.nil) (hrk : rr.w.wk = W.Sl.nil) (ok : Bool) (hok : (!(rr.w.k == 0) && W.sameE ev rr.w) = ok) :
    Calls Tryz.prog 8 #[.pointer (some ⟨b, 0, none⟩), .agg (evCells ev)] w fun z w' => z = .returned (bif ok then .tuple #[.agg (efCells rr.e), .nilIface] else .tuple #[.agg (efCells W.Ef.no), .iface 172 (.pointer (some E))]) ∧ HAt b (bif ok then rr.h else H) w' ∧ w.grownBy w' (some b) := by
  refine replay_any b H ev (fun _ => ⟨0, 0, 0, 0, false⟩) (fun _ => ⟨0, 0, 0, 0, false⟩) E hH hwd (by rw [hf]; exact Nat.le_refl _) (by rw [hk]; exact Nat.le_refl _) w h hE (by rw [hf]; exact reads_nil w) (by rw [hk]; exact reads_nil w) rr ?_ (Or.inr hrf) (Or.inr hrk) ok hok
  rw [hf, hk]
  exact hrr _ _ _ _
theorem replay_y (b : Nat) (H K : W.Ht) (ev : W.Ev) (e : W.Ef) (E : Addr) (hH : W.HOk H) (hwd : W.Rg ev.wd) (hf : ev.fw = W.Sl.nil) (hk : ev.wk = W.Sl.nil) (d : W.Ev) (hrr : ∀ B U A V, W.rrun H ev 0 B U 0 A V = ⟨K, ev, d, e⟩) (hrf : d.fw = W.Sl.nil) (hrk : d.wk = W.Sl.nil) (hok : (!(d.k == 0) && W.sameE ev d) = true) (w : World) (h : HAt b H w)
    (hE : w.cell? ⟨0, 0, none⟩ = some (.iface 172 (.pointer (some E)))) :
    Calls Tryz.prog 8 #[.pointer (some ⟨b, 0, none⟩), .agg (evCells ev)] w fun z w' => z = .returned (.tuple #[.agg (efCells e), .nilIface]) ∧ HAt b K w' ∧ w.grownBy w' (some b) :=
  replay_0 b H ev E hH hwd hf hk w h hE ⟨K, ev, d, e⟩ hrr hrf hrk true hok
theorem replay_n (b : Nat) (H : W.Ht) (ev : W.Ev) (E : Addr) (hH : W.HOk H) (hwd : W.Rg ev.wd) (hf : ev.fw = W.Sl.nil) (hk : ev.wk = W.Sl.nil) (rr : W.St) (hrr : ∀ B U A V, W.rrun H ev 0 B U 0 A V = rr) (hrf : rr.w.fw = W.Sl.nil) (hrk : rr.w.wk = W.Sl.nil) (hok : (!(rr.w.k == 0) && W.sameE ev rr.w) = false) (w : World) (h : HAt b H w)
    (hE : w.cell? ⟨0, 0, none⟩ = some (.iface 172 (.pointer (some E)))) :
    Calls Tryz.prog 8 #[.pointer (some ⟨b, 0, none⟩), .agg (evCells ev)] w fun z w' => z = .returned (.tuple #[.agg (efCells W.Ef.no), .iface 172 (.pointer (some E))]) ∧ HAt b H w' ∧ w.grownBy w' (some b) :=
  replay_0 b H ev E hH hwd hf hk w h hE rr hrr hrf hrk false hok
end Go.Proofs.YteilpehekabccabGreatDoor

/- What a step comes to in Machine, without entries: laws without any Go. -/
namespace Go.Proofs.YteilpehekabccabGreatDoor.W
open Go.RowKit
set_option linter.unusedVariables false

theorem walk_here (H : Ht) (m3 : H.G.m = 3) (va acc : Int) (A V : Nat → Int) : hwalk H va acc 0 A V = hereS va := by
  simp [hwalk, walkS, askAll, nextS, stepS, onB, m3]
/-- The event as it has to be once the word is read. -/
def wd0 (H : Ht) (ev : Ev) : Ev := ⟨0, H.pc, ev.wd, H.pc, 0, 0, ev.fw, Sl.nil, 0, 0, false, 0, 0⟩
/-- The step, once the word is read. -/
def fetd (H : Ht) (ev : Ev) : St := ⟨H, ev, wd0 H ev, Ef.no⟩
theorem rrun_dec (H : Ht) (ev : Ev) (m3 : H.G.m = 3) (p4 : H.pc % 4 = 0) (hb : H.pc + 4 ≤ H.by_) (hk : (ev.k == 3) = false) (hd : decB ev.wd = true) (B U : Nat → Int) (n : Nat) (A V : Nat → Int) : rrun H ev 0 B U n A V = sdo (fetd H ev) (decI ev.wd) n A V := by
  have hw := walk_here H m3 H.pc 1 B U
  have h4 : (H.pc % 4 != 0) = false := by simp [p4]
  have hh : hhas H H.pc 4 = true := by simpa [hhas] using hb
  simp only [rrun, srun, st0, hk, cond_false, sfet, h4, hw, hereS, sfet1, hh, sfet2, hd, cond_true, beq_self_eq_true]
  rfl
theorem rrun_ill (H : Ht) (ev : Ev) (m3 : H.G.m = 3) (p4 : H.pc % 4 = 0) (hb : H.pc + 4 ≤ H.by_) (hk : (ev.k == 3) = false) (hd : decB ev.wd = false) (B U : Nat → Int) (n : Nat) (A V : Nat → Int) : rrun H ev 0 B U n A V = sill (fetd H ev) := by
  have hw := walk_here H m3 H.pc 1 B U
  have h4 : (H.pc % 4 != 0) = false := by simp [p4]
  have hh : hhas H H.pc 4 = true := by simpa [hhas] using hb
  simp only [rrun, srun, st0, hk, cond_false, sfet, h4, hw, hereS, sfet1, hh, sfet2, hd, cond_true, beq_self_eq_true]
  rfl
/-- What is reckoned, a jump, a branch. -/
theorem sdo_reck (H : Ht) (ev : Ev) (i : I) (n : Nat) (A V : Nat → Int) (hk : (decide (1 ≤ kind i.op) && decide (kind i.op ≤ 3)) = true) (nx v : Int) (hn : nextV i.op i.imm H.pc (xget H i.rs1) (xget H i.rs2) = nx) (hv : resV i.op i.imm H.pc (xget H i.rs1) (xget H i.rs2) = v) (n4 : nx % 4 = 0) :
    sdo (fetd H ev) i n A V = ⟨{ hput H i.rd v with pc := nx }, ev, { wd0 H ev with k := 1 }, Ef.no⟩ := by
  have h4 : (nx % 4 != 0) = false := by simp [n4]
  simp only [sdo, hk, cond_true, sreck, fetd, hn, h4, cond_false, hv, sput, sret]
theorem sdo_bent (H : Ht) (ev : Ev) (i : I) (n : Nat) (A V : Nat → Int) (hk : (decide (1 ≤ kind i.op) && decide (kind i.op ≤ 3)) = true) (nx : Int) (hn : nextV i.op i.imm H.pc (xget H i.rs1) (xget H i.rs2) = nx) (n4 : nx % 4 ≠ 0) :
    sdo (fetd H ev) i n A V = strap (fetd H ev) 0 nx := by
  have h4 : (nx % 4 != 0) = true := by simp [n4]
  simp only [sdo, hk, cond_true, sreck, fetd, hn, h4]
/-- An event that tells just what has to be. -/
theorem same_plain (H : Ht) (ev : Ev) (c t pa ld : Int) (k : Int) (dn : Bool) (hk : ev.k = k) (hp : ev.pc = H.pc) (hf : ev.fpa = H.pc) (hpa : ev.pa = pa) (hld : ev.ld = ld) (hc : ev.ca = c) (ht : ev.tv = t) (hdn : ev.dn = dn) (hw : ev.wk = Sl.nil) (k0 : k ≠ 0) :
    (!((⟨k, H.pc, ev.wd, H.pc, pa, ld, ev.fw, Sl.nil, c, t, dn, 0, 0⟩ : Ev).k == 0) && sameE ev ⟨k, H.pc, ev.wd, H.pc, pa, ld, ev.fw, Sl.nil, c, t, dn, 0, 0⟩) = true := by
  subst hk hpa hld hc ht hdn
  simp [sameE, hp, hf, hw, k0]
theorem hput_ok {H : Ht} (k : HOk H) (rd v pc : Int) (hv : Rg v) (hp : Rg pc) : HOk { hput H rd v with pc := pc } :=
  ⟨(k.put rd v hv).G, hp, (k.put rd v hv).x⟩
theorem hput_G (H : Ht) (rd v : Int) : (hput H rd v).G = H.G := by unfold hput; cases (rd != 0) <;> rfl
theorem hput_by (H : Ht) (rd v : Int) : (hput H rd v).by_ = H.by_ := by unfold hput; cases (rd != 0) <;> rfl
theorem xget_put (H : Ht) (rd v pc i : Int) (r0 : 0 ≤ i) (r1 : i < 32) : xget { hput H rd v with pc := pc } i = if rd ≠ 0 ∧ i = rd then v else xget H i := by
  have h0 : ¬ i < 0 := by omega
  have h1 : ¬ 32 ≤ i := by omega
  unfold xget hput
  simp only [h0, h1, decide_false, cond_false]
  by_cases h : rd = 0
  · simp [h]
  · have hb : (rd != 0) = true := by simp [h]
    simp only [hb, cond_true, upd]
    by_cases e : i = rd
    · subst e
      rw [if_pos (by omega), if_pos ⟨h, rfl⟩]
    · rw [if_neg (by omega), if_neg (by rintro ⟨_, h⟩; exact e h)]
theorem xget_out (H : Ht) (i : Int) (h : i < 0 ∨ 32 ≤ i) : xget H i = 0 := by
  unfold xget
  rcases h with h | h
  · simp [h]
  · have h0 : ¬ i < 0 := by omega
    simp [h, h0]
end Go.Proofs.YteilpehekabccabGreatDoor.W
