/- Texts in one: HartL2, HartL3, HartP, HartL4, Laid1, HartL1, IsaF, IsaG, IsaI. -/
import Derived.Deep.RegionHeld3
import Derived.Deep.RegionWith
import Derived.Test.YteilpehekabccaaGreatDoorRows
import Derived.Test.YteilpehekabccaaGreatDoorChecked
import Derived.WalkKit
import Derived.ProofKit
import Derived.LaidLaws
import Derived.LaidMore
import Derived.Stop.Joined
import Derived.Stop.ErrReads
import Derived.RowKitTokens
import Derived.Deep.DrawnRows
import Derived.Test.YteilpehekabccaaGreatDoorJ05
import Derived.Test.YteilpehekabccaaGreatDoorJ07
import Derived.Test.YteilpehekabccaaGreatDoorJ08
import Derived.Test.YteilpehekabccaaGreatDoorJ12
import Derived.Test.YteilpehekabccaaGreatDoorJ26
import Derived.Test.YteilpehekabccaaGreatDoorJ31
/- Replay: its first statement, and what follows. -/
namespace Go.Proofs.YteilpehekabccaaGreatDoor
open Go.ChangeShapes Go.WideShapes Go.ChangeAt Go.RowKit
set_option linter.unusedVariables false
set_option linter.unusedSimpArgs false

def want0 (H : W.Ht) : Array Value := #[.int .i64 0, .int .u32 H.pc, .int .u32 0, .int .u32 0, .int .u32 0, .int .u32 0, .slice none 0 0, .slice none 0 0, .int .u32 0, .int .u32 0, .bool false, .int .i64 0, .int .i64 0]
def stepRow (H : W.Ht) (ev : W.Ev) : Array Value := fileCells H.G ++ sRest (W.st0 H ev)
theorem stepRow_eq (H : W.Ht) (ev : W.Ev) : stepRow H ev = stepAll H ev ⟨0, H.pc, 0, 0, 0, 0, W.Sl.nil, W.Sl.nil, 0, 0, false, 0, 0⟩ W.Ef.no := stepAll_eq _ _ _ _
theorem stepRow_size (H : W.Ht) (ev : W.Ev) : (stepRow H ev).size = 78 := by rw [stepRow_eq]; rfl
theorem stepRow_all (H : W.Ht) (ev : W.Ev) : (stepRow H ev).all (fun x => x.oneCell') = true := by rw [stepRow_eq]; exact all81 _ _ _ _
set_option maxRecDepth 100000 in
theorem build_row (H : W.Ht) (ev : W.Ev) (w : World) : (Instr.build 81 #[(0, .agg (hartCells H)), (1, .agg (evCells ev)), (2, .agg (want0 H))]).run Tryz.prog w = .ok (.agg (stepRow H ev)) w := by
  rw [hartAll_eq, stepRow_eq]
  obtain ⟨k, pc, wd, fpa, pa, ld, ⟨fa, fn, fc⟩, ⟨wa, wn, wc⟩, ca, tv, dn, fat, at_⟩ := ev
  rw [← step81_eq]
  exact build81 _ _ _ _ _ _ _ _ _ _ _ _ _ _ _ _ _ _ _ _ _ _ _ _ _ _ _ _ _ _ _ _ _ _ _ _ _ _ _ _ _ _ _ _ _ _ _ _ _ _ _ _ _ _ _ _ _ _ _ _ _ _ _ _ _ _ _ _ _ _ _ w
theorem info81 : (Tryz.prog.info? 81).map (·.size) = some 78 := zero81.2
theorem store_step (w : World) (H : W.Ht) (ev : W.Ev) (Z : Array Value) (hz : Z.size = 78) : (storeVar 81 ⟨w.heap.size, 0, none⟩ (.agg (stepRow H ev))).run Tryz.prog (w.alloc (.cells Z 81)) = .ok () (w.alloc (.cells (stepRow H ev) 81)) :=
  run_storeVar_new w _ Z _ (by rw [info81, stepRow_size]) (by rw [hz, stepRow_size]) (stepRow_all H ev)
theorem SAt.new (w : World) (H : W.Ht) (ev : W.Ev) : SAt w.heap.size (W.st0 H ev) (w.alloc (.cells (stepRow H ev) 81)) := ⟨heap_alloc_last w _⟩
theorem ev_load {g : Nat} {ev : W.Ev} {w : World} {T : TypeId} (h : w.heap[g]? = some (.cells (evCells ev) T)) : (loadVar 27 ⟨g, 0, none⟩).run Tryz.prog w = .ok (.agg (evCells ev)) w := by
  refine load_part h (fun j v hv => by simpa using hv) ?_ ?_
  · simp [go_sem]
  · rw [evCells_size]; simp [go_sem]

/-- What the first statement reads. -/
structure Rr (b g : Nat) (CS ES : Array Value) (pc : Int) (w : World) : Prop where
  l : (ldH ⟨b, 0, none⟩).run Tryz.prog w = .ok (.agg CS) w
  e : (ldE ⟨g, 0, none⟩).run Tryz.prog w = .ok (.agg ES) w
  p : w.cell? ⟨b, 12, none⟩ = some (.int .u32 pc)
theorem Rr.of {b g : Nat} {H : W.Ht} {ev : W.Ev} {w : World} {T : TypeId} (h : HAt b H w) (he : w.heap[g]? = some (.cells (evCells ev) T)) : Rr b g (hartCells H) (evCells ev) H.pc w :=
  ⟨HAt.loadV h, ev_load he, h.c 1 rfl⟩

attribute [local go_sem ↓] ldH_eq stH_eq ldE_eq stS_eq bdS_eq ldF_eq stF_eq
set_option maxRecDepth 100000 in
set_option maxHeartbeats 4000000 in
theorem replay_any (b : Nat) (H : W.Ht) (ev : W.Ev) (q p : Nat → W.Pt) (E : Addr) (hH : W.HOk H) (hwd : W.Rg ev.wd) (hcq : ev.fw.n ≤ ev.fw.c) (hcap : ev.wk.n ≤ ev.wk.c) (w : World) (h : HAt b H w)
    (hE : w.cell? ⟨0, 0, none⟩ = some (.iface 211 (.pointer (some E)))) (hq : Reads ev.fw.a ev.fw.n q w) (hr : Reads ev.wk.a ev.wk.n p w)
    (rr : W.St) (hrr : W.rrun H ev ev.fw.n (fun j => (q j).a) (fun j => (q j).v) ev.wk.n (fun j => (p j).a) (fun j => (p j).v) = rr) (hf : rr.w.fw = ev.fw ∨ rr.w.fw = W.Sl.nil) (hw2 : rr.w.wk = ev.wk ∨ rr.w.wk = W.Sl.nil)
    (ok : Bool) (hok : (!(rr.w.k == 0) && W.sameE ev rr.w) = ok) :
    Calls Tryz.prog 14 #[.pointer (some ⟨b, 0, none⟩), .agg (evCells ev)] w fun z w' => z = .returned (bif ok then .tuple #[.agg (efCells rr.e), .nilIface] else .tuple #[.agg (efCells W.Ef.no), .iface 211 (.pointer (some E))]) ∧ HAt b (bif ok then rr.h else H) w' ∧ w.grownBy w' (some b) := by
  have hlt := h.lt
  have hw0 : 0 < w.heap.size := World.block_lt_of_cell? _ _ hE
  have hB := build_row H ev
  have hst := fun W => store_step W H ev
  have hnew := fun W => SAt.new W H ev
  have hsz := evCells_size ev
  have hnq : ∀ q off, ev.fw.a = some ⟨q, off, none⟩ → 0 < ev.fw.n → q < w.heap.size := fun q' off e hn => by
    obtain ⟨b', off', e', hl, _⟩ := hq.2.1 hn
    rw [e] at e'
    simp at e'
    omega
  have hne : ∀ q off, ev.wk.a = some ⟨q, off, none⟩ → 0 < ev.wk.n → q < w.heap.size := fun q' off e hn => by
    obtain ⟨b', off', e', hl, _⟩ := hr.2.1 hn
    rw [e] at e'
    simp at e'
    omega
  have hR : ∀ o : Obj, Rr b w.heap.size (hartCells H) (evCells ev) H.pc ((w.alloc (.cells (evCells ev) 27)).alloc o).drew := fun o => Rr.of ((h.alloc _).alloc _).drew (ev_two w _ _).1
  have hRA : ∀ o p : Obj, Rr b w.heap.size (hartCells H) (evCells ev) H.pc (((w.alloc (.cells (evCells ev) 27)).alloc o).alloc p).drew := fun o p => Rr.of (((h.alloc _).alloc _).alloc _).drew (((Below.refl _ _).alloc (Nat.le_refl _) p).block w.heap.size (by simp; omega) |>.trans (ev_two w _ _).1)
  have hrun0 := fun w2 b2 => fun (k : SAt b2 (W.st0 H ev) w2) k1 k2 k3 k4 => run_any b2 (W.st0 H ev) hH hwd q p hcq hcap w2 k k1 k2 k3 k4
  have hrun : ∀ w2 b2, SAt b2 (W.st0 H ev) w2 → Reads ev.fw.a ev.fw.n q w2 → Reads ev.wk.a ev.wk.n p w2 → (∀ q off, ev.fw.a = some ⟨q, off, none⟩ → 0 < ev.fw.n → q ≠ b2) → (∀ q off, ev.wk.a = some ⟨q, off, none⟩ → 0 < ev.wk.n → q ≠ b2) → Calls Tryz.prog 34 #[.pointer (some ⟨b2, 0, none⟩)] w2 fun z w' => z = .returned (.tuple #[]) ∧ SAt b2 rr w' ∧ w2.grownBy w' (some b2) := fun w2 b2 k k1 k2 k3 k4 => by
    have := hrun0 w2 b2 k k1 k2 k3 k4
    rw [← hrr]
    exact this
  have hsame := fun w' k1 k2 => same_any ev rr.w q p w' k1 k2 hf hw2
  have hse : ∀ c w', SAt c rr w' → (ldE ⟨c, 58, none⟩).run Tryz.prog w' = .ok (.agg (evCells rr.w)) w' := fun c w' k => SAt.loadW k
  have hee : ∀ g w' T, w'.heap[g]? = some (.cells (evCells ev) T) → (ldE ⟨g, 0, none⟩).run Tryz.prog w' = .ok (.agg (evCells ev)) w' := fun g w' T k => ev_load k
  have hsh : ∀ c w', SAt c rr w' → (ldH ⟨c, 0, none⟩).run Tryz.prog w' = .ok (.agg (hartCells rr.h)) w' := fun c w' k => SAt.loadH k
  have hss : ∀ w', HAt b H w' → (stH ⟨b, 0, none⟩ (.agg (hartCells rr.h))).run Tryz.prog w' = .ok () (w'.setRow b (hartCells rr.h)) := fun w' k => HAt.store k
  have hsf : ∀ w', HAt b H w' → HAt b rr.h (w'.setRow b (hartCells rr.h)) := fun w' k => HAt.set k
  have hsx : ∀ c w', SAt c rr w' → (ldF ⟨c, 71, none⟩).run Tryz.prog w' = .ok (.agg (efCells rr.e)) w' := fun c w' k => SAt.loadE k
  have hfs : ∀ g w' Z T, w'.heap[g]? = some (.cells Z T) → Z.size = 7 → (stF ⟨g, 0, none⟩ (.agg (efCells rr.e))).run Tryz.prog w' = .ok () (w'.setRow g (efCells rr.e)) := fun g w' Z T k k2 => ef_store rr.e k k2
  have hfl : ∀ g w' T, w'.heap[g]? = some (.cells (efCells rr.e) T) → (ldF ⟨g, 0, none⟩).run Tryz.prog w' = .ok (.agg (efCells rr.e)) w' := fun g w' T k => ef_load k
  simp only [stS_eq] at hst
  simp only [bdS_eq] at hB
  unfold want0 at hB
  clear hrr hf hw2 hrun0
  generalize evCells ev = ES at *
  generalize hartCells H = CS at *
  generalize stepRow H ev = SS at *
  generalize evCells rr.w = DS at *
  generalize hartCells rr.h = HS at *
  generalize efCells rr.e = FS at *
  generalize W.sameE ev rr.w = sm at *
  have HRUN : Hid (_ ∧ _ ∧ _ ∧ _ ∧ _) := ⟨hrun, hsame, hse, hee, hsh⟩
  have HREST : Hid (_ ∧ _ ∧ _ ∧ _ ∧ _) := ⟨hss, hsf, hsx, hfs, hfl⟩
  clear hrun hsame hse hee hsh hss hsf hsx hfs hfl
  have HOK : Hid (_ = ok) := hok
  have HNQ : Hid (_ ∧ _) := ⟨hnq, hne⟩
  clear hok hnq hne hcq hcap
  go_enter Tryz.func14, Tryz.ntmps14
  go_wp2_with (fail)
  have hR0 := hR (.cells #[.int .i64 0, .int .u32 0, .int .i64 0, .int .u32 0, .bool false, .bool false, .bool false] 35)
  have hRa : ∀ o : Obj, Rr b w.heap.size CS ES H.pc (((w.alloc (.cells ES 27)).alloc (.cells #[.int .i64 0, .int .u32 0, .int .i64 0, .int .u32 0, .bool false, .bool false, .bool false] 35)).alloc o).drew := hRA _
  clear hR hRA
  have hh1 := (h.alloc (.cells ES 27)).alloc (.cells #[.int .i64 0, .int .u32 0, .int .i64 0, .int .u32 0, .bool false, .bool false, .bool false] 35)
  have hl1 := hh1.lt
  have hbw : Below w.heap.size w ((w.alloc (.cells ES 27)).alloc (.cells #[.int .i64 0, .int .u32 0, .int .i64 0, .int .u32 0, .bool false, .bool false, .bool false] 35)) := ((Below.refl _ _).alloc (Nat.le_refl _) _).alloc (by simp) _
  have hev := (ev_two w (.cells ES 27) (.cells #[.int .i64 0, .int .u32 0, .int .i64 0, .int .u32 0, .bool false, .bool false, .bool false] 35))
  have hs1 : ((w.alloc (.cells ES 27)).alloc (.cells #[.int .i64 0, .int .u32 0, .int .i64 0, .int .u32 0, .bool false, .bool false, .bool false] 35)).heap.size = w.heap.size + 1 + 1 := by simp
  generalize World.alloc (World.alloc w (.cells ES 27)) (.cells #[.int .i64 0, .int .u32 0, .int .i64 0, .int .u32 0, .bool false, .bool false, .bool false] 35) = W1 at *
  have gw1 : w.grownBy W1 (some b) := gbelow hbw
  have hq1 := hq.below hbw
  have hr1 := hr.below hbw
  have hE1 : W1.cell? ⟨0, 0, none⟩ = _ := (hbw.cell (p := ⟨0, 0, none⟩) hw0).trans hE
  have HW : Hid (_ ∧ _ ∧ _) := ⟨hE1, hq1, hr1⟩
  clear hE hq hr h hq1 hr1 hE1
  generalize hg : w.heap.size = g at *
  have hst2 : ∀ Z : Array Value, Z.size = 78 → (stS ⟨g + 1 + 1, 0, none⟩ (.agg SS)).run Tryz.prog (W1.alloc (.cells Z 81)).drew = .ok () (W1.alloc (.cells SS 81)).drew := fun Z hz => by
    rw [← hs1]
    exact hst W1.drew Z hz
  have hn2 : SAt (g + 1 + 1) (W.st0 H ev) (W1.alloc (.cells SS 81)).drew := by
    rw [← hs1]
    exact (hnew W1).drew
  clear hst hnew
  have R0 : Hid (Rr b g CS ES H.pc W1.drew) := hR0
  have R1 : Hid (∀ o, Rr b g CS ES H.pc (W1.alloc o).drew) := hRa
  clear hR0 hRa
  go_region_held3 (fun w' => (ldH ⟨b, 0, none⟩).run Tryz.prog w' = .ok (.agg CS) w' ∧ (ldE ⟨g, 0, none⟩).run Tryz.prog w' = .ok (.agg ES) w' ∧ w'.cell? ⟨b, 12, none⟩ = some (.int .u32 H.pc))
    (first | exact ⟨R0.out.l, R0.out.e, R0.out.p⟩ | exact ⟨(R1.out _).l, (R1.out _).e, (R1.out _).p⟩)
    (fail)
  clear hst2 R0 R1 hB hsz
  have hb2 : Below W1.heap.size W1 (W1.alloc (.cells SS 81)).drew := ((Below.refl _ _).alloc (Nat.le_refl _) _).drew
  have hs2 : (W1.alloc (.cells SS 81)).drew.heap.size = g + 1 + 1 + 1 := by simp [hs1]
  generalize (W1.alloc (.cells SS 81)).drew = W2 at *
  obtain ⟨hE1, hq1, hr1⟩ := HW.out
  have hq2 := hq1.below hb2
  have hr2 := hr1.below hb2
  have hh2 := hh1.below hb2
  have he2 : W2.heap[g]? = some (.cells ES 27) := (hb2.block g (by omega)).trans hev.1
  have hf2 : W2.heap[g + 1]? = some (.cells #[.int .i64 0, .int .u32 0, .int .i64 0, .int .u32 0, .bool false, .bool false, .bool false] 35) := (hb2.block (g + 1) (by omega)).trans hev.2
  have hE2 : W2.cell? ⟨0, 0, none⟩ = _ := (hb2.cell (p := ⟨0, 0, none⟩) (by show 0 < W1.heap.size; omega)).trans hE1
  have gw2 : w.grownBy W2 (some b) := gtrans gw1 (gbelow hb2)
  clear hE1 hq1 hr1 hh1 hev hbw hl1 hb2
  go_wp2_with (fail)
  refine (HRUN.out.1 W2 (g + 1 + 1) hn2 hq2 hr2 (fun q' off e hn => by have := HNQ.out.1 q' off e hn; omega) (fun q' off e hn => by have := HNQ.out.2 q' off e hn; omega)).mono ?_
  rintro e w3 ⟨rfl, h3, g3⟩
  have hh3 := hh2.kept g3 (by omega)
  have he3 : w3.heap[g]? = some (.cells ES 27) := (g3.block g (by omega) (by simp; omega)).trans he2
  have hf3 : w3.heap[g + 1]? = some (.cells #[.int .i64 0, .int .u32 0, .int .i64 0, .int .u32 0, .bool false, .bool false, .bool false] 35) := (g3.block (g + 1) (by omega) (by simp)).trans hf2
  have hE3 : w3.cell? ⟨0, 0, none⟩ = _ := (by simp only [World.cell?, g3.block 0 (by omega) (by simp)] : w3.cell? ⟨0, 0, none⟩ = W2.cell? ⟨0, 0, none⟩).trans hE2
  have hq3 := hq2.grown g3 (fun q' off e hn => by have := HNQ.out.1 q' off e hn; omega)
  have hr3 := hr2.grown g3 (fun q' off e hn => by have := HNQ.out.2 q' off e hn; omega)
  have gw3 : w.grownBy w3 (some b) := gover gw2 g3 (by omega)
  clear hE2 hq2 hr2 hh2 he2 hf2 hn2 gw2 gw1
  have hl3 := h3.lt
  have hb3 := hh3.lt
  have e58 : w3.cell? ⟨g + 1 + 1, 58, none⟩ = some (.int .i64 rr.w.k) := h3.cw 0 rfl
  have L1 := HRUN.out.2.2.1 (g + 1 + 1) w3 h3
  have L2 := HRUN.out.2.2.2.1 g w3 _ he3
  have hsm := HRUN.out.2.1 w3 hq3 hr3
  clear hq3 hr3
  cases hk : (rr.w.k == 0)
  · have HSM : Hid (Calls _ _ _ _ _) := hsm
    clear hsm
    cases sm
    · go_wp2_with (fail)
      refine HSM.out.mono ?_
      rintro e w4 ⟨rfl, hb4⟩
      have xh := hh3.below hb4
      have xf : w4.heap[g + 1]? = some (.cells #[.int .i64 0, .int .u32 0, .int .i64 0, .int .u32 0, .bool false, .bool false, .bool false] 35) := (hb4.block (g + 1) (by omega)).trans hf3
      have xE : w4.cell? ⟨0, 0, none⟩ = _ := (hb4.cell (p := ⟨0, 0, none⟩) (by show 0 < w3.heap.size; omega)).trans hE3
      have xg : w.grownBy w4 (some b) := gtrans gw3 (gbelow hb4)
      have hs4 := hb4.size
      clear hE3 hf3 he3 e58 L1 L2
      have hfd : w4.drew.heap[g + 1]? = some (.cells #[.int .i64 0, .int .u32 0, .int .i64 0, .int .u32 0, .bool false, .bool false, .bool false] 35) := xf
      have sF : (stF ⟨g + 1, 0, none⟩ (.agg #[.int .i64 0, .int .u32 0, .int .i64 0, .int .u32 0, .bool false, .bool false, .bool false])).run Tryz.prog w4.drew = .ok () (w4.drew.setRow (g + 1) #[.int .i64 0, .int .u32 0, .int .i64 0, .int .u32 0, .bool false, .bool false, .bool false]) := ef_store W.Ef.no hfd rfl
      have lF : (ldF ⟨g + 1, 0, none⟩).run Tryz.prog (w4.drew.setRow (g + 1) #[.int .i64 0, .int .u32 0, .int .i64 0, .int .u32 0, .bool false, .bool false, .bool false]) = .ok (.agg #[.int .i64 0, .int .u32 0, .int .i64 0, .int .u32 0, .bool false, .bool false, .bool false]) (w4.drew.setRow (g + 1) #[.int .i64 0, .int .u32 0, .int .i64 0, .int .u32 0, .bool false, .bool false, .bool false]) := ef_load (e := W.Ef.no) (setRow_heap _ _ _ _ _ _ hfd)
      have hEd : Hid ((w4.drew).cell? ⟨0, 0, none⟩ = some (.iface 211 (.pointer (some E)))) := xE
      have hEs : Hid ((w4.drew.setRow (g + 1) #[.int .i64 0, .int .u32 0, .int .i64 0, .int .u32 0, .bool false, .bool false, .bool false]).cell? ⟨0, 0, none⟩ = some (.iface 211 (.pointer (some E)))) := (cell_setRow_other w4.drew (g + 1) #[.int .i64 0, .int .u32 0, .int .i64 0, .int .u32 0, .bool false, .bool false, .bool false] ⟨0, 0, none⟩ (by show (0 : Nat) ≠ g + 1; omega)).trans xE
      go_wp2_with (fail)
      go_region_held3 (fun w' => w'.cell? ⟨0, 0, none⟩ = some (.iface 211 (.pointer (some E)))) (first | exact hEd.out | exact hEs.out) (fail)
      go_wp2
      refine bodyPost_ret (v := .tuple #[.agg #[.int .i64 0, .int .u32 0, .int .i64 0, .int .u32 0, .bool false, .bool false, .bool false], .iface 211 (.pointer (some E))]) (by simp [results, Tryz.results14, asAddr, ldF_eq, lF]) rfl ?_
      have hokf : ok = false := by rw [← HOK.out, hk]; rfl
      rw [hokf]
      exact ⟨rfl, (xh.drew).kept (gsetRow _ (g + 1) _) (by omega), gover (gtrans xg (gdrew _ _)) (gsetRow _ (g + 1) _) (by omega)⟩
    · go_wp2_with (fail)
      refine HSM.out.mono ?_
      rintro e w4 ⟨rfl, hb4⟩
      have xh := hh3.below hb4
      have h4 := h3.below hb4
      have xf : w4.heap[g + 1]? = some (.cells #[.int .i64 0, .int .u32 0, .int .i64 0, .int .u32 0, .bool false, .bool false, .bool false] 35) := (hb4.block (g + 1) (by omega)).trans hf3
      have xg : w.grownBy w4 (some b) := gtrans gw3 (gbelow hb4)
      have hs4 := hb4.size
      clear hE3 hf3 he3 e58 L1 L2
      have H1 := HRUN.out.2.2.2.2 (g + 1 + 1) w4 h4
      have S1 := HREST.out.1 w4 xh
      have hA := HREST.out.2.1 w4 xh
      have h5 : SAt (g + 1 + 1) rr (w4.setRow b HS) := h4.kept (gsetRow w4 b HS) (by omega)
      have F1 := HREST.out.2.2.1 (g + 1 + 1) _ h5
      have hf5 : (w4.setRow b HS).heap[g + 1]? = some (.cells #[.int .i64 0, .int .u32 0, .int .i64 0, .int .u32 0, .bool false, .bool false, .bool false] 35) := (setRow_other w4 b (g + 1) HS (by omega)).trans xf
      have F2 := HREST.out.2.2.2.1 (g + 1) _ _ _ hf5 rfl
      have F3 := HREST.out.2.2.2.2 (g + 1) ((w4.setRow b HS).setRow (g + 1) FS) _ (setRow_heap _ _ _ _ _ _ hf5)
      go_wp2
      refine bodyPost_ret (v := .tuple #[.agg FS, .nilIface]) (by simp [results, Tryz.results14, asAddr, ldF_eq, F3]) rfl ?_
      have hokt : ok = true := by rw [← HOK.out, hk]; rfl
      rw [hokt]
      exact ⟨rfl, hA.kept (gsetRow _ (g + 1) _) (by omega), gover (gtrans xg (gsetRow _ b _)) (gsetRow _ (g + 1) _) (by omega)⟩
  · have xh := hh3
    have xf := hf3
    have xE := hE3
    have xg := gw3
    clear hsm L1 L2 hE3 hf3 hh3
    have hfd : w3.drew.heap[g + 1]? = some (.cells #[.int .i64 0, .int .u32 0, .int .i64 0, .int .u32 0, .bool false, .bool false, .bool false] 35) := xf
    have sF : (stF ⟨g + 1, 0, none⟩ (.agg #[.int .i64 0, .int .u32 0, .int .i64 0, .int .u32 0, .bool false, .bool false, .bool false])).run Tryz.prog w3.drew = .ok () (w3.drew.setRow (g + 1) #[.int .i64 0, .int .u32 0, .int .i64 0, .int .u32 0, .bool false, .bool false, .bool false]) := ef_store W.Ef.no hfd rfl
    have lF : (ldF ⟨g + 1, 0, none⟩).run Tryz.prog (w3.drew.setRow (g + 1) #[.int .i64 0, .int .u32 0, .int .i64 0, .int .u32 0, .bool false, .bool false, .bool false]) = .ok (.agg #[.int .i64 0, .int .u32 0, .int .i64 0, .int .u32 0, .bool false, .bool false, .bool false]) (w3.drew.setRow (g + 1) #[.int .i64 0, .int .u32 0, .int .i64 0, .int .u32 0, .bool false, .bool false, .bool false]) := ef_load (e := W.Ef.no) (setRow_heap _ _ _ _ _ _ hfd)
    have hEd : Hid ((w3.drew).cell? ⟨0, 0, none⟩ = some (.iface 211 (.pointer (some E)))) := xE
    have hEs : Hid ((w3.drew.setRow (g + 1) #[.int .i64 0, .int .u32 0, .int .i64 0, .int .u32 0, .bool false, .bool false, .bool false]).cell? ⟨0, 0, none⟩ = some (.iface 211 (.pointer (some E)))) := (cell_setRow_other w3.drew (g + 1) #[.int .i64 0, .int .u32 0, .int .i64 0, .int .u32 0, .bool false, .bool false, .bool false] ⟨0, 0, none⟩ (by show (0 : Nat) ≠ g + 1; omega)).trans xE
    go_wp2_with (fail)
    go_region_held3 (fun w' => w'.cell? ⟨0, 0, none⟩ = some (.iface 211 (.pointer (some E)))) (first | exact hEd.out | exact hEs.out) (fail)
    go_wp2
    refine bodyPost_ret (v := .tuple #[.agg #[.int .i64 0, .int .u32 0, .int .i64 0, .int .u32 0, .bool false, .bool false, .bool false], .iface 211 (.pointer (some E))]) (by simp [results, Tryz.results14, asAddr, ldF_eq, lF]) rfl ?_
    have hokf : ok = false := by rw [← HOK.out, hk]; rfl
    rw [hokf]
    exact ⟨rfl, (xh.drew).kept (gsetRow _ (g + 1) _) (by omega), gover (gtrans xg (gdrew _ _)) (gsetRow _ (g + 1) _) (by omega)⟩
end Go.Proofs.YteilpehekabccaaGreatDoor

/- New, PC of a hart; Replay of an event without entries. -/
namespace Go.Proofs.YteilpehekabccaaGreatDoor
open Go.ChangeShapes Go.WideShapes Go.ChangeAt Go.RowKit
set_option linter.unusedVariables false
set_option linter.unusedSimpArgs false

def W.H0 (id by_ : Int) : W.Ht := ⟨W.fnew id, by_, 0, fun _ => 0⟩
theorem H0_ok (id by_ : Int) : W.HOk (W.H0 id by_) := ⟨W.FOk.fnew id, W.rg0, fun _ => W.rg0⟩
set_option maxRecDepth 100000 in
theorem build_h0 (c0 c1 c2 c3 c4 c5 c6 c7 c8 c9 c10 : Value) (y : Int) (w : World) : (Instr.build 72 #[(0, .agg #[c0, c1, c2, c3, c4, c5, c6, c7, c8, c9, c10]), (1, .int .i64 y)]).run Tryz.prog w = .ok (.agg #[c0, c1, c2, c3, c4, c5, c6, c7, c8, c9, c10, .int .i64 y, .int .u32 0, .int .u32 0, .int .u32 0, .int .u32 0, .int .u32 0, .int .u32 0, .int .u32 0, .int .u32 0, .int .u32 0, .int .u32 0, .int .u32 0, .int .u32 0, .int .u32 0, .int .u32 0, .int .u32 0, .int .u32 0, .int .u32 0, .int .u32 0, .int .u32 0, .int .u32 0, .int .u32 0, .int .u32 0, .int .u32 0, .int .u32 0, .int .u32 0, .int .u32 0, .int .u32 0, .int .u32 0, .int .u32 0, .int .u32 0, .int .u32 0, .int .u32 0, .int .u32 0]) w := run_build w 72 _ _ (by kernel_rfl)
theorem build_h (id by_ : Int) (w : World) : (bdH #[(0, .agg (fileCells (W.fnew id))), (1, .int .i64 by_)]).run Tryz.prog w = .ok (.agg (hartCells (W.H0 id by_))) w := by
  rw [hartAll_eq]
  exact build_h0 _ _ _ _ _ _ _ _ _ _ _ _ w

attribute [local go_sem ↓] ldH_eq stH_eq bdH_eq
theorem hnew_any (id by_ : Int) (w : World) : Calls Tryz.prog 10 #[.int .i64 id, .int .i64 by_] w fun z w' => ∃ c, w.heap.size ≤ c ∧ z = .returned (.pointer (some ⟨c, 0, none⟩)) ∧ HAt c (W.H0 id by_) w' ∧ Below w.heap.size w w' := by
  have hB := build_h id by_
  have hst := fun w => store_new w (W.H0 id by_)
  have hnw := fun w => HAt.new w (W.H0 id by_)
  have hN := new_any id
  generalize fileCells (W.fnew id) = FS at *
  generalize hartCells (W.H0 id by_) = CS at *
  simp only [stH_eq] at hst
  have HN : Hid (∀ w, Calls _ _ _ w _) := hN
  clear hN
  go_enter Tryz.func10, Tryz.ntmps10
  go_wp2_with (fail)
  refine (HN.out w).mono ?_
  rintro e w1 ⟨rfl, hb1⟩
  go_wp2
  go_ret
  exact ⟨w1.heap.size, hb1.size, rfl, hnw w1, hb1.alloc hb1.size _⟩

theorem pc_any (b : Nat) (H : W.Ht) (w : World) (h : HAt b H w) : Calls Tryz.prog 24 #[.pointer (some ⟨b, 0, none⟩)] w fun z w' => z = .returned (.int .u32 H.pc) ∧ w = w' := by
  have hc : w.cell? ⟨b, 12, none⟩ = some (.int .u32 H.pc) := h.c 1 rfl
  have hlt := h.lt
  go_enter Tryz.func24, Tryz.ntmps24
  go_wp2
  go_ret
  exact ⟨rfl, rfl⟩

theorem reads_nil (w : World) : Reads W.Sl.nil.a W.Sl.nil.n (fun _ => ⟨0, 0, 0, 0, false⟩) w := ⟨Nat.zero_le _, fun h => absurd h (by decide), fun _ => ⟨(by decide : (0 : Int) ≤ 0), (by decide : (0 : Int) < 4294967296)⟩⟩

/-- Replay of an event without entries. -/
theorem replay_0 (b : Nat) (H : W.Ht) (ev : W.Ev) (E : Addr) (hH : W.HOk H) (hwd : W.Rg ev.wd) (hf : ev.fw = W.Sl.nil) (hk : ev.wk = W.Sl.nil) (w : World) (h : HAt b H w)
    (hE : w.cell? ⟨0, 0, none⟩ = some (.iface 211 (.pointer (some E)))) (rr : W.St) (hrr : ∀ B U A V, W.rrun H ev 0 B U 0 A V = rr) (hrf : rr.w.fw = W.Sl.nil) (hrk : rr.w.wk = W.Sl.nil) (ok : Bool) (hok : (!(rr.w.k == 0) && W.sameE ev rr.w) = ok) :
    Calls Tryz.prog 14 #[.pointer (some ⟨b, 0, none⟩), .agg (evCells ev)] w fun z w' => z = .returned (bif ok then .tuple #[.agg (efCells rr.e), .nilIface] else .tuple #[.agg (efCells W.Ef.no), .iface 211 (.pointer (some E))]) ∧ HAt b (bif ok then rr.h else H) w' ∧ w.grownBy w' (some b) := by
  refine replay_any b H ev (fun _ => ⟨0, 0, 0, 0, false⟩) (fun _ => ⟨0, 0, 0, 0, false⟩) E hH hwd (by rw [hf]; exact Nat.le_refl _) (by rw [hk]; exact Nat.le_refl _) w h hE (by rw [hf]; exact reads_nil w) (by rw [hk]; exact reads_nil w) rr ?_ (Or.inr hrf) (Or.inr hrk) ok hok
  rw [hf, hk]
  exact hrr _ _ _ _
theorem replay_y (b : Nat) (H K : W.Ht) (ev : W.Ev) (e : W.Ef) (E : Addr) (hH : W.HOk H) (hwd : W.Rg ev.wd) (hf : ev.fw = W.Sl.nil) (hk : ev.wk = W.Sl.nil) (d : W.Ev) (hrr : ∀ B U A V, W.rrun H ev 0 B U 0 A V = ⟨K, ev, d, e⟩) (hrf : d.fw = W.Sl.nil) (hrk : d.wk = W.Sl.nil) (hok : (!(d.k == 0) && W.sameE ev d) = true) (w : World) (h : HAt b H w)
    (hE : w.cell? ⟨0, 0, none⟩ = some (.iface 211 (.pointer (some E)))) :
    Calls Tryz.prog 14 #[.pointer (some ⟨b, 0, none⟩), .agg (evCells ev)] w fun z w' => z = .returned (.tuple #[.agg (efCells e), .nilIface]) ∧ HAt b K w' ∧ w.grownBy w' (some b) :=
  replay_0 b H ev E hH hwd hf hk w h hE ⟨K, ev, d, e⟩ hrr hrf hrk true hok
theorem replay_n (b : Nat) (H : W.Ht) (ev : W.Ev) (E : Addr) (hH : W.HOk H) (hwd : W.Rg ev.wd) (hf : ev.fw = W.Sl.nil) (hk : ev.wk = W.Sl.nil) (rr : W.St) (hrr : ∀ B U A V, W.rrun H ev 0 B U 0 A V = rr) (hrf : rr.w.fw = W.Sl.nil) (hrk : rr.w.wk = W.Sl.nil) (hok : (!(rr.w.k == 0) && W.sameE ev rr.w) = false) (w : World) (h : HAt b H w)
    (hE : w.cell? ⟨0, 0, none⟩ = some (.iface 211 (.pointer (some E)))) :
    Calls Tryz.prog 14 #[.pointer (some ⟨b, 0, none⟩), .agg (evCells ev)] w fun z w' => z = .returned (.tuple #[.agg (efCells W.Ef.no), .iface 211 (.pointer (some E))]) ∧ HAt b H w' ∧ w.grownBy w' (some b) :=
  replay_0 b H ev E hH hwd hf hk w h hE rr hrr hrf hrk false hok
end Go.Proofs.YteilpehekabccaaGreatDoor

/- What a step comes to in Machine, without entries: laws without any Go. -/
namespace Go.Proofs.YteilpehekabccaaGreatDoor.W
open Go.RowKit
set_option linter.unusedVariables false

theorem walk_here (H : Ht) (m3 : H.G.m = 3) (va acc : Int) (A V : Nat → Int) : hwalk H va acc 0 A V = hereS va := by
  simp [hwalk, walkS, askAll, nextS, stepS, onB, m3]
/-- The event as it has to be once the word is read. -/
def wd0 (H : Ht) (ev : Ev) : Ev := ⟨0, H.pc, ev.wd, H.pc, 0, 0, ev.fw, Sl.nil, 0, 0, false, 0, 0⟩
/-- The step, once the word is read. -/
def fetd (H : Ht) (ev : Ev) : St := ⟨H, ev, wd0 H ev, Ef.no⟩
theorem rrun_dec (H : Ht) (ev : Ev) (m3 : H.G.m = 3) (p4 : H.pc % 4 = 0) (hb : H.pc + 4 ≤ H.by_) (hk : (ev.k == 3) = false) (hd : decB ev.wd = true) (B U : Nat → Int) (n : Nat) (A V : Nat → Int) : rrun H ev 0 B U n A V = sdo (fetd H ev) (decI ev.wd) n A V := by
  have hw := walk_here H m3 H.pc 1 B U
  have h4 : (H.pc % 4 != 0) = false := by simp [p4]
  have hh : hhas H H.pc 4 = true := by simpa [hhas] using hb
  simp only [rrun, srun, st0, hk, cond_false, sfet, h4, hw, hereS, sfet1, hh, sfet2, hd, cond_true, beq_self_eq_true]
  rfl
theorem rrun_ill (H : Ht) (ev : Ev) (m3 : H.G.m = 3) (p4 : H.pc % 4 = 0) (hb : H.pc + 4 ≤ H.by_) (hk : (ev.k == 3) = false) (hd : decB ev.wd = false) (B U : Nat → Int) (n : Nat) (A V : Nat → Int) : rrun H ev 0 B U n A V = sill (fetd H ev) := by
  have hw := walk_here H m3 H.pc 1 B U
  have h4 : (H.pc % 4 != 0) = false := by simp [p4]
  have hh : hhas H H.pc 4 = true := by simpa [hhas] using hb
  simp only [rrun, srun, st0, hk, cond_false, sfet, h4, hw, hereS, sfet1, hh, sfet2, hd, cond_true, beq_self_eq_true]
  rfl
/-- What is reckoned, a jump, a branch. -/
theorem sdo_reck (H : Ht) (ev : Ev) (i : I) (n : Nat) (A V : Nat → Int) (hk : (decide (1 ≤ kind i.op) && decide (kind i.op ≤ 3)) = true) (nx v : Int) (hn : nextV i.op i.imm H.pc (xget H i.rs1) (xget H i.rs2) = nx) (hv : resV i.op i.imm H.pc (xget H i.rs1) (xget H i.rs2) = v) (n4 : nx % 4 = 0) :
    sdo (fetd H ev) i n A V = ⟨{ hput H i.rd v with pc := nx }, ev, { wd0 H ev with k := 1 }, Ef.no⟩ := by
  have h4 : (nx % 4 != 0) = false := by simp [n4]
  simp only [sdo, hk, cond_true, sreck, fetd, hn, h4, cond_false, hv, sput, sret]
theorem sdo_bent (H : Ht) (ev : Ev) (i : I) (n : Nat) (A V : Nat → Int) (hk : (decide (1 ≤ kind i.op) && decide (kind i.op ≤ 3)) = true) (nx : Int) (hn : nextV i.op i.imm H.pc (xget H i.rs1) (xget H i.rs2) = nx) (n4 : nx % 4 ≠ 0) :
    sdo (fetd H ev) i n A V = strap (fetd H ev) 0 nx := by
  have h4 : (nx % 4 != 0) = true := by simp [n4]
  simp only [sdo, hk, cond_true, sreck, fetd, hn, h4]
/-- An event that tells just what has to be. -/
theorem same_plain (H : Ht) (ev : Ev) (c t pa ld : Int) (k : Int) (dn : Bool) (hk : ev.k = k) (hp : ev.pc = H.pc) (hf : ev.fpa = H.pc) (hpa : ev.pa = pa) (hld : ev.ld = ld) (hc : ev.ca = c) (ht : ev.tv = t) (hdn : ev.dn = dn) (hw : ev.wk = Sl.nil) (k0 : k ≠ 0) :
    (!((⟨k, H.pc, ev.wd, H.pc, pa, ld, ev.fw, Sl.nil, c, t, dn, 0, 0⟩ : Ev).k == 0) && sameE ev ⟨k, H.pc, ev.wd, H.pc, pa, ld, ev.fw, Sl.nil, c, t, dn, 0, 0⟩) = true := by
  subst hk hpa hld hc ht hdn
  simp [sameE, hp, hf, hw, k0]
theorem hput_ok {H : Ht} (k : HOk H) (rd v pc : Int) (hv : Rg v) (hp : Rg pc) : HOk { hput H rd v with pc := pc } :=
  ⟨(k.put rd v hv).G, hp, (k.put rd v hv).x⟩
theorem hput_G (H : Ht) (rd v : Int) : (hput H rd v).G = H.G := by unfold hput; cases (rd != 0) <;> rfl
theorem hput_by (H : Ht) (rd v : Int) : (hput H rd v).by_ = H.by_ := by unfold hput; cases (rd != 0) <;> rfl
theorem xget_put (H : Ht) (rd v pc i : Int) (r0 : 0 ≤ i) (r1 : i < 32) : xget { hput H rd v with pc := pc } i = if rd ≠ 0 ∧ i = rd then v else xget H i := by
  have h0 : ¬ i < 0 := by omega
  have h1 : ¬ 32 ≤ i := by omega
  unfold xget hput
  simp only [h0, h1, decide_false, cond_false]
  by_cases h : rd = 0
  · simp [h]
  · have hb : (rd != 0) = true := by simp [h]
    simp only [hb, cond_true, upd]
    by_cases e : i = rd
    · subst e
      rw [if_pos (by omega), if_pos ⟨h, rfl⟩]
    · rw [if_neg (by omega), if_neg (by rintro ⟨_, h⟩; exact e h)]
theorem xget_out (H : Ht) (i : Int) (h : i < 0 ∨ 32 ≤ i) : xget H i = 0 := by
  unfold xget
  rcases h with h | h
  · simp [h]
  · have h0 : ¬ i < 0 := by omega
    simp [h, h0]
end Go.Proofs.YteilpehekabccaaGreatDoor.W

/- The chapter's examples: the laws' first. -/
namespace Go.Proofs.YteilpehekabccaaGreatDoor
open Go.ChangeShapes Go.WideShapes Go.ChangeAt Go.RowKit
set_option linter.unusedVariables false
set_option linter.unusedSimpArgs false

theorem dec_first : W.decB 5243027 = true ∧ W.decI 5243027 = ⟨19, 1, 0, 0, 0, 5, false, false⟩ ∧ W.decB 0 = false := ⟨by decide +kernel, by kernel_rfl, by decide +kernel⟩
def W.H1 : W.Ht := { W.hput (W.H0 0 64) 1 5 with pc := 4 }
theorem H1_ok : W.HOk W.H1 := W.hput_ok (H0_ok 0 64) 1 5 4 ⟨by decide, by decide⟩ ⟨by decide, by decide⟩
def W.ev1 : W.Ev := ⟨1, 0, 5243027, 0, 0, 0, W.Sl.nil, W.Sl.nil, 0, 0, false, 1, 2⟩
def W.ev2 : W.Ev := ⟨2, 4, 0, 4, 0, 0, W.Sl.nil, W.Sl.nil, 2, 0, false, 3, 4⟩
def W.H2 : W.Ht := { W.H1 with G := W.trap W.H1.G 2 0 4, pc := 0 }
theorem rrun_1 (B U A V : Nat → Int) : W.rrun (W.H0 0 64) W.ev1 0 B U 0 A V = ⟨W.H1, W.ev1, { W.wd0 (W.H0 0 64) W.ev1 with k := 1 }, W.Ef.no⟩ := by
  rw [W.rrun_dec (W.H0 0 64) W.ev1 rfl rfl (by decide) rfl dec_first.1 B U 0 A V]
  show W.sdo _ (W.decI 5243027) 0 A V = _
  rw [dec_first.2.1]
  exact W.sdo_reck (W.H0 0 64) W.ev1 _ 0 A V (by decide +kernel) 4 5 (by decide +kernel) (by decide +kernel) (by decide)
theorem rrun_2 (B U A V : Nat → Int) : W.rrun W.H1 W.ev2 0 B U 0 A V = ⟨W.H2, W.ev2, { W.wd0 W.H1 W.ev2 with k := 2, ca := 2, tv := 0 }, W.Ef.no⟩ := by
  rw [W.rrun_ill W.H1 W.ev2 rfl rfl (by decide) rfl dec_first.2.2 B U 0 A V]
  rfl
theorem below_over {n d : Nat} {x y z : World} (h : Below n x y) (k : y.grownBy z (some d)) (hd : n ≤ d) (hn : n ≤ y.heap.size) : Below n x z := Below.grown h k hn (fun j hj => by cases hj; exact hd)

/-- The error of a step that is none lies where the text laid it. -/
def Tr (E : Addr) (w : World) : Prop := w.cell? ⟨0, 0, none⟩ = some (.iface 211 (.pointer (some E)))
theorem Tr.lt {E : Addr} {w : World} (h : Tr E w) : 0 < w.heap.size := World.block_lt_of_cell? _ _ h
theorem Tr.below {E : Addr} {w w' : World} (h : Tr E w) (hb : Below w.heap.size w w') : Tr E w' := (hb.cell (p := ⟨0, 0, none⟩) h.lt).trans h
theorem Tr.over {E : Addr} {b : Nat} {w w' : World} (h : Tr E w) (hg : w.grownBy w' (some b)) (hb : 0 < b) : Tr E w' := hg.cell h (by simp; omega)

/-- A hart of a law's own lies in block c, behind all that was there. -/
structure Hb (E : Addr) (c : Nat) (H : W.Ht) (n : Nat) (w0 w : World) : Prop where
  k : HAt c H w
  t : Tr E w
  b : Below n w0 w
  s : n ≤ w.heap.size
  hc : n ≤ c
  n0 : 0 < n
theorem Hb.below {E : Addr} {c n : Nat} {H : W.Ht} {w0 w w' : World} (h : Hb E c H n w0 w) (hb : Below w.heap.size w w') : Hb E c H n w0 w' := ⟨h.k.below hb, h.t.below hb, h.b.trans (hb.mono h.s), Nat.le_trans h.s hb.size, h.hc, h.n0⟩
theorem Hb.alloc {E : Addr} {c n : Nat} {H : W.Ht} {w0 w : World} (h : Hb E c H n w0 w) (o : Obj) : Hb E c H n w0 (w.alloc o) := h.below ((Below.refl _ _).alloc (Nat.le_refl _) _)
theorem Hb.drew {E : Addr} {c n : Nat} {H : W.Ht} {w0 w : World} (h : Hb E c H n w0 w) : Hb E c H n w0 w.drew := h.below (Below.refl w.heap.size w).drew
theorem Hb.step {E : Addr} {c n : Nat} {H K : W.Ht} {w0 w w' : World} (h : Hb E c H n w0 w) (k : HAt c K w') (hg : w.grownBy w' (some c)) : Hb E c K n w0 w' :=
  ⟨k, h.t.over hg (by have := h.hc; have := h.n0; omega), below_over h.b hg h.hc h.s, Nat.le_trans h.s hg.size, h.hc, h.n0⟩
theorem Hb.new {E : Addr} {c : Nat} {H : W.Ht} {w w' : World} (hE : Tr E w) (hc : w.heap.size ≤ c) (k : HAt c H w') (hb : Below w.heap.size w w') : Hb E c H w.heap.size w w' := ⟨k, hE.below hb, hb, hb.size, hc, hE.lt⟩

theorem first10_any (E : Addr) (w : World) (hE : Tr E w) : Calls Tryz.prog 9 #[] w fun z w' => z = .returned (.bool true) ∧ Below w.heap.size w w' := by
  have hr1 := fun c w1 (k : HAt c (W.H0 0 64) w1) (k2 : Tr E w1) => replay_y c (W.H0 0 64) W.H1 W.ev1 W.Ef.no E (H0_ok 0 64) ⟨by decide, by decide⟩ rfl rfl _ rrun_1 rfl rfl (by decide) w1 k k2
  have hr2 := fun c w1 (k : HAt c W.H1 w1) (k2 : Tr E w1) => replay_y c W.H1 W.H2 W.ev2 W.Ef.no E H1_ok ⟨by decide, by decide⟩ rfl rfl _ rrun_2 rfl rfl (by decide) w1 k k2
  have hx1 := fun c w1 (k : HAt c W.H1 w1) => x_g c W.H1 1 5 (by decide +kernel) w1 k.xh
  have hx0 := fun c w1 (k : HAt c W.H2 w1) => x_g c W.H2 0 0 (by decide +kernel) w1 k.xh
  have hpc : ∀ c w1, HAt c W.H2 w1 → Calls Tryz.prog 24 #[.pointer (some ⟨c, 0, none⟩)] w1 fun z w' => z = .returned (.int .u32 0) ∧ w1 = w' := fun c w1 k => pc_any c W.H2 w1 k
  have hN := hnew_any 0 64
  simp only [evCells, efCells, W.ev1, W.ev2, W.Ef.no, W.Sl.nil] at hr1 hr2
  generalize W.H0 0 64 = h0 at *
  generalize W.H1 = h1 at *
  generalize W.H2 = h2 at *
  have HH : Hid (_ ∧ _ ∧ _ ∧ _ ∧ _ ∧ _) := ⟨hr1, hr2, hx1, hx0, hpc, hN⟩
  clear hr1 hr2 hx1 hx0 hpc hN
  have hw0 := hE.lt
  go_enter Tryz.func9, Tryz.ntmps9
  go_wp2_with (fail)
  refine (HH.out.2.2.2.2.2 w).mono ?_
  rintro e w1 ⟨c, hc, rfl, k1, b1⟩
  have S1 := Hb.new hE hc k1 b1
  clear k1 b1
  have l1 := S1.k.lt
  go_wp2_with (fail)
  refine (HH.out.1 c _ S1.k S1.t).mono ?_
  rintro e w2 ⟨rfl, k2, g2⟩
  have S2 := S1.step k2 g2
  clear k2 g2 S1 l1
  have l2 := S2.k.lt
  go_wp2_with (fail)
  refine (HH.out.2.2.1 c _ (S2.alloc _).k).mono ?_
  rintro e w3 ⟨rfl, rfl⟩
  go_wp2_with (fail)
  refine (HH.out.2.1 c _ (S2.alloc _).k (S2.alloc _).t).mono ?_
  rintro e w4 ⟨rfl, k4, g4⟩
  have S4 := (S2.alloc _).step k4 g4
  clear k4 g4 S2 l2
  have l4 := S4.k.lt
  go_wp2_with (first
    | (go_at_call 24; refine (HH.out.2.2.2.2.1 c _ (S4.alloc _).k).mono ?_; rintro e w' ⟨rfl, rfl⟩)
    | (go_at_call 20; refine (HH.out.2.2.2.1 c _ (S4.alloc _).k).mono ?_; rintro e w' ⟨rfl, rfl⟩))
  go_ret
  exact ⟨rfl, (S4.alloc _).b⟩
end Go.Proofs.YteilpehekabccaaGreatDoor

/- What the program's text lays: the error of a step that is none. -/
namespace Go.Proofs.YteilpehekabccaaGreatDoor
open Go.ChangeShapes Go.WideShapes Go.RowKit
set_option linter.unusedVariables false

abbrev theLaid1 : List (String × DataW Unit) := [("corral/api.ErrTrace", Rows.laid_corral_api_ErrTrace)]
theorem star1 : "*" ++ "errors.errorString" = "*errors.errorString" := by decide
theorem rowE1 (u : TypeId) (h : Tryz.prog.typeName? 3 u = some "*errors.errorString") : u = 211 :=
  typeName_ptr_named (nm := "errors.errorString") (by rw [star1]; kernel_rfl) (by kernel_rfl) (by decide) u (by rw [star1]; exact h)
theorem door_met1 (os : Os) (args : Array Value) : laidMetH Tryz.prog theLaid1 ((World.doorLaid Tryz.prog 218 os).forCall (fun _ _ => 0) ⟨#[], args, []⟩).memory :=
  laidMetH_of_parts3 (fuel := 8) (laidMet_of_run' 8 (by kernel_rfl) (by kernel_rfl)) (by kernel_rfl) (by kernel_rfl)
set_option maxRecDepth 100000 in
theorem trace_of_laid {W : World} (h : laidMetH Tryz.prog theLaid1 W) : ∃ A, Tr A W := by
  rw [MakeChecks.laidMetH_plain _ _ _ (by kernel_rfl)] at h
  obtain ⟨ps, h0, hnd, hrows⟩ := h
  obtain ⟨g0, t0, cs0, f0, p0, q0, hg0, ht0, hv0, hd0, hq, e0⟩ := h0
  obtain rfl := Option.some.inj ((show Tryz.prog.globalNamed "corral/api.ErrTrace" = some 0 by kernel_rfl).symm.trans hg0)
  obtain rfl := Option.some.inj ((show (Tryz.prog.globals[0]?).map (·.type) = some 37 by kernel_rfl).symm.trans ht0)
  subst e0
  obtain ⟨l0⟩ := cs0
  have ok0 : ∀ u v, l0 = [.iface u v] → Value.okWide Tryz.prog W .any 0 u v := fun u v e => by
    subst e
    exact (hrows 0 0 (by simp [MemPlace.row])).2 u v (by simpa using World.var?_cell hg0 hv0 0)
  obtain ⟨a0, s0, rfl, hc0, hs0, hz0, rfl⟩ := errorString_of_trod Tryz.underlying37 rowE1 Tryz.underlying211 Tryz.underlying227 rfl rfl Tryz.underlying9 (by kernel_rfl) (by kernel_rfl) hd0 ok0
  exact ⟨a0, by unfold Tr; simpa using World.var?_cell hg0 hv0 0⟩
end Go.Proofs.YteilpehekabccaaGreatDoor

/- Clone. -/
namespace Go.Proofs.YteilpehekabccaaGreatDoor
open Go.ChangeShapes Go.WideShapes Go.ChangeAt Go.RowKit
set_option linter.unusedVariables false
set_option linter.unusedSimpArgs false

attribute [local go_sem ↓] ldH_eq stH_eq
theorem clone_any (b : Nat) (H : W.Ht) (w : World) (h : HAt b H w) : Calls Tryz.prog 12 #[.pointer (some ⟨b, 0, none⟩)] w fun z w' => z = .returned (.pointer (some ⟨w.heap.size, 0, none⟩)) ∧ HAt w.heap.size H w' ∧ Below w.heap.size w w' := by
  have hlt := h.lt
  have hload := fun o => HAt.loadV (h.alloc o)
  have hload0 := HAt.loadV h
  have hstore := store_new w H
  have hnew := HAt.new w H
  generalize hartCells H = CS at *
  simp only [ldH_eq] at hload hload0
  simp only [stH_eq] at hstore
  go_enter Tryz.func12, Tryz.ntmps12
  go_wp2
  trace_state
  go_ret
  exact ⟨rfl, hnew, (Below.refl _ _).alloc (Nat.le_refl _) _⟩
end Go.Proofs.YteilpehekabccaaGreatDoor

/- What layFields returns: the word of all fields but the immediate. -/
namespace Go.Proofs.YteilpehekabccaaGreatDoor
open Go.ChangeShapes Go.WideShapes Go.ChangeAt Go.RowKit
set_option linter.unusedVariables false
set_option linter.unusedSimpArgs false
attribute [local go_sem ↓] Go.wp_at_zero Go.wp_at_succ

abbrev SF (w : World) (i : W.I) (w' : World) : Prop :=
  Below w.heap.size w w' ∧ w.heap.size < w'.heap.size ∧ w'.cell? ⟨w.heap.size, 4, none⟩ = some (.int .i64 i.csr) ∧ w'.cell? ⟨w.heap.size, 6, none⟩ = some (.bool i.aq) ∧ w'.cell? ⟨w.heap.size, 7, none⟩ = some (.bool i.rl)
theorem SF.below {w a b : World} {i : W.I} (h : SF w i a) (hm : Below a.heap.size a b) : SF w i b := by
  obtain ⟨h1, h2, h3, h4, h5⟩ := h
  have q : ∀ j, b.cell? ⟨w.heap.size, j, none⟩ = a.cell? ⟨w.heap.size, j, none⟩ := fun j => hm.cell h2
  refine ⟨h1.trans (hm.mono h1.size), by have := hm.size; omega, ?_⟩
  simp only [q]
  exact ⟨h3, h4, h5⟩
theorem SF.alloc {w a : World} {i : W.I} (h : SF w i a) (o : Obj) : SF w i (a.alloc o) := h.below ((Below.refl _ _).alloc (Nat.le_refl _) _)
theorem SF.start {w w1 : World} {i : W.I} {t : TypeId}
    (hb1 : Below (w.alloc (.cells #[.int .i64 i.op, .int .i64 i.rd, .int .i64 i.rs1, .int .i64 i.rs2, .int .i64 i.csr, .int .u32 i.imm, .bool i.aq, .bool i.rl] t)).heap.size
      (w.alloc (.cells #[.int .i64 i.op, .int .i64 i.rd, .int .i64 i.rs1, .int .i64 i.rs2, .int .i64 i.csr, .int .u32 i.imm, .bool i.aq, .bool i.rl] t)) w1) : SF w i w1.drew := by
  have hs := hb1.size
  simp at hs
  have q : ∀ j, w1.drew.cell? ⟨w.heap.size, j, none⟩ = (w.alloc (.cells #[.int .i64 i.op, .int .i64 i.rd, .int .i64 i.rs1, .int .i64 i.rs2, .int .i64 i.csr, .int .u32 i.imm, .bool i.aq, .bool i.rl] t)).cell? ⟨w.heap.size, j, none⟩ := fun j => hb1.drew.cell (p := ⟨w.heap.size, j, none⟩) (by simp)
  refine ⟨(((Below.refl _ _).alloc (Nat.le_refl _) _).trans (hb1.mono (by simp))).drew, by show w.heap.size < w1.heap.size; omega, ?_⟩
  simp only [q]
  simp [go_sem]

theorem three_cells (w : World) (t : TypeId) (a b c : Int) :
    (∀ j, j < 3 → (w.alloc (.cells #[.int .i64 20, .int .i64 12, .int .u32 a, .int .i64 26, .int .i64 1, .int .u32 b, .int .i64 25, .int .i64 1, .int .u32 c] t)).cell? ⟨w.heap.size, 0 + j * 3, none⟩ = some (.int .i64 (W.gL j)))
    ∧ (∀ j, j < 3 → (w.alloc (.cells #[.int .i64 20, .int .i64 12, .int .u32 a, .int .i64 26, .int .i64 1, .int .u32 b, .int .i64 25, .int .i64 1, .int .u32 c] t)).cell? ⟨w.heap.size, 0 + j * 3 + 1, none⟩ = some (.int .i64 (W.gN j)))
    ∧ (∀ j, j < 3 → (w.alloc (.cells #[.int .i64 20, .int .i64 12, .int .u32 a, .int .i64 26, .int .i64 1, .int .u32 b, .int .i64 25, .int .i64 1, .int .u32 c] t)).cell? ⟨w.heap.size, 0 + j * 3 + 2, none⟩ = some (.int .u32 (W.three a b c j))) := by
  refine ⟨?_, ?_, ?_⟩
  all_goals
    intro j hj
    match j, hj with
    | 0, _ | 1, _ | 2, _ => simp [go_sem, W.gL, W.gN, W.three]

end Go.Proofs.YteilpehekabccaaGreatDoor

/- What layImm returns: the word of an immediate alone. -/
namespace Go.Proofs.YteilpehekabccaaGreatDoor
open Go.ChangeShapes Go.WideShapes Go.ChangeAt Go.RowKit
set_option linter.unusedVariables false
set_option linter.unusedSimpArgs false

end Go.Proofs.YteilpehekabccaaGreatDoor

/- What Encode returns. -/
namespace Go.Proofs.YteilpehekabccaaGreatDoor
open Go.ChangeShapes Go.WideShapes Go.ChangeAt Go.RowKit
set_option linter.unusedVariables false
set_option linter.unusedSimpArgs false
attribute [local go_sem ↓] Go.wp_at_zero Go.wp_at_succ

/-- The document's errors lie where the program laid them: each a pointer of its own. -/
structure Sent (A : Nat → Addr) (w : World) : Prop where
  cell : ∀ j, j < 11 → w.cell? ⟨j, 0, none⟩ = some (.iface 211 (.pointer (some (A j))))
  apart : ∀ i j, i < 11 → j < 11 → A i = A j → i = j
  held : ∀ j, j < 11 → ∃ c t, w.heap[(A j).block]? = some (.cells c t (0, 0))
theorem Sent.below {A : Nat → Addr} {a b : World} (h : Sent A a) (hm : Below a.heap.size a b) : Sent A b where
  cell := fun j hj => (hm.cell (p := ⟨j, 0, none⟩) (World.block_lt_of_cell? _ _ (h.cell j hj))).trans (h.cell j hj)
  apart := h.apart
  held := fun j hj => by
    obtain ⟨c, t, hc⟩ := h.held j hj
    exact ⟨c, t, (hm.block _ (Array.getElem?_eq_some_iff.1 hc).1).trans hc⟩
def errV (A : Nat → Addr) : Nat → Value
  | 0 => .nilIface
  | k + 1 => .iface 211 (.pointer (some (A k)))

theorem idx_at (k : Nat) (hk : k < 70) (w : World) : (Instr.index 160 (.agg codesA) (.int .i64 k)).run Tryz.prog w = .ok (.int .u32 (W.code k)) w := by
  unfold Instr.index
  simp [go_sem]
  rw [if_pos hk, codesA_at k hk]
  rfl

/-- The instruction lies in block g. -/
def InAt (g : Nat) (i : W.I) (w' : World) : Prop :=
  w'.cell? ⟨g, 0, none⟩ = some (.int .i64 i.op) ∧ w'.cell? ⟨g, 1, none⟩ = some (.int .i64 i.rd) ∧ w'.cell? ⟨g, 2, none⟩ = some (.int .i64 i.rs1) ∧ w'.cell? ⟨g, 3, none⟩ = some (.int .i64 i.rs2) ∧ w'.cell? ⟨g, 4, none⟩ = some (.int .i64 i.csr) ∧ w'.cell? ⟨g, 5, none⟩ = some (.int .u32 i.imm) ∧ w'.cell? ⟨g, 6, none⟩ = some (.bool i.aq) ∧ w'.cell? ⟨g, 7, none⟩ = some (.bool i.rl)
def ShAt (g : Nat) (s : W.Sh) (w' : World) : Prop :=
  w'.cell? ⟨g, 0, none⟩ = some (.int .u32 s.fixed) ∧ w'.cell? ⟨g, 1, none⟩ = some (.bool s.rd) ∧ w'.cell? ⟨g, 2, none⟩ = some (.bool s.rs1) ∧ w'.cell? ⟨g, 3, none⟩ = some (.bool s.rs2) ∧ w'.cell? ⟨g, 4, none⟩ = some (.bool s.csr) ∧ w'.cell? ⟨g, 5, none⟩ = some (.bool s.ord) ∧ w'.cell? ⟨g, 6, none⟩ = some (.int .u8 s.fmt) ∧ w'.cell? ⟨g, 7, none⟩ = some (.int .i64 s.low) ∧ w'.cell? ⟨g, 8, none⟩ = some (.int .i64 s.size)
theorem InAt.below {g : Nat} {i : W.I} {a b : World} (h : InAt g i a) (hm : Below a.heap.size a b) : InAt g i b := by
  have hg := World.block_lt_of_cell? _ _ h.1
  have q : ∀ j, b.cell? ⟨g, j, none⟩ = a.cell? ⟨g, j, none⟩ := fun j => hm.cell hg
  unfold InAt
  simp only [q]
  exact h
theorem ShAt.below {g : Nat} {s : W.Sh} {a b : World} (h : ShAt g s a) (hm : Below a.heap.size a b) : ShAt g s b := by
  have hg := World.block_lt_of_cell? _ _ h.1
  have q : ∀ j, b.cell? ⟨g, j, none⟩ = a.cell? ⟨g, j, none⟩ := fun j => hm.cell hg
  unfold ShAt
  simp only [q]
  exact h
theorem InAt.start (w : World) (i : W.I) (t : TypeId) : InAt w.heap.size i (w.alloc (.cells #[.int .i64 i.op, .int .i64 i.rd, .int .i64 i.rs1, .int .i64 i.rs2, .int .i64 i.csr, .int .u32 i.imm, .bool i.aq, .bool i.rl] t)) := by
  unfold InAt; simp [go_sem]
theorem ShAt.start (w : World) (s : W.Sh) (t : TypeId) : ShAt w.heap.size s (w.alloc (.cells #[.int .u32 s.fixed, .bool s.rd, .bool s.rs1, .bool s.rs2, .bool s.csr, .bool s.ord, .int .u8 s.fmt, .int .i64 s.low, .int .i64 s.size] t)) := by
  unfold ShAt; simp [go_sem]

theorem enc1 {w w1 : World} {i : W.I} {t : TypeId} (hb1 : Below (w.alloc (.cells #[.int .i64 i.op, .int .i64 i.rd, .int .i64 i.rs1, .int .i64 i.rs2, .int .i64 i.csr, .int .u32 i.imm, .bool i.aq, .bool i.rl] t)).heap.size (w.alloc (.cells #[.int .i64 i.op, .int .i64 i.rd, .int .i64 i.rs1, .int .i64 i.rs2, .int .i64 i.csr, .int .u32 i.imm, .bool i.aq, .bool i.rl] t)) w1) :
    Below w.heap.size w w1 ∧ w.heap.size < w1.heap.size ∧ InAt w.heap.size i w1 := by
  have hz := hb1.size
  simp at hz
  exact ⟨((Below.refl _ _).alloc (Nat.le_refl _) _).trans (hb1.mono (by simp)), by omega, (InAt.start w i t).below hb1⟩
/-- What holds while Encode goes on: the instruction lies in a block of its own, its shape in another. -/
structure St (A : Nat → Addr) (i : W.I) (s : W.Sh) (N : Nat) (w wc : World) : Prop where
  bel : Below w.heap.size w wc
  lt : w.heap.size < N
  lt2 : N < wc.heap.size
  inst : InAt w.heap.size i wc
  shape : ShAt N s wc
  sent : Sent A wc
theorem St.below {A : Nat → Addr} {i : W.I} {s : W.Sh} {N : Nat} {w a b : World} (h : St A i s N w a) (hm : Below a.heap.size a b) : St A i s N w b :=
  ⟨h.bel.trans (hm.mono h.bel.size), h.lt, Nat.lt_of_lt_of_le h.lt2 hm.size, h.inst.below hm, h.shape.below hm, h.sent.below hm⟩
theorem St.start {A : Nat → Addr} {i : W.I} {w w1 : World} {t : TypeId} (s : W.Sh) (hS : Sent A w) (h : Below w.heap.size w w1 ∧ w.heap.size < w1.heap.size ∧ InAt w.heap.size i w1) :
    St A i s w1.heap.size w (w1.alloc (.cells #[.int .u32 s.fixed, .bool s.rd, .bool s.rs1, .bool s.rs2, .bool s.csr, .bool s.ord, .int .u8 s.fmt, .int .i64 s.low, .int .i64 s.size] t)) :=
  ⟨h.1.alloc (by omega) _, h.2.1, by simp, h.2.2.below ((Below.refl _ _).alloc (Nat.le_refl _) _), ShAt.start _ _ _, (hS.below h.1).below ((Below.refl _ _).alloc (Nat.le_refl _) _)⟩

end Go.Proofs.YteilpehekabccaaGreatDoor
