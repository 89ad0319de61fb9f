/- Texts in one: CsrE, CsrF, HartA. -/
import Derived.Deep.RegionHeld3
import Derived.Deep.RegionWith
import Derived.BigRegion
import Derived.Test.YteilpehekabccabGreatDoorJ01
import Derived.Test.YteilpehekabccabGreatDoorJ04
/- All of package csr. -/
namespace Go.Proofs.YteilpehekabccabGreatDoor
open Go.ChangeShapes Go.WideShapes Go.ChangeAt Go.RowKit
set_option linter.unusedVariables false
set_option linter.unusedSimpArgs false

end Go.Proofs.YteilpehekabccabGreatDoor

/- Trap of package csr. -/
namespace Go.Proofs.YteilpehekabccabGreatDoor
open Go.ChangeShapes Go.WideShapes Go.ChangeAt Go.RowKit
set_option linter.unusedVariables false
set_option linter.unusedSimpArgs false

set_option maxHeartbeats 3200000 in
theorem trap_any (T : TT) (b : Nat) (G : W.F) (c t q : Int) (w : World) (h : At T b G w) : Calls Tryz.prog 45 #[.pointer (some ⟨b, 0, none⟩), .int .u32 c, .int .u32 t, .int .u32 q] w fun x w' => x = .returned (.int .u32 G.tvec) ∧ At T b (W.trap G c t q) w' ∧ w.grownBy w' (some b) := by
  obtain ⟨c0, c1, c2, c3, c4, c5, c6, c7, c8, c9, c10, hz⟩ := h.cells
  have hlt := h.lt
  go_enter Tryz.func45, Tryz.ntmps45
  go_wp2_with (go_at_call 59; refine (algn_any _ _).mono ?_; rintro e w1 ⟨rfl, rfl⟩)
  generalize hW : ((World.setCell (World.setCell (World.setCell w _ _) _ _) _ _)) = W1
  have h1 : At T b { G with epc := W.algn q, cause := c, tval := t } W1 := by
    rw [← hW]
    exact ((h.put (G' := { G with epc := W.algn q }) (by rfl)).put (G' := { G with epc := W.algn q, cause := c }) (by rfl)).put (by rfl)
  have g1 : w.grownBy W1 (some b) := by
    rw [← hW]
    exact gtrans (gtrans (gset _ _ _ _) (gset _ _ _ _)) (gset _ _ _ _)
  clear hW c0 c1 c2 c3 c4 c5 c6 c7 c8 c9 c10 hz hlt
  obtain ⟨c0, c1, c2, c3, c4, c5, c6, c7, c8, c9, c10, hz⟩ := h1.cells
  have hlt := h1.lt
  simp only at c0 c1 c2 c3 c4 c5 c6 c7 c8 c9 c10
  go_region_with (first
    | (go_at_call 44; refine (bits_any _ _ _ _).mono ?_; rintro e w2 ⟨rfl, k, rfl⟩)
    | (go_at_call 60; refine (status_any _ _ _ _).mono ?_; rintro e w3 ⟨rfl, hb3⟩; have h3 := (h1.drewN _).below hb3; clear c0 c1 c2 c3 c4 c5 c6 c7 c8 c9 c10 hz hlt; obtain ⟨c0, c1, c2, c3, c4, c5, c6, c7, c8, c9, c10, hz⟩ := h3.cells; have hlt := h3.lt))
  all_goals
    go_wp2
    go_ret
    exact ⟨rfl, (h3.put (G' := { G with epc := W.algn q, cause := c, tval := t, st := W.status 0 (W.bitsOf G.st 3 1) G.m }) (by rfl)).put (by rfl), gtrans g1 (gtrans (gtrans (gbelow ((below_drewN (Below.refl _ _) _).trans hb3)) (gset _ _ _ _)) (gset _ _ _ _))⟩
end Go.Proofs.YteilpehekabccabGreatDoor

/- A hart, and a step on its way, in memory. -/
namespace Go.Proofs.YteilpehekabccabGreatDoor
open Go.ChangeShapes Go.WideShapes Go.ChangeAt Go.RowKit
set_option linter.unusedVariables false
set_option linter.unusedSimpArgs false

def W.Sl.val (s : W.Sl) : Value := .slice s.a s.n s.c
/-- What stands behind the file of a hart. -/
def hRest (h : W.Ht) : Array Value := #[.int .i64 h.by_, .int .u32 h.pc, .int .u32 (h.x 0), .int .u32 (h.x 1), .int .u32 (h.x 2), .int .u32 (h.x 3), .int .u32 (h.x 4), .int .u32 (h.x 5), .int .u32 (h.x 6), .int .u32 (h.x 7), .int .u32 (h.x 8), .int .u32 (h.x 9), .int .u32 (h.x 10), .int .u32 (h.x 11), .int .u32 (h.x 12), .int .u32 (h.x 13), .int .u32 (h.x 14), .int .u32 (h.x 15), .int .u32 (h.x 16), .int .u32 (h.x 17), .int .u32 (h.x 18), .int .u32 (h.x 19), .int .u32 (h.x 20), .int .u32 (h.x 21), .int .u32 (h.x 22), .int .u32 (h.x 23), .int .u32 (h.x 24), .int .u32 (h.x 25), .int .u32 (h.x 26), .int .u32 (h.x 27), .int .u32 (h.x 28), .int .u32 (h.x 29), .int .u32 (h.x 30), .int .u32 (h.x 31)]
def evCells (e : W.Ev) : Array Value := #[.int .i64 e.k, .int .u32 e.pc, .int .u32 e.wd, .int .u32 e.fpa, .int .u32 e.pa, .int .u32 e.ld, .slice e.fw.a e.fw.n e.fw.c, .slice e.wk.a e.wk.n e.wk.c, .int .u32 e.ca, .int .u32 e.tv, .bool e.dn, .int .i64 e.fat, .int .i64 e.at_]
def efCells (e : W.Ef) : Array Value := #[.int .i64 e.k, .int .u32 e.ad, .int .i64 e.sz, .int .u32 e.vl, .bool e.fi, .bool e.sf, .bool e.wt]
def hartCells (h : W.Ht) : Array Value := fileCells h.G ++ hRest h
/-- What stands behind the file of a step. -/
def sRest (S : W.St) : Array Value := hRest S.h ++ (evCells S.r ++ (evCells S.w ++ efCells S.e))

abbrev HAt (b : Nat) (h : W.Ht) (w : World) : Prop := At (49, hRest h) b h.G w
abbrev SAt (b : Nat) (S : W.St) (w : World) : Prop := At (55, sRest S) b S.h.G w

/-- A cell behind the file. -/
theorem At.c {t : TypeId} {R : Array Value} {b : Nat} {G : W.F} {w : World} (h : At (t, R) b G w) (i : Nat) {v : Value} (e : R[i]? = some v) : w.cell? ⟨b, 11 + i, none⟩ = some v := by
  have e0 := h.out
  simp only [World.cell?, e0]
  show (fileCells G ++ R)[11 + i]? = some v
  rw [Array.getElem?_append_right (by simp [fileCells])]
  simpa [fileCells] using e
theorem At.z {T : TT} {b : Nat} {G : W.F} {w : World} (h : At T b G w) (o : Nat) : w.frozen? ⟨b, o, none⟩ = false := h.cells.2.2.2.2.2.2.2.2.2.2.2 o
theorem At.putR {t : TypeId} {R R' : Array Value} {b : Nat} {G : W.F} {w : World} (h : At (t, R) b G w) {o : Nat} {v : Value} (e : R.setIfInBounds (o - 11) v = R') (ho : 11 ≤ o := by decide) : At (t, R') b G (w.setCell ⟨b, o, none⟩ v) := by
  refine ⟨?_⟩
  have e0 := h.out
  simp only [World.setCell, Array.getElem?_modify, if_true, e0, Option.map_some]
  have e2 : (fileCells G ++ R).setIfInBounds o v = fileCells G ++ R' := by
    rw [← e, Array.setIfInBounds_append_right (by simpa [fileCells] using ho)]
    rfl
  simp [e2]
theorem At.drew {T : TT} {b : Nat} {G : W.F} {w : World} (h : At T b G w) : At T b G w.drew := h.below (Below.refl w.heap.size w).drew
theorem gdrew (w : World) (r : Option Nat) : w.grownBy w.drew r := gbelow (Below.refl w.heap.size w).drew
theorem galloc (w : World) (o : Obj) (r : Option Nat) : w.grownBy (w.alloc o) r := gbelow ((Below.refl _ _).alloc (Nat.le_refl _) _)
theorem At.raw {t : TypeId} {R : Array Value} {b : Nat} {G : W.F} {w : World} (h : At (t, R) b G w) (o : Nat) (v : Value) (ho : 11 ≤ o := by decide) : At (t, R.setIfInBounds (o - 11) v) b G (w.setCell ⟨b, o, none⟩ v) := h.putR rfl ho
theorem At.eqR {t : TypeId} {R R' : Array Value} {b : Nat} {G : W.F} {w : World} (h : At (t, R) b G w) (e : R = R') : At (t, R') b G w := e ▸ h

theorem hRest_size (h : W.Ht) : (hRest h).size = 34 := rfl
theorem evCells_size (e : W.Ev) : (evCells e).size = 13 := rfl
theorem efCells_size (e : W.Ef) : (efCells e).size = 7 := rfl
theorem sRest_hc (S : W.St) (k : Nat) (hk : k < 34) : (sRest S)[k]? = (hRest S.h)[k]? := Array.getElem?_append_left (by rw [hRest_size]; exact hk)
theorem sRest_rc (S : W.St) (k : Nat) (hk : k < 13) : (sRest S)[34 + k]? = (evCells S.r)[k]? := by
  unfold sRest
  rw [Array.getElem?_append_right (by rw [hRest_size]; omega), hRest_size, Nat.add_sub_cancel_left, Array.getElem?_append_left (by rw [evCells_size]; exact hk)]
theorem sRest_wc (S : W.St) (k : Nat) (hk : k < 13) : (sRest S)[47 + k]? = (evCells S.w)[k]? := by
  unfold sRest
  rw [Array.getElem?_append_right (by rw [hRest_size]; omega), hRest_size, Array.getElem?_append_right (by rw [evCells_size]; omega), evCells_size, show 47 + k - 34 - 13 = k by omega, Array.getElem?_append_left (by rw [evCells_size]; exact hk)]
theorem sRest_ec (S : W.St) (k : Nat) (hk : k < 7) : (sRest S)[60 + k]? = (efCells S.e)[k]? := by
  unfold sRest
  rw [Array.getElem?_append_right (by rw [hRest_size]; omega), hRest_size, Array.getElem?_append_right (by rw [evCells_size]; omega), evCells_size, Array.getElem?_append_right (by rw [evCells_size]; omega), evCells_size, show 60 + k - 34 - 13 - 13 = k by omega]
theorem At.ch {b : Nat} {S : W.St} {w : World} (h : SAt b S w) (k : Nat) {v : Value} (e : (hRest S.h)[k]? = some v) (hk : k < 34 := by decide) : w.cell? ⟨b, 11 + k, none⟩ = some v := h.c k ((sRest_hc S k hk).trans e)
theorem At.cr {b : Nat} {S : W.St} {w : World} (h : SAt b S w) (k : Nat) {v : Value} (e : (evCells S.r)[k]? = some v) (hk : k < 13 := by decide) : w.cell? ⟨b, 11 + (34 + k), none⟩ = some v := h.c (34 + k) ((sRest_rc S k hk).trans e)
theorem At.cw {b : Nat} {S : W.St} {w : World} (h : SAt b S w) (k : Nat) {v : Value} (e : (evCells S.w)[k]? = some v) (hk : k < 13 := by decide) : w.cell? ⟨b, 11 + (47 + k), none⟩ = some v := h.c (47 + k) ((sRest_wc S k hk).trans e)
theorem At.ce {b : Nat} {S : W.St} {w : World} (h : SAt b S w) (k : Nat) {v : Value} (e : (efCells S.e)[k]? = some v) (hk : k < 7 := by decide) : w.cell? ⟨b, 11 + (60 + k), none⟩ = some v := h.c (60 + k) ((sRest_ec S k hk).trans e)

theorem sRest_h (S : W.St) (H : W.Ht) (k : Nat) (v : Value) (hk : k < 34) (e : (hRest S.h).setIfInBounds k v = hRest H) : (sRest S).setIfInBounds k v = sRest { S with h := H } := by
  unfold sRest
  rw [Array.setIfInBounds_append_left (by rw [hRest_size]; exact hk), e]
theorem sRest_w (S : W.St) (E : W.Ev) (k : Nat) (v : Value) (hk : k < 13) (e : (evCells S.w).setIfInBounds k v = evCells E) : (sRest S).setIfInBounds (47 + k) v = sRest { S with w := E } := by
  unfold sRest
  rw [Array.setIfInBounds_append_right (by rw [hRest_size]; omega), hRest_size, Array.setIfInBounds_append_right (by rw [evCells_size]; omega), evCells_size, show 47 + k - 34 - 13 = k by omega, Array.setIfInBounds_append_left (by rw [evCells_size]; exact hk), e]
theorem sRest_e (S : W.St) (E : W.Ef) (k : Nat) (v : Value) (hk : k < 7) (e : (efCells S.e).setIfInBounds k v = efCells E) : (sRest S).setIfInBounds (60 + k) v = sRest { S with e := E } := by
  unfold sRest
  rw [Array.setIfInBounds_append_right (by rw [hRest_size]; omega), hRest_size, Array.setIfInBounds_append_right (by rw [evCells_size]; omega), evCells_size, Array.setIfInBounds_append_right (by rw [evCells_size]; omega), evCells_size, show 60 + k - 34 - 13 - 13 = k by omega, e]
/-- A cell of the hart, of the event that it has to be, of the effect, written. -/
theorem At.ph {b : Nat} {S : W.St} {w : World} (h : SAt b S w) (H : W.Ht) (k : Nat) {v : Value} (e : (hRest S.h).setIfInBounds k v = hRest H) (hG : H.G = S.h.G) (hk : k < 34 := by decide) : SAt b { S with h := H } (w.setCell ⟨b, 11 + k, none⟩ v) := by
  have q := h.putR (o := 11 + k) (v := v) (R' := sRest { S with h := H }) (by rw [Nat.add_sub_cancel_left]; exact sRest_h S H k v hk e) (by omega)
  show At _ b H.G _
  rw [hG]
  exact q
theorem At.pw {b : Nat} {S : W.St} {w : World} (h : SAt b S w) (E : W.Ev) (k : Nat) {v : Value} (e : (evCells S.w).setIfInBounds k v = evCells E) (hk : k < 13 := by decide) : SAt b { S with w := E } (w.setCell ⟨b, 11 + (47 + k), none⟩ v) :=
  h.putR (o := 11 + (47 + k)) (v := v) (R' := sRest { S with w := E }) (by rw [Nat.add_sub_cancel_left]; exact sRest_w S E k v hk e) (by omega)
theorem At.pe {b : Nat} {S : W.St} {w : World} (h : SAt b S w) (E : W.Ef) (k : Nat) {v : Value} (e : (efCells S.e).setIfInBounds k v = efCells E) (hk : k < 7 := by decide) : SAt b { S with e := E } (w.setCell ⟨b, 11 + (60 + k), none⟩ v) :=
  h.putR (o := 11 + (60 + k)) (v := v) (R' := sRest { S with e := E }) (by rw [Nat.add_sub_cancel_left]; exact sRest_e S E k v hk e) (by omega)
/-- All of the effect written. -/
theorem At.pes {b : Nat} {S : W.St} {w : World} (h : SAt b S w) (e : W.Ef) : SAt b { S with e := e } (((((((w.setCell ⟨b, 71, none⟩ (.int .i64 e.k)).setCell ⟨b, 72, none⟩ (.int .u32 e.ad)).setCell ⟨b, 73, none⟩ (.int .i64 e.sz)).setCell ⟨b, 74, none⟩ (.int .u32 e.vl)).setCell ⟨b, 75, none⟩ (.bool e.fi)).setCell ⟨b, 76, none⟩ (.bool e.sf)).setCell ⟨b, 77, none⟩ (.bool e.wt)) := by
  have q0 := h.pe ⟨e.k, S.e.ad, S.e.sz, S.e.vl, S.e.fi, S.e.sf, S.e.wt⟩ 0 (v := .int .i64 e.k) rfl
  have q1 := q0.pe ⟨e.k, e.ad, S.e.sz, S.e.vl, S.e.fi, S.e.sf, S.e.wt⟩ 1 (v := .int .u32 e.ad) rfl
  have q2 := q1.pe ⟨e.k, e.ad, e.sz, S.e.vl, S.e.fi, S.e.sf, S.e.wt⟩ 2 (v := .int .i64 e.sz) rfl
  have q3 := q2.pe ⟨e.k, e.ad, e.sz, e.vl, S.e.fi, S.e.sf, S.e.wt⟩ 3 (v := .int .u32 e.vl) rfl
  have q4 := q3.pe ⟨e.k, e.ad, e.sz, e.vl, e.fi, S.e.sf, S.e.wt⟩ 4 (v := .bool e.fi) rfl
  have q5 := q4.pe ⟨e.k, e.ad, e.sz, e.vl, e.fi, e.sf, S.e.wt⟩ 5 (v := .bool e.sf) rfl
  exact q5.pe e 6 (v := .bool e.wt) rfl
theorem gpes (w : World) (b : Nat) (v0 v1 v2 v3 v4 v5 v6 : Value) : w.grownBy (((((((w.setCell ⟨b, 71, none⟩ v0).setCell ⟨b, 72, none⟩ v1).setCell ⟨b, 73, none⟩ v2).setCell ⟨b, 74, none⟩ v3).setCell ⟨b, 75, none⟩ v4).setCell ⟨b, 76, none⟩ v5).setCell ⟨b, 77, none⟩ v6) (some b) :=
  gtrans (gtrans (gtrans (gtrans (gtrans (gtrans (gset _ _ _ _) (gset _ _ _ _)) (gset _ _ _ _)) (gset _ _ _ _)) (gset _ _ _ _)) (gset _ _ _ _)) (gset _ _ _ _)
/-- The place written; its kind. -/
theorem At.ppc {b : Nat} {S : W.St} {w : World} (h : SAt b S w) (v : Int) : SAt b { S with h := { S.h with pc := v } } (w.setCell ⟨b, 12, none⟩ (.int .u32 v)) := h.ph { S.h with pc := v } 1 rfl rfl
theorem At.pk {b : Nat} {S : W.St} {w : World} (h : SAt b S w) (v : Int) : SAt b { S with w := { S.w with k := v } } (w.setCell ⟨b, 58, none⟩ (.int .i64 v)) := h.pw { S.w with k := v } 0 rfl
theorem At.pwd {b : Nat} {S : W.St} {w : World} (h : SAt b S w) (v : Int) : SAt b { S with w := { S.w with wd := v } } (w.setCell ⟨b, 60, none⟩ (.int .u32 v)) := h.pw { S.w with wd := v } 2 rfl
theorem At.pfpa {b : Nat} {S : W.St} {w : World} (h : SAt b S w) (v : Int) : SAt b { S with w := { S.w with fpa := v } } (w.setCell ⟨b, 61, none⟩ (.int .u32 v)) := h.pw { S.w with fpa := v } 3 rfl
theorem At.ppa {b : Nat} {S : W.St} {w : World} (h : SAt b S w) (v : Int) : SAt b { S with w := { S.w with pa := v } } (w.setCell ⟨b, 62, none⟩ (.int .u32 v)) := h.pw { S.w with pa := v } 4 rfl
theorem At.pld {b : Nat} {S : W.St} {w : World} (h : SAt b S w) (v : Int) : SAt b { S with w := { S.w with ld := v } } (w.setCell ⟨b, 63, none⟩ (.int .u32 v)) := h.pw { S.w with ld := v } 5 rfl
theorem At.pfw {b : Nat} {S : W.St} {w : World} (h : SAt b S w) (v : W.Sl) : SAt b { S with w := { S.w with fw := v } } (w.setCell ⟨b, 64, none⟩ (.slice v.a v.n v.c)) := h.pw { S.w with fw := v } 6 rfl
theorem At.pwk {b : Nat} {S : W.St} {w : World} (h : SAt b S w) (v : W.Sl) : SAt b { S with w := { S.w with wk := v } } (w.setCell ⟨b, 65, none⟩ (.slice v.a v.n v.c)) := h.pw { S.w with wk := v } 7 rfl
theorem At.pca {b : Nat} {S : W.St} {w : World} (h : SAt b S w) (v : Int) : SAt b { S with w := { S.w with ca := v } } (w.setCell ⟨b, 66, none⟩ (.int .u32 v)) := h.pw { S.w with ca := v } 8 rfl
theorem At.ptv {b : Nat} {S : W.St} {w : World} (h : SAt b S w) (v : Int) : SAt b { S with w := { S.w with tv := v } } (w.setCell ⟨b, 67, none⟩ (.int .u32 v)) := h.pw { S.w with tv := v } 9 rfl
theorem At.pdn {b : Nat} {S : W.St} {w : World} (h : SAt b S w) (v : Bool) : SAt b { S with w := { S.w with dn := v } } (w.setCell ⟨b, 68, none⟩ (.bool v)) := h.pw { S.w with dn := v } 10 rfl
end Go.Proofs.YteilpehekabccabGreatDoor
