/- net: what stays as it was; admit. -/
import Derived.Test.YtaioioilfanpeaaDoorNetB
import Derived.Test.YtaioioilfanpeaaDoorSee16
namespace Go.Proofs.YtaioioilfanpeaaDoor
open Go.ChangeShapes Go.WideShapes Go.ChangeAt Go.RowKit
set_option linter.unusedVariables false
set_option linter.unusedSimpArgs false

/-- But for these blocks, and new ones, the world is as it was. -/
structure Gs (S : Nat → Prop) (w w' : World) : Prop where
  os : w'.os = w.os
  tape : w'.tape = w.tape
  output : w'.output = w.output
  size : w.heap.size ≤ w'.heap.size
  block : ∀ b, b < w.heap.size → ¬ S b → w'.heap[b]? = w.heap[b]?
theorem Gs.refl (S : Nat → Prop) (w : World) : Gs S w w := ⟨rfl, rfl, rfl, Nat.le_refl _, fun _ _ _ => rfl⟩
theorem Gs.trans {S : Nat → Prop} {x y z : World} (h : Gs S x y) (k : Gs S y z) : Gs S x z :=
  ⟨k.os.trans h.os, k.tape.trans h.tape, k.output.trans h.output, Nat.le_trans h.size k.size, fun b hb hn => (k.block b (Nat.lt_of_lt_of_le hb h.size) hn).trans (h.block b hb hn)⟩
theorem Gs.mono {S T : Nat → Prop} {x y : World} (h : Gs S x y) (hs : ∀ b, b < x.heap.size → S b → T b) : Gs T x y := ⟨h.os, h.tape, h.output, h.size, fun b hb hn => h.block b hb (fun e => hn (hs b hb e))⟩
theorem Gs.of_below {S : Nat → Prop} {x y : World} (h : Below x.heap.size x y) : Gs S x y := ⟨h.os, h.tape, h.output, h.size, fun b hb _ => h.block b hb⟩
theorem Gs.of_grown {S : Nat → Prop} {x y : World} {r : Option Nat} (h : x.grownBy y r) (hs : ∀ b, r = some b → S b) : Gs S x y := ⟨h.os, h.tape, h.output, h.size, fun b hb hn => h.block b hb (fun e => hn (hs b e.symm))⟩
theorem Gs.below {S : Nat → Prop} {n : Nat} {x y : World} (h : Gs S x y) (hn : n ≤ x.heap.size) (hs : ∀ b, S b → n ≤ b) : Below n x y := ⟨h.os, h.tape, h.output, h.size, fun b hb => h.block b (by omega) (fun e => by have := hs b e; omega)⟩
theorem Gs.bc {S : Nat → Prop} {x y : World} {b n : Nat} {f : Nat → Value} (h : Gs S x y) (hb : Bc b n f x) (hs : ¬ S b) : Bc b n f y :=
  have q := h.block b hb.lt hs
  ⟨Nat.lt_of_lt_of_le hb.lt h.size, fun j hj => (World.cell?_of_block (a := ⟨b, j, none⟩) q).trans (hb.c j hj), fun j => (World.frozen?_of_block (a := ⟨b, j, none⟩) q).trans (hb.fz j)⟩
theorem gdrew (w : World) (r : Option Nat) : w.grownBy w.drew r := ⟨rfl, rfl, rfl, Nat.le_refl _, fun _ _ _ => rfl⟩
theorem galloc (w : World) (o : Obj) (r : Option Nat) : w.grownBy (w.alloc o) r := gbelow ((Below.refl _ _).alloc (Nat.le_refl _) o) r
def rmF (R : Nat → Int) (j : Nat) : Value := .int .i64 (R j)
def updI (R : Nat → Int) (k : Nat) (v : Int) : Nat → Int := fun j => if j = k then v else R j
theorem rmF_upd (R : Nat → Int) (k : Nat) (v : Int) : updV (rmF R) k (.int .i64 v) = rmF (updI R k v) := by
  funext j
  unfold updV rmF updI
  by_cases e : j = k <;> simp [e]
theorem below_alloc (w : World) (o : Obj) : Below w.heap.size w (w.alloc o) := (Below.refl _ _).alloc (Nat.le_refl _) _

set_option maxHeartbeats 1600000 in
theorem admit_ok (nb lb : Nat) (h : Int) (m : W.Mg) (R : Nat → Int) (c k : Nat) (hc : W.cls m.k = (c : Int)) (c3 : c < 3) (he : W.endB h m.f m.t c = true) (hh : W.endH h m.f m.t c = (k : Int)) (k4 : k < 4) (hl : 0 ≤ m.l) (x0 : 0 < R (c * 4 + k)) (x1 : R (c * 4 + k) ≤ 64) (w : World) (h0 : w.cell? ⟨nb, 0, none⟩ = some (.int .i64 h)) (hb : Bc lb 12 (rmF R) w) :
    Calls Tryd.prog 30 #[.pointer (some ⟨nb, 0, none⟩), mgV m, .pointer (some ⟨lb, 0, none⟩)] w fun e w' => e = .returned .nilIface ∧ Bc lb 12 (rmF (updI R (c * 4 + k) (R (c * 4 + k) - 1))) w' ∧ w.grownBy w' (some lb) := by
  have nl := World.block_lt_of_cell? _ _ h0
  have HN : Hid (∀ o, (w.alloc o).cell? ⟨nb, 0, none⟩ = some (.int .i64 h)) := fun o => ((below_alloc w o).cell (p := ⟨nb, 0, none⟩) nl).trans h0
  have cx : ∀ o, (w.alloc o).cell? ⟨lb, c * 4 + k, none⟩ = some (.int .i64 (R (c * 4 + k))) := fun o => ((below_alloc w o).cell (p := ⟨lb, _, none⟩) hb.lt).trans (hb.c _ (by omega))
  have fx : ∀ o, (w.alloc o).frozen? ⟨lb, c * 4 + k, none⟩ = false := fun o => ((below_alloc w o).frozen (p := ⟨lb, _, none⟩) hb.lt).trans (hb.fz _)
  have HB : Hid (Bc lb 12 (rmF R) w) := hb
  have HC : Hid (W.cls m.k = (c : Int)) := hc
  have HE : Hid (W.endB h m.f m.t c = true ∧ W.endH h m.f m.t c = (k : Int)) := ⟨he, hh⟩
  have c3' : (c : Int) < 3 := by omega
  have k4' : (k : Int) < 4 := by omega
  have hlb := hb.lt
  clear h0 hb hc he hh
  generalize hx : R (c * 4 + k) = x at *
  have HX : Hid (R (c * 4 + k) = x) := hx
  clear hx
  unfold mgV mgL
  go_enter Tryd.func30, Tryd.ntmps30
  go_wp2_with (first
    | (go_at_call 25; refine (class_any m.k _).mono ?_; rintro e w' ⟨rfl, rfl⟩; rw [HC.out])
    | (go_at_call 35; refine (end_any nb h m.f m.t c _ (HN.out _)).mono ?_; rintro e w' ⟨rfl, rfl⟩; rw [HE.out.1, HE.out.2]))
  go_region
  all_goals
    go_wp2
    go_ret
    refine ⟨rfl, ?_, gtrans (gsetCell _ _ _ _) (gtrans (galloc _ _ _) (gdrew _ _))⟩
    have q := HB.out.set (c * 4 + k) (.int .i64 (x - 1))
    rw [rmF_upd] at q
    exact q.below (below_alloc _ _).drew

theorem Sent.al {A : Nat → Addr} {w : World} (h : Sent A w) (j : Nat) (hj : j < 11) : ∀ o, (w.alloc o).cell? ⟨j, 0, none⟩ = some (.iface 102 (.pointer (some (A j)))) := fun o =>
  ((below_alloc w o).cell (p := ⟨j, 0, none⟩) (World.block_lt_of_cell? _ _ (h.cell j hj))).trans (h.cell j hj)

set_option maxHeartbeats 1600000 in
theorem admit_kind (A : Nat → Addr) (nb lb : Nat) (m : W.Mg) (hc : W.cls m.k = -1) (w : World) (hS : Sent A w) :
    Calls Tryd.prog 30 #[.pointer (some ⟨nb, 0, none⟩), mgV m, .pointer (some ⟨lb, 0, none⟩)] w fun e w' => e = .returned (ptr A 1) ∧ Below w.heap.size w w' := by
  have c1 := hS.al 1 (by omega)
  have HC : Hid (W.cls m.k = -1) := hc
  clear hS hc
  unfold mgV mgL
  go_enter Tryd.func30, Tryd.ntmps30
  go_wp2_with (first
    | (go_at_call 25; refine (class_any m.k _).mono ?_; rintro e w' ⟨rfl, rfl⟩; rw [HC.out]))
  go_ret
  exact ⟨rfl, below_alloc _ _⟩

set_option maxHeartbeats 1600000 in
theorem admit_place (A : Nat → Addr) (nb lb : Nat) (h : Int) (m : W.Mg) (c : Nat) (k : Int) (hc : W.cls m.k = (c : Int)) (b : Bool) (he : W.endB h m.f m.t c = b) (hl : b = false ∨ m.l < 0) (w : World) (h0 : w.cell? ⟨nb, 0, none⟩ = some (.int .i64 h)) (hS : Sent A w) :
    Calls Tryd.prog 30 #[.pointer (some ⟨nb, 0, none⟩), mgV m, .pointer (some ⟨lb, 0, none⟩)] w fun e w' => e = .returned (ptr A 2) ∧ Below w.heap.size w w' := by
  have c1 := hS.al 2 (by omega)
  have nl := World.block_lt_of_cell? _ _ h0
  have HN : Hid (∀ o, (w.alloc o).cell? ⟨nb, 0, none⟩ = some (.int .i64 h)) := fun o => ((below_alloc w o).cell (p := ⟨nb, 0, none⟩) nl).trans h0
  have HC : Hid (W.cls m.k = (c : Int)) := hc
  have HE : Hid (W.endB h m.f m.t c = b) := he
  clear h0 hS hc he
  have hb : b = false ∨ b = true ∧ m.l < 0 := by
    cases b
    · exact Or.inl rfl
    · exact Or.inr ⟨rfl, hl.resolve_left (by simp)⟩
  clear hl
  unfold mgV mgL
  rcases hb with rfl | ⟨rfl, hl⟩
  all_goals
    go_enter Tryd.func30, Tryd.ntmps30
    go_wp2_with (first
      | (go_at_call 25; refine (class_any m.k _).mono ?_; rintro e w' ⟨rfl, rfl⟩; rw [HC.out])
      | (go_at_call 35; refine (end_any nb h m.f m.t c _ (HN.out _)).mono ?_; rintro e w' ⟨rfl, rfl⟩; rw [HE.out]; generalize W.endH h m.f m.t (c : Int) = kk))
    go_ret
    exact ⟨rfl, below_alloc _ _⟩

set_option maxHeartbeats 1600000 in
theorem admit_full (A : Nat → Addr) (nb lb : Nat) (h : Int) (m : W.Mg) (R : Nat → Int) (c k : Nat) (hc : W.cls m.k = (c : Int)) (c3 : c < 3) (he : W.endB h m.f m.t c = true) (hh : W.endH h m.f m.t c = (k : Int)) (k4 : k < 4) (hl : 0 ≤ m.l) (x0 : R (c * 4 + k) = 0) (w : World) (h0 : w.cell? ⟨nb, 0, none⟩ = some (.int .i64 h)) (hb : Bc lb 12 (rmF R) w) (hS : Sent A w) :
    Calls Tryd.prog 30 #[.pointer (some ⟨nb, 0, none⟩), mgV m, .pointer (some ⟨lb, 0, none⟩)] w fun e w' => e = .returned (ptr A 3) ∧ Below w.heap.size w w' := by
  have c1 := hS.al 3 (by omega)
  have nl := World.block_lt_of_cell? _ _ h0
  have HN : Hid (∀ o, (w.alloc o).cell? ⟨nb, 0, none⟩ = some (.int .i64 h)) := fun o => ((below_alloc w o).cell (p := ⟨nb, 0, none⟩) nl).trans h0
  have cx : ∀ o, (w.alloc o).cell? ⟨lb, c * 4 + k, none⟩ = some (.int .i64 0) := fun o => (((below_alloc w o).cell (p := ⟨lb, _, none⟩) hb.lt).trans (hb.c _ (by omega))).trans (by unfold rmF; rw [x0])
  have HC : Hid (W.cls m.k = (c : Int)) := hc
  have HE : Hid (W.endB h m.f m.t c = true ∧ W.endH h m.f m.t c = (k : Int)) := ⟨he, hh⟩
  have c3' : (c : Int) < 3 := by omega
  have k4' : (k : Int) < 4 := by omega
  have hlb := hb.lt
  clear h0 hb hc he hh x0 hS
  unfold mgV mgL
  go_enter Tryd.func30, Tryd.ntmps30
  go_wp2_with (first
    | (go_at_call 25; refine (class_any m.k _).mono ?_; rintro e w' ⟨rfl, rfl⟩; rw [HC.out])
    | (go_at_call 35; refine (end_any nb h m.f m.t c _ (HN.out _)).mono ?_; rintro e w' ⟨rfl, rfl⟩; rw [HE.out.1, HE.out.2]))
  go_ret
  exact ⟨rfl, below_alloc _ _⟩
end Go.Proofs.YtaioioilfanpeaaDoor
