/- The list of entries that WalkEnds keeps: appended to in a region that draws its order; read; marked. -/
import Derived.Test.YtkcdkjmkgncihaaWalkV
import Derived.Test.YtkcdkjmkgncihaaWalkP
import Derived.Deep.RegionHeld3
import Derived.Deep.AppendLies
namespace Go.Proofs.Ytkcdkjmkgncihaa
open Go.ChangeShapes Go.WideShapes Go.ChangeAt Go.RowKit
set_option linter.unusedVariables false
set_option linter.unusedSimpArgs false

theorem step_own {P : Program} (w : World) {ops : Array Oper} {a : Act} {K : Act → World → Prop} {Q : Exit → Act → World → Prop} {E : Prop} (d s x t : Nat) {ty : TypeId} {ps : String} {af : Array Edge}
    (base : Nat) (e : TypeId) (i : TypeInfo) (z : Value) (size bytes : Nat) (ht : P.underlying t = some (.slice e)) (hi : P.info? e = some i) (hz : i.zero = some z)
    (hsize : i.size = size) (hby : i.bytes = bytes) (hzs : z.cells.size = size) (hsz : 0 < size)
    (v : Value) (n : Nat) (xs : List Value) (hs : a.eval (.tmp s) = v) (hown : w.ownsRow base e size v n xs)
    (ad : Addr) (m c : Nat) (news : List Value) (hx : a.eval (.tmp x) = .slice (some ad) m c) (hl : news.length = m * size) (hnews : ∀ j u, news[j]? = some u → w.cell? (ad.add j) = some u) (h1 : ∀ u ∈ news, u.oneCell' = true)
    (h63 : n + m ≤ maxLen) (hbytes : (n + m) * bytes ≤ 140737488355328) (hbase : base ≤ w.heap.size)
    (h : ∀ v' w', w'.ownsRow base e size v' (n + m) (xs ++ news) → w.grownBy w' v.ownBlock → K (a.put (some d) v') w') :
    if Region.wanted { dst := some d, op := .call { callee := .builtin .append, args := #[.tmp s, .tmp x], argTypes := #[t, t] }, type := ty, pos := ps, after := af, guard := none } (yielded ops a.tmps) = true then Oper.wp P { dst := some d, op := .call { callee := .builtin .append, args := #[.tmp s, .tmp x], argTypes := #[t, t] }, type := ty, pos := ps, after := af, guard := none } a w K Q else E := by
  rw [if_pos (by simp [Region.wanted])]
  exact wp_append_own w _ _ t rfl base e i z size bytes ht hi hz hsize hby hzs hsz v n xs hs hown ad m c news hx hl hnews h1 h63 hbytes hbase fun v' w' h2 h3 _ => h v' w' h2 h3

theorem cell_grown {w w' : World} {row : Option Nat} {b o : Nat} {v : Value} (x : Obj) (hg : (w.alloc x).grownBy w' row) (hc : w.cell? ⟨b, o, none⟩ = some v) (hb : b < w.heap.size) (hne : some b ≠ row) : w'.cell? ⟨b, o, none⟩ = some v :=
  (World.cell?_of_block (w := w.alloc x) (hg.block b (by simp; omega) hne)).trans ((Below.cell ((Below.refl w.heap.size w).alloc (Nat.le_refl _) x) hb).trans hc)

def ptL (p : W.Pt) : List Value := [.int .u32 p.a, .int .u32 p.v, .int .u32 p.o, .int .i64 p.t, .bool p.f]
theorem ptL_one (p : W.Pt) : ∀ u ∈ ptL p, u.oneCell' = true := by
  intro u hu
  simp only [ptL, List.mem_cons, List.not_mem_nil, or_false] at hu
  rcases hu with rfl | rfl | rfl | rfl | rfl <;> rfl

theorem own_below {w w' : World} {base : Nat} {e : TypeId} {size : Nat} {v : Value} {n : Nat} {xs : List Value} (h : w.ownsRow base e size v n xs) (hb : Below w.heap.size w w') : w'.ownsRow base e size v n xs :=
  h.kept (row := none) ⟨hb.os, hb.tape, hb.output, hb.size, fun k hk _ => hb.block k hk⟩ (by cases hv : v.ownBlock <;> simp)

/-- What is known of the list by its cells. -/
structure Le (L n : Nat) (p : Nat → W.Pt) (w : World) : Prop where
  lt : L < w.heap.size
  rd : Rd L 0 n p w
  fz : ∀ o, w.frozen? ⟨L, o, none⟩ = false
  rg : ∀ j, 0 ≤ (p j).v ∧ (p j).v < 4294967296
theorem Le.below {L n : Nat} {p : Nat → W.Pt} {w w' : World} (h : Le L n p w) (hb : Below w.heap.size w w') : Le L n p w' :=
  ⟨Nat.lt_of_lt_of_le h.lt hb.size, h.rd.below hb h.lt, fun o => (hb.frozen (p := ⟨L, o, none⟩) h.lt).trans (h.fz o), h.rg⟩
theorem Le.reads {L n : Nat} {p : Nat → W.Pt} {w : World} (h : Le L n p w) (hn : n ≤ 2) : Reads (some ⟨L, 0, none⟩) n p w := ⟨by unfold maxLen; omega, fun _ => ⟨L, 0, rfl, h.lt, h.rd⟩, h.rg⟩
theorem own_le {w : World} {base n : Nat} {v : Value} {xs : List Value} (h : w.ownsRow base 32 5 v n xs) (hn : 0 < n) (p : Nat → W.Pt) (hx : ∀ j, j < n → xs[j * 5]? = some (.int .u32 (p j).a) ∧ xs[j * 5 + 1]? = some (.int .u32 (p j).v) ∧ xs[j * 5 + 2]? = some (.int .u32 (p j).o) ∧ xs[j * 5 + 3]? = some (.int .i64 (p j).t) ∧ xs[j * 5 + 4]? = some (.bool (p j).f)) (hr : ∀ j, 0 ≤ (p j).v ∧ (p j).v < 4294967296) :
    ∃ L cap, v = .slice (some ⟨L, 0, none⟩) n cap ∧ base ≤ L ∧ Le L n p w := by
  rcases h.2 with ⟨_, h0⟩ | ⟨g, cap, cur, rfl, hg, hh, hcap, hmax, hcur, htake⟩
  · omega
  · refine ⟨g, cap, rfl, hg, ⟨(Array.getElem?_eq_some_iff.1 hh).1, fun j hj => ?_, fun o => by simp [World.frozen?, hh], hr⟩⟩
    have hc := h.cells (g := g) rfl
    have e : ∀ k, (⟨g, 0, none⟩ : Addr).add k = ⟨g, 0 + k, none⟩ := fun k => by unfold Addr.add; split <;> simp_all
    obtain ⟨h0, h1, h2, h3, h4⟩ := hx j hj
    have c0 := hc _ _ h0
    have c1 := hc _ _ h1
    have c2 := hc _ _ h2
    have c3 := hc _ _ h3
    have c4 := hc _ _ h4
    rw [e] at c0 c1 c2 c3 c4
    exact ⟨c0, c1, c2, c3, c4⟩
theorem own_le1 {w : World} {base : Nat} {v : Value} (p0 : W.Pt) (h : w.ownsRow base 32 5 v 1 (ptL p0)) (hr : 0 ≤ p0.v ∧ p0.v < 4294967296) : ∃ L cap, v = .slice (some ⟨L, 0, none⟩) 1 cap ∧ base ≤ L ∧ Le L 1 (fun _ => p0) w :=
  own_le h (by decide) _ (fun j hj => by obtain rfl : j = 0 := by omega
                                         exact ⟨rfl, rfl, rfl, rfl, rfl⟩) (fun _ => hr)
theorem own_le2 {w : World} {base : Nat} {v : Value} (p0 p1 : W.Pt) (h : w.ownsRow base 32 5 v 2 (ptL p0 ++ ptL p1)) (hr : 0 ≤ p0.v ∧ p0.v < 4294967296) (hr1 : 0 ≤ p1.v ∧ p1.v < 4294967296) : ∃ L cap, v = .slice (some ⟨L, 0, none⟩) 2 cap ∧ base ≤ L ∧ Le L 2 (W.two p0 p1) w :=
  own_le h (by decide) _ (fun j hj => by
    match j, hj with
    | 0, _ => exact ⟨rfl, rfl, rfl, rfl, rfl⟩
    | 1, _ => exact ⟨rfl, rfl, rfl, rfl, rfl⟩) (fun j => by
    unfold W.two
    split
    · exact hr
    · exact hr1)
theorem Le.set1 {L : Nat} {p0 : W.Pt} {w : World} (h : Le L 1 (fun _ => p0) w) (x : Int) (hx : 0 ≤ x ∧ x < 4294967296) : Le L 1 (fun _ => ⟨p0.a, x, p0.o, p0.t, p0.f⟩) (w.setCell ⟨L, 1, none⟩ (.int .u32 x)) := by
  obtain ⟨h0, h1, h2, h3, h4⟩ := h.rd 0 (by decide)
  simp only [Nat.zero_mul, Nat.zero_add] at h0 h1 h2 h3 h4
  refine ⟨by simpa [World.setCell] using h.lt, fun j hj => ?_, fun o => (World.frozen?_setCell _ _ _ _).trans (h.fz o), fun _ => hx⟩
  obtain rfl : j = 0 := by omega
  simp only [Nat.zero_mul, Nat.zero_add]
  refine ⟨(World.cell?_setCell_other _ _ _ _ (by simp)).trans h0, World.cell?_setCell_same _ _ _ h1, (World.cell?_setCell_other _ _ _ _ (by simp)).trans h2, (World.cell?_setCell_other _ _ _ _ (by simp)).trans h3, (World.cell?_setCell_other _ _ _ _ (by simp)).trans h4⟩
theorem Le.set2 {L : Nat} {p0 p1 : W.Pt} {w : World} (h : Le L 2 (W.two p0 p1) w) (x : Int) (hx : 0 ≤ x ∧ x < 4294967296) : Le L 2 (W.two p0 ⟨p1.a, x, p1.o, p1.t, p1.f⟩) (w.setCell ⟨L, 6, none⟩ (.int .u32 x)) := by
  obtain ⟨h0, h1, h2, h3, h4⟩ := h.rd 0 (by decide)
  obtain ⟨k0, k1, k2, k3, k4⟩ := h.rd 1 (by decide)
  simp only [Nat.zero_mul, Nat.zero_add, Nat.one_mul] at h0 h1 h2 h3 h4 k0 k1 k2 k3 k4
  refine ⟨by simpa [World.setCell] using h.lt, fun j hj => ?_, fun o => (World.frozen?_setCell _ _ _ _).trans (h.fz o), fun j => ?_⟩
  · match j, hj with
    | 0, _ =>
      simp only [Nat.zero_mul, Nat.zero_add]
      exact ⟨(World.cell?_setCell_other _ _ _ _ (by simp)).trans h0, (World.cell?_setCell_other _ _ _ _ (by simp)).trans h1, (World.cell?_setCell_other _ _ _ _ (by simp)).trans h2, (World.cell?_setCell_other _ _ _ _ (by simp)).trans h3, (World.cell?_setCell_other _ _ _ _ (by simp)).trans h4⟩
    | 1, _ =>
      simp only [Nat.zero_add, Nat.one_mul]
      exact ⟨(World.cell?_setCell_other _ _ _ _ (by simp)).trans k0, World.cell?_setCell_same _ _ _ k1, (World.cell?_setCell_other _ _ _ _ (by simp)).trans k2, (World.cell?_setCell_other _ _ _ _ (by simp)).trans k3, (World.cell?_setCell_other _ _ _ _ (by simp)).trans k4⟩
  · by_cases hj : j = 0
    · subst hj; exact h.rg 0
    · simp only [W.two, if_neg hj]; exact hx
theorem Le.last2 {L : Nat} {p0 p1 : W.Pt} {w : World} (h : Le L 2 (W.two p0 p1) w) :
    w.cell? ⟨L, 5, none⟩ = some (.int .u32 p1.a) ∧ w.cell? ⟨L, 6, none⟩ = some (.int .u32 p1.v) ∧ w.cell? ⟨L, 7, none⟩ = some (.int .u32 p1.o) ∧ w.cell? ⟨L, 8, none⟩ = some (.int .i64 p1.t) ∧ w.cell? ⟨L, 9, none⟩ = some (.bool p1.f) := h.rd 1 (by decide)
theorem next_le1 (satp mode va acc bytes : Int) (s0 : 0 ≤ satp) (s1 : satp < 4294967296) (v0 : 0 ≤ va) (v1 : va < 4294967296) (L cap : Nat) (p0 : W.Pt) (w : World) (h : Le L 1 (fun _ => p0) w) (S : W.Stp)
    (hS : W.nextS satp mode va acc bytes 1 (fun _ => p0.a) (fun _ => p0.v) = S) :
    Calls Try.prog 9 #[.int .u32 satp, .int .i64 mode, .int .u32 va, .int .i64 acc, .int .i64 bytes, .slice (some ⟨L, 0, none⟩) 1 cap] w fun x w' => x = .returned (.agg #[.int .i64 S.k, .int .u32 S.pa, .int .u32 S.ad, .int .u32 S.vl, .int .u32 S.ca]) ∧ Below w.heap.size w w' :=
  next_any satp mode va acc bytes s0 s1 v0 v1 _ 1 cap _ w (h.reads (by decide)) S hS
theorem next_le2 (satp mode va acc bytes : Int) (s0 : 0 ≤ satp) (s1 : satp < 4294967296) (v0 : 0 ≤ va) (v1 : va < 4294967296) (L cap : Nat) (p0 p1 : W.Pt) (w : World) (h : Le L 2 (W.two p0 p1) w) (S : W.Stp)
    (hS : W.nextS satp mode va acc bytes 2 (W.two p0.a p1.a) (W.two p0.v p1.v) = S) :
    Calls Try.prog 9 #[.int .u32 satp, .int .i64 mode, .int .u32 va, .int .i64 acc, .int .i64 bytes, .slice (some ⟨L, 0, none⟩) 2 cap] w fun x w' => x = .returned (.agg #[.int .i64 S.k, .int .u32 S.pa, .int .u32 S.ad, .int .u32 S.vl, .int .u32 S.ca]) ∧ Below w.heap.size w w' := by
  refine next_any satp mode va acc bytes s0 s1 v0 v1 _ 2 cap _ w (h.reads (by decide)) S ?_
  rw [← hS]
  congr 1
  · funext j; unfold W.two; split <;> rfl
  · funext j; unfold W.two; split <;> rfl
end Go.Proofs.Ytkcdkjmkgncihaa
