/- net: Send, where all go. -/
import Derived.Test.YtaioioilfanpeaaDoorNetE
namespace Go.Proofs.YtaioioilfanpeaaDoor
open Go.ChangeShapes Go.WideShapes Go.ChangeAt Go.RowKit
set_option linter.unusedVariables false
set_option linter.unusedSimpArgs false

def bdF (l : Array (Nat × Value)) : Sem Value := Instr.build 66 l
theorem bdF_eq (l : Array (Nat × Value)) : Instr.build 66 l = bdF l := rfl
def bsF (n : Nat) (l : Array (Nat × Value)) : Sem Value := Instr.buildSlice 56 n l
theorem bsF_eq (n : Nat) (l : Array (Nat × Value)) : Instr.buildSlice 56 n l = bsF n l := rfl
theorem bdF_any (y : Int) (x : W.Mg) (w : World) : (bdF #[(0, .int .i64 y), (1, mgV x)]).run Tryd.prog w = .ok (flV ⟨y, x⟩) w := by kernel_rfl
theorem bsF_any (f : W.Fl) (w : World) : (bsF 1 #[(0, flV f)]).run Tryd.prog w = .ok (.slice (some ⟨w.heap.size, 0, none⟩) 1 1) (w.alloc (.cells (flL f).toArray 66)) := by kernel_rfl
def zFl : Array Value := (flL ⟨0, W.mg0⟩).toArray
theorem infoFl : (Tryd.prog.info? 66).map (fun i => (i.zero, i.size, i.bytes)) = some (some (.agg zFl), 12, 64) := by kernel_rfl
theorem step_lies {P : Program} (w : World) {ops : Array Oper} {a : Act} {K : Act → World → Prop} {Q : Exit → Act → World → Prop} {E : Prop} (d s x t : Nat) {ty : TypeId} {ps : String} {af : Array Edge}
    (base : Nat) (e : TypeId) (i : TypeInfo) (z : Value) (size bytes : Nat) (ht : P.underlying t = some (.slice e)) (hi : P.info? e = some i) (hz : i.zero = some z)
    (hsize : i.size = size) (hby : i.bytes = bytes) (hzs : z.cells.size = size) (hsz : 0 < size)
    (v : Value) (n : Nat) (xs : List Value) (hs : a.eval (.tmp s) = v) (hown : w.ownsRow base e size v n xs)
    (ad : Addr) (m c : Nat) (news : List Value) (hx : a.eval (.tmp x) = .slice (some ad) m c) (hl : news.length = m * size) (hnews : ∀ j u, news[j]? = some u → w.cell? (ad.add j) = some u) (h1 : ∀ u ∈ news, u.oneCell' = true)
    (hm : 0 < m) (h63 : n + m ≤ maxLen) (hbytes : (n + m) * bytes ≤ 140737488355328) (hbase : base ≤ w.heap.size)
    (h : ∀ g cap w', w'.ownsRow base e size (.slice (some ⟨g, 0, none⟩) (n + m) cap) (n + m) (xs ++ news) → w.grownBy w' v.ownBlock → (v.ownBlock = some g ∨ g = w.heap.size) → g < w'.heap.size → K (a.put (some d) (.slice (some ⟨g, 0, none⟩) (n + m) cap)) w') :
    if Region.wanted { dst := some d, op := .call { callee := .builtin .append, args := #[.tmp s, .tmp x], argTypes := #[t, t] }, type := ty, pos := ps, after := af, guard := none } (yielded ops a.tmps) = true then Oper.wp P { dst := some d, op := .call { callee := .builtin .append, args := #[.tmp s, .tmp x], argTypes := #[t, t] }, type := ty, pos := ps, after := af, guard := none } a w K Q else E := by
  rw [if_pos (by simp [Region.wanted])]
  exact wp_append_lies w _ _ t rfl base e i z size bytes ht hi hz hsize hby hzs hsz v n xs hs hown ad m c news hx hl hnews h1 hm h63 hbytes hbase _ rfl h

theorem rmL_len (R : Nat → Int) : (rmL R).length = 12 := rfl
theorem rmL_at (R : Nat → Int) (j : Nat) (hj : j < 12) : (rmL R)[j]? = some (rmF R j) := by
  match j, hj with
  | 0, _ | 1, _ | 2, _ | 3, _ | 4, _ | 5, _ | 6, _ | 7, _ | 8, _ | 9, _ | 10, _ | 11, _ => rfl
theorem Bc.rng {b : Nat} {R : Nat → Int} {w : World} (h : Bc b 12 (rmF R) w) : w.rangeAt b 0 (rmL R) := fun j v hv => by
  obtain ⟨hj, rfl⟩ := rmL_get R j v hv
  rw [Nat.zero_add]
  exact h.c j hj
variable {n0 nb : Nat} {h : Int} {R R' : Nat → Int} {nx : Int} {fv fv' : Value} {L : List W.Fl} {w w' : World}
theorem Nt.stR (H : Nt n0 nb h R nx fv L w) (R' : Nat → Int) : (stR ⟨nb, 1, none⟩ (.agg (rmL R').toArray)).run Tryd.prog w = .ok () (w.setCells nb 1 (rmL R')) := by
  have := run_storeVar_mid (P := Tryd.prog) w nb 1 70 (rmL R').toArray (fun j hj => by
    have hj' : j < 12 := hj
    exact ⟨by rw [H.b.c (1 + j) (by omega)]; rfl, H.b.fz _⟩) (by kernel_rfl) (by simpa using oneR R')
  exact this
theorem Nt.setR (H : Nt n0 nb h R nx fv L w) (R' : Nat → Int) : Nt n0 nb h R' nx fv L (w.setCells nb 1 (rmL R')) ∧ Up nb fv fv w (w.setCells nb 1 (rmL R')) := by
  have hg := gsetCells nb (rmL R') 1 w
  have hG : Gs (fun b => b = nb ∨ fv.ownBlock = some b) w (w.setCells nb 1 (rmL R')) := Gs.of_grown hg (fun b e => Or.inl (by cases e; rfl))
  refine ⟨⟨⟨Nat.lt_of_lt_of_le H.b.lt hg.size, fun j hj => ?_, fun j => by rw [World.frozen?_setCells]; exact H.b.fz j⟩, H.o.kept hg (by cases e : fv.ownBlock with | none => exact Or.inl rfl | some b => exact Or.inr (fun q => H.ne (by rw [e]; exact q))), H.ne, H.n0⟩, ⟨hG, Or.inl rfl⟩⟩
  by_cases e : 1 ≤ j ∧ j < 13
  · have q := World.cell?_setCells_in nb (rmL R') 1 w (fun i hi => by
      have hi' : i < 12 := hi
      rw [H.b.c (1 + i) (by omega)]; rfl) (j - 1) (by show j - 1 < 12; omega)
    rw [show 1 + (j - 1) = j by omega] at q
    have q2 : (rmL R')[j - 1]'(by show j - 1 < 12; omega) = rmF R' (j - 1) := Option.some.inj ((List.getElem?_eq_getElem _).symm.trans (rmL_at R' (j - 1) (by omega)))
    rw [q, q2]
    unfold ntF rmF
    rw [if_neg (by omega), if_pos (by omega)]
  · rw [World.cell?_setCells_out _ _ _ _ _ (by intro _ _; simp only [rmL_len]; omega), H.b.c j hj]
    unfold ntF
    by_cases e0 : j = 0
    · rw [if_pos e0, if_pos e0]
    · have h13 : ¬ j < 13 := by omega
      simp only [if_neg e0, if_neg h13]
theorem Nt.app (H : Nt n0 nb h R nx fv L w) (f : W.Fl) (hg : w.grownBy w' fv.ownBlock) (ho : w'.ownsRow n0 66 12 fv' (L.length + 1) (flX L ++ flL f)) (hat : fv'.ownBlock = fv.ownBlock ∨ ∃ g, fv'.ownBlock = some g ∧ w.heap.size ≤ g) :
    Nt n0 nb h R nx fv' (L ++ [f]) (w'.setCell ⟨nb, 14, none⟩ fv') ∧ Up nb fv fv' w (w'.setCell ⟨nb, 14, none⟩ fv') := by
  have hne : fv'.ownBlock ≠ some nb := fun e => by
    rcases hat with q | ⟨g, q, hl⟩
    · exact H.ne (q ▸ e)
    · rw [q] at e
      cases e
      have := H.b.lt
      omega
  refine ⟨⟨((H.b.grown hg (fun e => H.ne e.symm)).set 14 fv').congr fun j hj => ?_, ?_, hne, H.n0⟩, ⟨?_, hat⟩⟩
  · unfold updV ntF
    by_cases e : j = 14
    · subst e; rfl
    · rw [if_neg e]
      by_cases e0 : j = 0
      · rw [if_pos e0, if_pos e0]
      · rw [if_neg e0, if_neg e0]
        by_cases e1 : j < 13
        · rw [if_pos e1, if_pos e1]
        · rw [if_neg e1, if_neg e1, if_pos (by omega), if_pos (by omega)]
  · rw [List.length_append, flX_app]
    exact ho.kept (gsetCell w' nb 14 _) (by cases e : fv'.ownBlock with | none => exact Or.inl rfl | some b => exact Or.inr (fun q => hne (by rw [e]; exact q)))
  · exact (Gs.of_grown hg (fun b e => Or.inr e)).trans (Gs.of_grown (gsetCell w' nb 14 _) (fun b e => Or.inl (by cases e; rfl)))
theorem Nt.next (H : Nt n0 nb h R nx fv L w) (y : Int) : Nt n0 nb h R y fv L (w.setCell ⟨nb, 13, none⟩ (.int .i64 y)) ∧ Up nb fv fv w (w.setCell ⟨nb, 13, none⟩ (.int .i64 y)) := by
  have hg := gsetCell w nb 13 (.int .i64 y)
  refine ⟨⟨(H.b.set 13 _).congr fun j hj => ?_, H.o.kept hg (by cases e : fv.ownBlock with | none => exact Or.inl rfl | some b => exact Or.inr (fun q => H.ne (by rw [e]; exact q))), H.ne, H.n0⟩, ⟨Gs.of_grown hg (fun b e => Or.inl (by cases e; rfl)), Or.inl rfl⟩⟩
  unfold updV ntF
  by_cases e : j = 13
  · subst e; rfl
  · rw [if_neg e]
    by_cases e0 : j = 0
    · rw [if_pos e0, if_pos e0]
    · rw [if_neg e0, if_neg e0]
      by_cases e1 : j < 13
      · rw [if_pos e1, if_pos e1]
      · rw [if_neg e1, if_neg e1, if_neg e, if_neg e]
end Go.Proofs.YtaioioilfanpeaaDoor
