/- What the program's text lays: the errors are pointers of their own. -/
import Derived.Test.YtlindkhmjkionaaDoorRows
import Derived.Test.YtlindkhmjkionaaDoorSee17
import Derived.LaidLaws
import Derived.LaidMore
import Derived.Stop.Joined
import Derived.Stop.ErrReads
import Derived.RowKitTokens
namespace Go.Proofs.YtlindkhmjkionaaDoor
open Go.ChangeShapes Go.WideShapes Go.ChangeAt Go.RowKit
set_option linter.unusedVariables false

abbrev theLaid : List (String × DataW Unit) := [("corral/api.ErrMany", Rows.laid_corral_api_ErrMany), ("corral/api.ErrKind", Rows.laid_corral_api_ErrKind), ("corral/api.ErrPlace", Rows.laid_corral_api_ErrPlace), ("corral/api.ErrShape", Rows.laid_corral_api_ErrShape), ("corral/api.ErrWord", Rows.laid_corral_api_ErrWord), ("corral/api.ErrRange", Rows.laid_corral_api_ErrRange), ("corral/api.ErrFull", Rows.laid_corral_api_ErrFull), ("corral/api.ErrNone", Rows.laid_corral_api_ErrNone), ("corral/api.ErrTrace", Rows.laid_corral_api_ErrTrace), ("corral/api.ErrOrder", Rows.laid_corral_api_ErrOrder), ("corral/api.ErrValue", Rows.laid_corral_api_ErrValue)]

theorem star : "*" ++ "errors.errorString" = "*errors.errorString" := by decide
theorem rowE (u : TypeId) (h : Tryd.prog.typeName? 3 u = some "*errors.errorString") : u = 121 :=
  typeName_ptr_named (nm := "errors.errorString") (by rw [star]; kernel_rfl) (by kernel_rfl) (by decide) u (by rw [star]; exact h)

set_option maxRecDepth 100000 in
/-- One error out of the list. -/
theorem laid_one {W : World} {n : String} {g : Nat} {text : List UInt8} {rest : List (String × DataW Unit)} {ps : List MemPlace} (hg : Tryd.prog.globalNamed n = some g) (ht : (Tryd.prog.globals[g]?).map (·.type) = some 27)
    (hrows : ∀ b off, MemPlace.cell b off ∈ ps → (∃ c t, W.heap[b]? = some (.cells c t (0, 0))) ∧ ∀ u v, W.cell? ⟨b, off, none⟩ = some (.iface u v) → Value.okWide Tryd.prog W .any 0 u v)
    (h : DataW.LaidVars Tryd.prog W ((n, .iface "*errors.errorString" (.ptr (.agg [.lit (.string text)]))) :: rest) ps) :
    ∃ a q, W.cell? ⟨g, 0, none⟩ = some (.iface 121 (.pointer (some a))) ∧ (∃ c t, W.heap[a.block]? = some (.cells c t (0, 0))) ∧ DataW.LaidVars Tryd.prog W rest q ∧ ps = MemPlace.cell g 0 :: MemPlace.cell a.block a.off :: q := by
  obtain ⟨g0, t0, cs0, f0, p0, q0, hg0, ht0, hv0, hd0, hq, e0⟩ := h
  obtain rfl := Option.some.inj (hg.symm.trans hg0)
  obtain rfl := Option.some.inj (ht.symm.trans ht0)
  subst e0
  obtain ⟨l0⟩ := cs0
  have ok0 : ∀ u v, l0 = [.iface u v] → Value.okWide Tryd.prog W .any 0 u v := fun u v e => by
    subst e
    exact (hrows g 0 (by simp [MemPlace.row])).2 u v (by simpa using World.var?_cell hg0 hv0 0)
  obtain ⟨a0, s0, rfl, hc0, hs0, hz0, rfl⟩ := errorString_of_trod Tryd.underlying27 rowE Tryd.underlying121 Tryd.underlying137 rfl rfl Tryd.underlying9 (by kernel_rfl) (by kernel_rfl) hd0 ok0
  refine ⟨a0, q0, by simpa using World.var?_cell hg0 hv0 0, (hrows a0.block a0.off (by simp [MemPlace.row])).1, hq, by simp [MemPlace.row]⟩

theorem permL {α : Type} (a0 a1 a2 a3 a4 a5 a6 a7 a8 a9 a10 : α) : [a5, a1, a6, a0, a2, a3, a4, a7, a8, a9, a10].Perm [a0, a1, a2, a3, a4, a5, a6, a7, a8, a9, a10] := by
  have h : ([5, 1, 6, 0, 2, 3, 4, 7, 8, 9, 10] : List Nat).Perm [0, 1, 2, 3, 4, 5, 6, 7, 8, 9, 10] := by decide
  exact h.map (fun k => [a0, a1, a2, a3, a4, a5, a6, a7, a8, a9, a10].getD k a0)

set_option maxRecDepth 100000 in
theorem sent_of_laid {W : World} (h : laidMetH Tryd.prog theLaid W) : ∃ A, Sent A W := by
  rw [MakeChecks.laidMetH_plain _ _ _ (by kernel_rfl)] at h
  obtain ⟨ps, h0, hnd, hrows⟩ := h
  obtain ⟨a0, q0, x0, y0, h1, e0⟩ := laid_one (g := 3) (by kernel_rfl) (by kernel_rfl) hrows h0
  obtain ⟨a1, q1, x1, y1, h2, e1⟩ := laid_one (g := 1) (by kernel_rfl) (by kernel_rfl) (fun b o hm => hrows b o (by rw [e0]; simp [hm])) h1
  obtain ⟨a2, q2, x2, y2, h3, e2⟩ := laid_one (g := 4) (by kernel_rfl) (by kernel_rfl) (fun b o hm => hrows b o (by rw [e0, e1]; simp [hm])) h2
  obtain ⟨a3, q3, x3, y3, h4, e3⟩ := laid_one (g := 5) (by kernel_rfl) (by kernel_rfl) (fun b o hm => hrows b o (by rw [e0, e1, e2]; simp [hm])) h3
  obtain ⟨a4, q4, x4, y4, h5, e4⟩ := laid_one (g := 6) (by kernel_rfl) (by kernel_rfl) (fun b o hm => hrows b o (by rw [e0, e1, e2, e3]; simp [hm])) h4
  obtain ⟨a5, q5, x5, y5, h6, e5⟩ := laid_one (g := 0) (by kernel_rfl) (by kernel_rfl) (fun b o hm => hrows b o (by rw [e0, e1, e2, e3, e4]; simp [hm])) h5
  obtain ⟨a6, q6, x6, y6, h7, e6⟩ := laid_one (g := 2) (by kernel_rfl) (by kernel_rfl) (fun b o hm => hrows b o (by rw [e0, e1, e2, e3, e4, e5]; simp [hm])) h6
  obtain ⟨a7, q7, x7, y7, h8, e7⟩ := laid_one (g := 7) (by kernel_rfl) (by kernel_rfl) (fun b o hm => hrows b o (by rw [e0, e1, e2, e3, e4, e5, e6]; simp [hm])) h7
  obtain ⟨a8, q8, x8, y8, h9, e8⟩ := laid_one (g := 8) (by kernel_rfl) (by kernel_rfl) (fun b o hm => hrows b o (by rw [e0, e1, e2, e3, e4, e5, e6, e7]; simp [hm])) h8
  obtain ⟨a9, q9, x9, y9, h10, e9⟩ := laid_one (g := 9) (by kernel_rfl) (by kernel_rfl) (fun b o hm => hrows b o (by rw [e0, e1, e2, e3, e4, e5, e6, e7, e8]; simp [hm])) h9
  obtain ⟨a10, q10, x10, y10, h11, e10⟩ := laid_one (g := 10) (by kernel_rfl) (by kernel_rfl) (fun b o hm => hrows b o (by rw [e0, e1, e2, e3, e4, e5, e6, e7, e8, e9]; simp [hm])) h10
  subst e10 e9 e8 e7 e6 e5 e4 e3 e2 e1 e0
  let L : List Addr := [a5, a1, a6, a0, a2, a3, a4, a7, a8, a9, a10]
  have hN : (List.map (fun a : Addr => MemPlace.cell a.block a.off) [a0, a1, a2, a3, a4, a5, a6, a7, a8, a9, a10]).Nodup := by
    refine List.Sublist.nodup ?_ hnd
    exact .cons _ (.cons_cons _ (.cons _ (.cons_cons _ (.cons _ (.cons_cons _ (.cons _ (.cons_cons _ (.cons _ (.cons_cons _ (.cons _ (.cons_cons _ (.cons _ (.cons_cons _ (.cons _ (.cons_cons _ (.cons _ (.cons_cons _ (.cons _ (.cons_cons _ (.cons _ (.cons_cons _ (List.nil_sublist _))))))))))))))))))))))
  have hN2 : (List.map (fun a : Addr => MemPlace.cell a.block a.off) L).Nodup := by
    refine (List.Perm.nodup_iff (List.Perm.map _ ?_)).2 hN
    exact permL a0 a1 a2 a3 a4 a5 a6 a7 a8 a9 a10
  refine ⟨fun j => L.getD j a0, ?_, ?_, ?_⟩
  · intro j hj
    match j, hj with
    | 0, _ => exact x5
    | 1, _ => exact x1
    | 2, _ => exact x6
    | 3, _ => exact x0
    | 4, _ => exact x2
    | 5, _ => exact x3
    | 6, _ => exact x4
    | 7, _ => exact x7
    | 8, _ => exact x8
    | 9, _ => exact x9
    | 10, _ => exact x10
  · intro i j hi hj e
    have hl : L.length = 11 := rfl
    have hp := List.pairwise_iff_getElem.1 hN2
    have e' : ∀ k (hk : k < L.length), L.getD k a0 = L[k] := fun k hk => by simp [List.getD, hk]
    have e : L[i]'(by rw [hl]; exact hi) = L[j]'(by rw [hl]; exact hj) := by rw [← e' i (by rw [hl]; exact hi), ← e' j (by rw [hl]; exact hj)]; exact e
    rcases Nat.lt_trichotomy i j with h | h | h
    · exact (hp i j (by simp [hl]; omega) (by simp [hl]; omega) h (by rw [List.getElem_map, List.getElem_map, e])).elim
    · exact h
    · exact (hp j i (by simp [hl]; omega) (by simp [hl]; omega) h (by rw [List.getElem_map, List.getElem_map, e])).elim
  · intro j hj
    match j, hj with
    | 0, _ => exact y5
    | 1, _ => exact y1
    | 2, _ => exact y6
    | 3, _ => exact y0
    | 4, _ => exact y2
    | 5, _ => exact y3
    | 6, _ => exact y4
    | 7, _ => exact y7
    | 8, _ => exact y8
    | 9, _ => exact y9
    | 10, _ => exact y10

theorem door_met (os : Go.Os) (args : Array Value) : laidMetH Tryd.prog theLaid ((World.doorLaid Tryd.prog 218 os).forCall (fun _ _ => 0) ⟨#[], args, []⟩).memory :=
  laidMetH_of_parts3 (fuel := 8) (laidMet_of_run' 8 (by kernel_rfl) (by kernel_rfl)) (by kernel_rfl) (by kernel_rfl)

end Go.Proofs.YtlindkhmjkionaaDoor
