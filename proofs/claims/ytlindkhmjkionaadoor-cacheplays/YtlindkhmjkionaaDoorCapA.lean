/- Both caches, the program's and the document's. -/
import Derived.Test.YtlindkhmjkionaaDoorCapM
import Derived.Test.YtlindkhmjkionaaDoorDacG
namespace Go.Proofs.YtlindkhmjkionaaDoor
open Go.ChangeShapes Go.WideShapes Go.ChangeAt Go.RowKit
set_option linter.unusedVariables false
set_option linter.unusedSimpArgs false
variable {n0 cb sb db tb K : Nat} {ways : Int} {sv sv' dv dv' : Nat → Value} {S S' T T' : Nat → List W.En} {w w' w'' : World}
theorem own_gs {P : Nat → Prop} {base : Nat} {e : TypeId} {size : Nat} {v : Value} {n : Nat} {xs : List Value} (h : w.ownsRow base e size v n xs) (hg : Gs P w w') (ho : ∀ g, v.ownBlock = some g → ¬ P g) : w'.ownsRow base e size v n xs := by
  rcases h.2 with ⟨h1, h2⟩ | ⟨g, cap, cur, h1, hbg, hgb, hnc, hcm, hcs, htk⟩
  · exact ⟨h.1, Or.inl ⟨h1, h2⟩⟩
  · exact ⟨h.1, Or.inr ⟨g, cap, cur, h1, hbg, (hg.block g (Array.getElem?_eq_some_iff.1 hgb).1 (ho g (by rw [h1]; rfl))).trans hgb, hnc, hcm, hcs, htk⟩⟩
theorem Ct.gs {P : Nat → Prop} (H : Ct n0 cb sb K ways sv S w) (hg : Gs P w w') (hc : ¬ P cb) (hs : ¬ P sb) (ho : ∀ i, i < K → ∀ g, (sv i).ownBlock = some g → ¬ P g) : Ct n0 cb sb K ways sv S w' :=
  ⟨hg.bc H.b hc, hg.bc H.s hs, fun i hi => own_gs (H.o i hi) hg (ho i hi), H.cs, H.nc, H.ns, H.ap, H.n0c, H.n0s⟩
theorem Dt.gs {P : Nat → Prop} (H : Dt n0 cb sb K ways sv S w) (hg : Gs P w w') (hc : ¬ P cb) (hs : ¬ P sb) (ho : ∀ i, i < K → ∀ g, (sv i).ownBlock = some g → ¬ P g) : Dt n0 cb sb K ways sv S w' :=
  ⟨hg.bc H.b hc, hg.bc H.s hs, fun i hi => own_gs (H.o i hi) hg (ho i hi), H.cs, H.nc, H.ns, H.ap, H.n0c, H.n0s⟩
/-- The blocks of both lie apart. -/
structure Crs (cb sb db tb K : Nat) (sv dv : Nat → Value) : Prop where
  cd : cb ≠ db ∧ cb ≠ tb ∧ sb ≠ db ∧ sb ≠ tb
  a1 : ∀ i g, i < K → (sv i).ownBlock = some g → g ≠ db ∧ g ≠ tb
  a2 : ∀ i g, i < K → (dv i).ownBlock = some g → g ≠ cb ∧ g ≠ sb
  a3 : ∀ i j g, i < K → j < K → (sv i).ownBlock = some g → (dv j).ownBlock ≠ some g
theorem crs_prog (X : Crs cb sb db tb K sv dv) (H : Dt n0 db tb K ways dv T w) (hu : Cu sb K sv sv' w w') : Dt n0 db tb K ways dv T w' ∧ Crs cb sb db tb K sv' dv := by
  refine ⟨H.gs hu.g ?_ ?_ ?_, X.cd, fun i g hi e => ?_, X.a2, fun i j g hi hj e q => ?_⟩
  · rintro (e | ⟨i, hi, e⟩)
    · exact X.cd.2.2.1 e.symm
    · exact (X.a1 i _ hi e).1 rfl
  · rintro (e | ⟨i, hi, e⟩)
    · exact X.cd.2.2.2 e.symm
    · exact (X.a1 i _ hi e).2 rfl
  · rintro j hj g e (q | ⟨i, hi, q⟩)
    · exact (X.a2 j g hj e).2 q
    · exact X.a3 i j g hi hj q e
  · rcases hu.f i g hi e with e | e
    · exact X.a1 i g hi e
    · have h1 := H.b.lt
      have h2 := H.s.lt
      omega
  · rcases hu.f i g hi e with e | e
    · exact X.a3 i j g hi hj e q
    · have := (H.fb hj q).2
      omega
theorem crs_doc (X : Crs cb sb db tb K sv dv) (H : Ct n0 cb sb K ways sv S w) (hu : Du tb K dv dv' w w') : Ct n0 cb sb K ways sv S w' ∧ Crs cb sb db tb K sv dv' := by
  refine ⟨H.gs hu.g ?_ ?_ ?_, X.cd, X.a1, fun i g hi e => ?_, fun i j g hi hj e q => ?_⟩
  · rintro (e | ⟨i, hi, e⟩)
    · exact X.cd.2.1 e
    · exact (X.a2 i _ hi e).1 rfl
  · rintro (e | ⟨i, hi, e⟩)
    · exact X.cd.2.2.2 e
    · exact (X.a2 i _ hi e).2 rfl
  · rintro j hj g e (q | ⟨i, hi, q⟩)
    · exact (X.a1 j g hj e).2 q
    · exact X.a3 j i g hj hi e q
  · rcases hu.f i g hi e with e | e
    · exact X.a2 i g hi e
    · have h1 := H.b.lt
      have h2 := H.s.lt
      omega
  · rcases hu.f j g hj q with q | q
    · exact X.a3 i j g hi hj e q
    · have := (H.fb hi e).2
      omega
/-- What CachePlays keeps: the program's cache has the lists S, the document's T. -/
structure Pz (w0 : World) (cb sb db tb K : Nat) (ways : Int) (S T : Nat → List W.En) (w : World) : Prop where
  c : ∃ sv dv, Ct w0.heap.size cb sb K ways sv S w ∧ Dt w0.heap.size db tb K ways dv T w ∧ Crs cb sb db tb K sv dv
  b : Below w0.heap.size w0 w
  s : W.In K ways S
  t : W.In K ways T
variable {w0 : World}
theorem Pz.below (h : Pz w0 cb sb db tb K ways S T w) (hb : Below w.heap.size w w') : Pz w0 cb sb db tb K ways S T w' := by
  obtain ⟨sv, dv, h1, h2, h3⟩ := h.c
  exact ⟨⟨sv, dv, h1.below hb, h2.below hb, h3⟩, h.b.trans (hb.mono h.b.size), h.s, h.t⟩
theorem Pz.prog (h : Pz w0 cb sb db tb K ways S T w) {f : Nat} {args : Array Value} {r : Value} (hc : ∀ sv, Ct w0.heap.size cb sb K ways sv S w → Calls Tryd.prog f args w fun e w' => e = .returned r ∧ ∃ sv', Ct w0.heap.size cb sb K ways sv' S' w' ∧ Cu sb K sv sv' w w') (hI : W.In K ways S') :
    Calls Tryd.prog f args w fun e w' => e = .returned r ∧ Pz w0 cb sb db tb K ways S' T w' ∧ ∃ sv, Cu sb K sv sv w w' ∨ True := by
  obtain ⟨sv, dv, h1, h2, h3⟩ := h.c
  refine (hc sv h1).mono ?_
  rintro e w1 ⟨rfl, sv', h4, h5⟩
  obtain ⟨h6, h7⟩ := crs_prog h3 h2 h5
  exact ⟨rfl, ⟨⟨sv', dv, h4, h6, h7⟩, h.b.trans (h5.below h1 _ (Nat.le_refl _) h.b.size), hI, h.t⟩, sv, Or.inr trivial⟩
end Go.Proofs.YtlindkhmjkionaaDoor
