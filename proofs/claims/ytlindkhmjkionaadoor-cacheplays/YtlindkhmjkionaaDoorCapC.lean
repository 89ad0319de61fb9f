/- CachePlays: a thing that is told, both caches new, Is. -/
import Derived.Test.YtlindkhmjkionaaDoorCapB
import Derived.Test.YtlindkhmjkionaaDoorCacOf
namespace Go.Proofs.YtlindkhmjkionaaDoor
open Go.ChangeShapes Go.WideShapes Go.ChangeAt Go.RowKit
set_option linter.unusedVariables false
set_option linter.unusedSimpArgs false
variable {n0 n1 cb sb db tb K : Nat} {ways : Int} {sv sv' dv dv' : Nat → Value} {S S' T T' : Nat → List W.En} {w w' w'' : World} {w0 : World} {dd : Nat} {o : Obj}
theorem own_low {base base' : Nat} {e : TypeId} {size : Nat} {v : Value} {n : Nat} {xs : List Value} (h : w.ownsRow base e size v n xs) (hb : base' ≤ base) : w.ownsRow base' e size v n xs := by
  rcases h.2 with ⟨h1, h2⟩ | ⟨g, cap, cur, h1, hbg, hg, hnc, hcm, hcs, htk⟩
  · exact ⟨h.1, Or.inl ⟨h1, h2⟩⟩
  · exact ⟨h.1, Or.inr ⟨g, cap, cur, h1, Nat.le_trans hb hbg, hg, hnc, hcm, hcs, htk⟩⟩
theorem Dt.low (H : Dt n1 cb sb K ways sv S w) (h : n0 ≤ n1) : Dt n0 cb sb K ways sv S w :=
  ⟨H.b, H.s, fun i hi => own_low (H.o i hi) h, H.cs, H.nc, H.ns, H.ap, Nat.le_trans h H.n0c, Nat.le_trans h H.n0s⟩
theorem pz_new {w1 w2 w3 : World} (hI : W.In K ways nilS) (hC : Ct w1.heap.size (w1.heap.size + 1) w1.heap.size K ways nilV nilS w2) (h12 : Below w1.heap.size w1 w2)
    (hD : Dt w2.heap.size (w2.heap.size + 1) w2.heap.size K ways nilV nilS w3) (h23 : Below w2.heap.size w2 w3) : Pz w1 (w1.heap.size + 1) w1.heap.size (w2.heap.size + 1) w2.heap.size K ways nilS nilS w3 := by
  have h1 := hC.b.lt
  have h2 := h12.size
  refine ⟨⟨nilV, nilV, hC.below h23, hD.low h2, ⟨⟨by omega, by omega, by omega, by omega⟩, (fun i g hi e => by cases e), (fun i g hi e => by cases e), (fun i j g hi hj e => by cases e)⟩⟩, h12.trans (h23.mono h2), hI, hI⟩
def ldO (a : Addr) : Sem Value := loadVar 39 a
theorem ldO_eq (a : Addr) : loadVar 39 a = ldO a := rfl
def stO (a : Addr) (v : Value) : Sem Unit := storeVar 39 a v
theorem stO_eq (a : Addr) (v : Value) : storeVar 39 a v = stO a v := rfl
def doV (d : W.Do) : Value := .agg (doL d).toArray
theorem ldO_at {b o : Nat} {d : W.Do} (h : w.rangeAt b o (doL d)) : (ldO ⟨b, o, none⟩).run Tryd.prog w = .ok (doV d) w := run_loadVar_mid w b o _ _ _ h Tryd.underlying39 rfl (by kernel_rfl)
theorem oneO (d : W.Do) : ∀ v ∈ doL d, v.oneCell' = true := by
  intro v hv
  simp [doL, enL] at hv
  rcases hv with rfl | rfl | rfl | rfl | rfl | rfl | rfl | rfl <;> rfl
theorem stO_new (w : World) (d : W.Do) (Z : Array Value) (hz : Z.size = 8) : (stO ⟨w.heap.size, 0, none⟩ (doV d)).run Tryd.prog (w.alloc (.cells Z 39)) = .ok () (w.alloc (.cells (doL d).toArray 39)) := by
  have := run_storeVar_new (P := Tryd.prog) w 39 Z (doL d).toArray (by kernel_rfl) (by rw [hz]; rfl) (by simpa using oneO d)
  exact this
/-- The thing lies in its block. -/
theorem Pd.row {d : W.Do} (h : Pd w0 cb sb db tb K ways S T dd (.cells (doL d).toArray 39) w) : w.cell? ⟨dd, 0, none⟩ = some (.int .i64 d.k) ∧ w.cell? ⟨dd, 1, none⟩ = some (.int .i64 d.n) ∧ (ldE ⟨dd, 2, none⟩).run Tryd.prog w = .ok (enV d.e) w := by
  have hc : ∀ j, j < 8 → w.cell? ⟨dd, j, none⟩ = (doL d)[j]? := fun j hj => by
    rw [World.cell?, h.d]
    simp
  refine ⟨hc 0 (by decide), hc 1 (by decide), ldE_at (fun j v hv => ?_)⟩
  have hj : j < 6 := (List.getElem?_eq_some_iff.1 hv).1
  rw [hc (2 + j) (by omega)]
  match j, hj, hv with
  | 0, _, hv | 1, _, hv | 2, _, hv | 3, _, hv | 4, _, hv | 5, _, hv => exact hv
/-- The answer of Put, as the document's number. -/
theorem pz_is (A : Nat → Addr) (hA : Sent A w) (k : Nat) (hk : k ≤ 3) : Calls Tryd.prog 9 #[errV A k, .int .i64 (num k)] w fun e w' => e = .returned (.bool true) ∧ Below w.heap.size w w' := by
  have := is_any A k hk (num k) w hA
  rw [beq_self_eq_true] at this
  exact this
end Go.Proofs.YtlindkhmjkionaaDoor
