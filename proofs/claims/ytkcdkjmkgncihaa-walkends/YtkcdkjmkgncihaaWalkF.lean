/- Down and Next, as functions of their numbers. -/
import Derived.Test.YtkcdkjmkgncihaaWalkE0
import Derived.Test.YtkcdkjmkgncihaaWalkE1
import Derived.Test.YtkcdkjmkgncihaaWalkE2
import Derived.Test.YtkcdkjmkgncihaaWalkE3
import Derived.Test.YtkcdkjmkgncihaaWalkE4
import Derived.Test.YtkcdkjmkgncihaaWalkE5
import Derived.Test.YtkcdkjmkgncihaaWalkE6
import Derived.Test.YtkcdkjmkgncihaaWalkE7
import Derived.Test.YtkcdkjmkgncihaaWalkE8
import Derived.Test.YtkcdkjmkgncihaaWalkE9
import Derived.Test.YtkcdkjmkgncihaaWalkE10
namespace Go.Proofs.Ytkcdkjmkgncihaa
open Go.ChangeShapes Go.WideShapes Go.ChangeAt Go.RowKit
set_option linter.unusedVariables false
set_option linter.unusedSimpArgs false

/-- The entries can be read. -/
def Reads (a : Option Addr) (n : Nat) (p : Nat → W.Pt) (w : World) : Prop :=
  n ≤ maxLen ∧ (0 < n → ∃ b off, a = some ⟨b, off, none⟩ ∧ b < w.heap.size ∧ Rd b off n p w) ∧ ∀ j, 0 ≤ (p j).v ∧ (p j).v < 4294967296
theorem Reads.below {a : Option Addr} {n : Nat} {p : Nat → W.Pt} {w w' : World} (h : Reads a n p w) (hb : Below w.heap.size w w') : Reads a n p w' :=
  ⟨h.1, fun hn => by obtain ⟨b, off, e, hl, hr⟩ := h.2.1 hn; exact ⟨b, off, e, Nat.lt_of_lt_of_le hl hb.size, hr.below hb hl⟩, h.2.2⟩

theorem down_any (mode va acc bytes table : Int) (v0 : 0 ≤ va) (v1 : va < 4294967296) (t0 : 0 ≤ table) (t1 : table < 4294967296) (a : Option Addr) (n cap : Nat) (p : Nat → W.Pt) (w : World) (hr : Reads a n p w) (S : W.Stp × Int)
    (hS : W.downS table va acc mode bytes n (fun j => (p j).a) (fun j => (p j).v) = S) :
    Calls Try.prog 17 #[.agg #[.int .i64 mode, .int .u32 va, .int .i64 acc, .int .i64 bytes], .int .u32 table, .slice a n cap] w fun x w' => x = .returned (.tuple #[S.1.val, .int .i64 S.2]) ∧ Below w.heap.size w w' := by
  obtain ⟨hm, hr, hv⟩ := hr
  unfold W.downS W.downL at hS
  cases c1 : W.entB table va bytes true
  · rw [c1] at hS; subst hS
    exact down_0 mode va acc bytes table v0 v1 t0 t1 a n cap hm w c1
  · by_cases hn : n = 0
    · rw [c1] at hS; simp only [cond_true, if_pos hn] at hS; subst hS
      exact down_1 mode va acc bytes table v0 v1 t0 t1 a n cap hm w hn c1
    · obtain ⟨b, off, rfl, hlt, hrd⟩ := hr (by omega)
      have hn0 : 0 < n := by omega
      rw [c1] at hS; simp only [cond_true, if_neg hn] at hS
      cases c3 : ((p 0).a != W.entA table va true)
      · cases c4 : W.bad (p 0).v
        · cases c5 : W.leaf (p 0).v
          · rw [c3, c4, c5] at hS; simp only [cond_false] at hS
            cases e1 : W.entB ((p 0).v / 1024) va bytes false
            · rw [e1] at hS; subst hS
              exact down_5 mode va acc bytes table v0 v1 t0 t1 n cap hm w b off p hlt hrd hn0 (hv 0).1 (hv 0).2 c1 c3 c4 c5 e1
            · by_cases hn1 : n = 1
              · rw [e1] at hS; simp only [cond_true, if_pos hn1] at hS; subst hS
                exact down_6 mode va acc bytes table v0 v1 t0 t1 n cap hm w b off p hlt hrd hn1 (hv 0).1 (hv 0).2 c1 c3 c4 c5 e1
              · have hn2 : 1 < n := by omega
                rw [e1] at hS; simp only [cond_true, if_neg hn1] at hS
                cases e3 : ((p 1).a != W.entA ((p 0).v / 1024) va false)
                · cases e4 : W.bad (p 1).v
                  · cases e5 : W.leaf (p 1).v
                    · rw [e3, e4, e5] at hS; subst hS
                      exact down_10 mode va acc bytes table v0 v1 t0 t1 n cap hm w b off p hlt hrd hn2 (hv 0).1 (hv 0).2 (hv 1).1 (hv 1).2 c1 c3 c4 c5 e1 e3 e4 e5
                    · rw [e3, e4, e5] at hS; subst hS
                      exact down_9 mode va acc bytes table v0 v1 t0 t1 n cap hm w b off p hlt hrd hn2 (hv 0).1 (hv 0).2 (hv 1).1 (hv 1).2 c1 c3 c4 c5 e1 e3 e4 e5
                  · rw [e3, e4] at hS; subst hS
                    exact down_8 mode va acc bytes table v0 v1 t0 t1 n cap hm w b off p hlt hrd hn2 (hv 0).1 (hv 0).2 (hv 1).1 (hv 1).2 c1 c3 c4 c5 e1 e3 e4
                · rw [e3] at hS; subst hS
                  exact down_7 mode va acc bytes table v0 v1 t0 t1 n cap hm w b off p hlt hrd hn2 (hv 0).1 (hv 0).2 (hv 1).1 (hv 1).2 c1 c3 c4 c5 e1 e3
          · rw [c3, c4, c5] at hS; subst hS
            exact down_4 mode va acc bytes table v0 v1 t0 t1 n cap hm w b off p hlt hrd hn0 (hv 0).1 (hv 0).2 c1 c3 c4 c5
        · rw [c3, c4] at hS; subst hS
          exact down_3 mode va acc bytes table v0 v1 t0 t1 n cap hm w b off p hlt hrd hn0 (hv 0).1 (hv 0).2 c1 c3 c4
      · rw [c3] at hS; subst hS
        exact down_2 mode va acc bytes table v0 v1 t0 t1 n cap hm w b off p hlt hrd hn0 (hv 0).1 (hv 0).2 c1 c3

end Go.Proofs.Ytkcdkjmkgncihaa
