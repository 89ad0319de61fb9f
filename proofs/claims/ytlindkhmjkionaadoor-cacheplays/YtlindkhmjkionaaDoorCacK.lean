/- CacheSets: its law; what it keeps. -/
import Derived.Test.YtlindkhmjkionaaDoorCacJ
import Derived.Test.YtlindkhmjkionaaDoorSrtB
namespace Go.Proofs.YtlindkhmjkionaaDoor
open Go.ChangeShapes Go.WideShapes Go.ChangeAt Go.RowKit
set_option linter.unusedVariables false
set_option linter.unusedSimpArgs false
variable {n0 cb sb K : Nat} {ways : Int} {sv sv' sv'' : Nat → Value} {S S' : Nat → List W.En} {w w' w'' : World}

theorem nat_mask4 (x : Nat) : x &&& 15 = x % 16 := Nat.and_two_pow_sub_one_eq_mod x 4
theorem and15 (n : Int) : bits .and .i64 n 15 = n % 16 := by
  have h : ((BitVec.ofInt 64 n &&& BitVec.ofInt 64 15 : BitVec 64).toNat : Int) = n % 16 := by
    rw [BitVec.toNat_and]
    have h31 : (BitVec.ofInt 64 15).toNat = 15 := by decide
    rw [h31, nat_mask4, BitVec.toNat_ofInt]
    simp
    omega
  show IntKind.i64.wrap ((BitVec.ofInt 64 n &&& BitVec.ofInt 64 15 : BitVec 64).toNat : Int) = n % 16
  rw [h]
  exact IntWalk.i64_in _ (by omega)

theorem sameline_self (x0 x1 x2 x3 : Int) (w : World) : Calls Tryd.prog 28 #[.agg #[.int .u32 x0, .int .u32 x1, .int .u32 x2, .int .u32 x3], .agg #[.int .u32 x0, .int .u32 x1, .int .u32 x2, .int .u32 x3]] w fun e w' => e = .returned (.bool true) ∧ Below w.heap.size w w' := by
  have e0 : (x0 == x0) = true := by simp
  have e1 : (x1 == x1) = true := by simp
  have e2 : (x2 == x2) = true := by simp
  have e3 : (x3 == x3) = true := by simp
  have hB : Below w.heap.size w w := Below.refl _ _
  go_enter Tryd.func28, Tryd.ntmps28
  go_wp2
  go_ret
  exact ⟨rfl, (hB.alloc hB.size _).alloc (by simp) _⟩

namespace W
def md (i : Nat) (t : Int) : Bool := decide (t % 4 = (i : Int))
/-- The lines that are there, and the sets. -/
structure Ls (T : List Int) (S : Nat → List En) : Prop where
  up : Up1 T
  rg : ∀ t ∈ T, 0 ≤ t ∧ t ≤ 15
  pm : ∀ i, i < 4 → ((S i).map (·.l)).Perm (T.filter (md i))
theorem ix_mod (k : Int) (h : 0 ≤ k) : ((ix 4 k : Nat) : Int) = k % 4 := by
  unfold ix
  omega
theorem ins_perm (x : Int) : ∀ (l : List Int), x ∉ l → (ins x l).Perm (x :: l)
  | [], _ => List.Perm.refl _
  | y :: l, h => by
    have h1 : ¬ y = x := fun e => h (by simp [e])
    unfold ins
    split
    · exact (List.Perm.cons y (ins_perm x l (fun q => h (by simp [q])))).trans (List.Perm.swap x y l)
    · first | exact List.Perm.refl _ | (rw [if_neg h1])
theorem Ls.len {T : List Int} {S : Nat → List En} (h : Ls T S) (i : Nat) (hi : i < 4) : (S i).length = T.countP (md i) := by
  have := (h.pm i hi).length_eq
  rw [List.length_map, ← List.countP_eq_length_filter] at this
  exact this
theorem Ls.has {T : List Int} {S : Nat → List En} (h : Ls T S) (k : Int) (hk : 0 ≤ k) : W.has (S (ix 4 k)) k = decide (k ∈ T) := by
  rw [Bool.eq_iff_iff, W.has_iff, (h.pm _ (ix_lt (by decide) k)).mem_iff, List.mem_filter, decide_eq_true_iff]
  unfold md
  rw [ix_mod k hk]
  simp
theorem Ls.nd {T : List Int} {S : Nat → List En} (h : Ls T S) (i : Nat) (hi : i < 4) : ((S i).map (·.l)).Nodup := (h.pm i hi).nodup_iff.2 ((up_nodup h.up).filter _)
theorem countP4 (T : List Int) : T.countP (md 0) + T.countP (md 1) + T.countP (md 2) + T.countP (md 3) = T.length := by
  induction T with
  | nil => rfl
  | cons t T ih =>
    simp only [List.countP_cons, List.length_cons]
    have a0 : md 0 t = decide (t % 4 = 0) := rfl
    have a1 : md 1 t = decide (t % 4 = 1) := rfl
    have a2 : md 2 t = decide (t % 4 = 2) := rfl
    have a3 : md 3 t = decide (t % 4 = 3) := rfl
    have : t % 4 = 0 ∨ t % 4 = 1 ∨ t % 4 = 2 ∨ t % 4 = 3 := by omega
    rcases this with e | e | e | e <;> simp [a0, a1, a2, a3, e] <;> omega
theorem Ls.sum {T : List Int} {S : Nat → List En} (h : Ls T S) : sm S 4 = T.length := by
  unfold sm sm sm sm sm
  rw [h.len 0 (by decide), h.len 1 (by decide), h.len 2 (by decide), h.len 3 (by decide), ← countP4 T]
  omega
theorem filter_ins (i : Nat) (k : Int) (T : List Int) (hT : Up1 T) (h : md i k = false) : ((ins k T).filter (md i)).Perm (T.filter (md i)) := by
  by_cases hk : k ∈ T
  · rw [ins_in k T hT hk]
  · have := (ins_perm k T hk).filter (md i)
    rw [List.filter_cons_of_neg (by simp [h])] at this
    exact this
theorem Ls.step {T : List Int} {S : Nat → List En} (h : Ls T S) (e : En) (h0 : 0 ≤ e.l) (h15 : e.l ≤ 15) : Ls (ins e.l T) (updS S (ix 4 e.l) (lst (S (ix 4 e.l)) e)) := by
  refine ⟨ins_up _ _ h.up, fun t ht => ?_, fun i hi => ?_⟩
  · rcases (ins_mem _ _ _).1 ht with rfl | ht
    · exact ⟨h0, h15⟩
    · exact h.rg t ht
  · by_cases e1 : i = ix 4 e.l
    · subst e1
      rw [updS_same]
      unfold lst
      rw [List.map_append, drp_map]
      have hm : md (ix 4 e.l) e.l = true := by unfold md; rw [ix_mod _ h0]; simp
      have h1 : (((S (ix 4 e.l)).map (·.l)).erase e.l ++ [e].map (·.l)).Perm (e.l :: ((S (ix 4 e.l)).map (·.l)).erase e.l) := by
        have := List.perm_append_comm (l₁ := ((S (ix 4 e.l)).map (·.l)).erase e.l) (l₂ := [e].map (·.l))
        exact this
      refine h1.trans ?_
      have h2 := (h.pm _ hi).erase e.l
      refine (List.Perm.cons _ h2).trans ?_
      by_cases hk : e.l ∈ T
      · rw [ins_in _ T h.up hk]
        exact (List.perm_cons_erase (List.mem_filter.2 ⟨hk, hm⟩)).symm
      · rw [List.erase_of_not_mem (fun q => hk (List.mem_filter.1 q).1)]
        have := (ins_perm _ T hk).filter (md (ix 4 e.l))
        rw [List.filter_cons_of_pos hm] at this
        exact this.symm
    · rw [updS_other _ _ _ _ e1]
      have hm : md i e.l = false := by
        unfold md
        refine decide_eq_false (fun q => e1 ?_)
        have := ix_mod e.l h0
        omega
      exact (h.pm i hi).trans (filter_ins i e.l T h.up hm).symm
theorem gt_last {l : List En} {e : En} (h : (l.map (·.l)).Nodup) : gt (lst l e) e.l = e := by
  have hn : has (drp l e.l) e.l = false := by
    rw [Bool.eq_false_iff]
    intro q
    rw [has_iff, drp_map] at q
    exact (List.Nodup.not_mem_erase h) q
  unfold gt lst
  rw [fnd_mid (drp l e.l) [] e (has_false hn)]
  rfl
theorem has_last (l : List En) (e : En) : has (lst l e) e.l = true := has_mem (by simp [lst])
end W

/-- Other memory is written: the cache stays. -/
theorem Ct.othV (H : Ct n0 cb sb K ways sv S w) {r : Option Nat} (hg : w.grownBy w' r) (ha : ∀ g, r = some g → Apt sb K sv g ∧ g ≠ cb) : Ct n0 cb sb K ways sv S w' := by
  cases r with
  | none => exact ⟨H.b.grown hg (by simp), H.s.grown hg (by simp), fun i hi => (H.o i hi).kept hg (by cases e : (sv i).ownBlock <;> simp), H.cs, H.nc, H.ns, H.ap, H.n0c, H.n0s⟩
  | some g => exact H.oth hg (ha g rfl).1 (ha g rfl).2

/-- What CacheSets keeps as it goes. -/
structure Qs (w0 : World) (n0 cb sb : Nat) (T : List Int) (S : Nat → List W.En) (v : Value) (w : World) : Prop where
  c : ∃ sv, Ct n0 cb sb 4 2 sv S w ∧ ∀ g, v.ownBlock = some g → Apt sb 4 sv g ∧ g ≠ cb
  t : On w0.heap.size v T w
  b : Below w0.heap.size w0 w
  h0 : w0.heap.size ≤ n0
  l : W.Ls T S
theorem On.own {base : Nat} {v : Value} {l : List Int} (h : On base v l w) {g : Nat} (e : v.ownBlock = some g) : base ≤ g ∧ g < w.heap.size := by
  rcases h.form with ⟨rfl, _⟩ | ⟨g', cap, rfl, h1, h2, _⟩
  · cases e
  · have : g' = g := by simpa [Value.ownBlock] using e
    subst this
    exact ⟨h1, h2⟩
theorem Qs.below {w0 : World} {T : List Int} {v : Value} (h : Qs w0 n0 cb sb T S v w) (hb : Below w.heap.size w w') : Qs w0 n0 cb sb T S v w' :=
  ⟨by obtain ⟨s, h1, h2⟩ := h.c; exact ⟨s, h1.below hb, h2⟩, h.t.below hb, h.b.trans (hb.mono h.b.size), h.h0, h.l⟩
/-- A call on the cache: the list of lines stays as it lies. -/
theorem Qs.call {w0 : World} {T : List Int} {v : Value} (h : Qs w0 n0 cb sb T S v w) (sv sv' : Nat → Value) (hc : Ct n0 cb sb 4 2 sv S w) (ha : ∀ g, v.ownBlock = some g → Apt sb 4 sv g ∧ g ≠ cb) (hc' : Ct n0 cb sb 4 2 sv' S' w') (hu : Cu sb 4 sv sv' w w') :
    Ct n0 cb sb 4 2 sv' S' w' ∧ (∀ g, v.ownBlock = some g → Apt sb 4 sv' g ∧ g ≠ cb) ∧ On w0.heap.size v T w' ∧ Below w0.heap.size w0 w' := by
  refine ⟨hc', fun g e => ⟨hu.apt (h.t.own e).2 (ha g e).1, (ha g e).2⟩, ?_, h.b.trans (hu.below hc _ h.h0 h.b.size)⟩
  have hG := hu.g
  have HO : w.ownsRow w0.heap.size 3 1 v T.length (inX T) := h.t
  rcases HO.2 with ⟨h1, h2⟩ | ⟨g, cap, cur, h1, hbg, hg, hnc, hcm, hcs, htk⟩
  · exact ⟨HO.1, Or.inl ⟨h1, h2⟩⟩
  · refine ⟨HO.1, Or.inr ⟨g, cap, cur, h1, hbg, ?_, hnc, hcm, hcs, htk⟩⟩
    exact (hu.other (Array.getElem?_eq_some_iff.1 hg).1 (ha g (by rw [h1]; rfl)).1).trans hg
end Go.Proofs.YtlindkhmjkionaaDoor
