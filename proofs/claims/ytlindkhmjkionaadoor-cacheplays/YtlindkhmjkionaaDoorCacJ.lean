/- CacheOld: its law; what it keeps. -/
import Derived.Test.YtlindkhmjkionaaDoorCacI
namespace Go.Proofs.YtlindkhmjkionaaDoor
open Go.ChangeShapes Go.WideShapes Go.ChangeAt Go.RowKit
set_option linter.unusedVariables false
set_option linter.unusedSimpArgs false
variable {n0 cb sb K : Nat} {ways : Int} {sv sv' sv'' : Nat → Value} {S S' : Nat → List W.En} {w w' w'' : World}

/-- A block that is none of the cache's is written: the cache stays. -/
theorem Ct.oth (H : Ct n0 cb sb K ways sv S w) {b : Nat} (hg : w.grownBy w' (some b)) (ha : Apt sb K sv b) (hne : b ≠ cb) : Ct n0 cb sb K ways sv S w' :=
  ⟨H.b.grown hg (fun e => hne (by cases e; rfl)), H.s.grown hg (fun e => ha.1 (by cases e; rfl)), fun i hi => (H.o i hi).kept hg (by
    cases e : (sv i).ownBlock with
    | none => exact Or.inl rfl
    | some g => exact Or.inr (fun q => ha.2 i hi (by rw [e]; exact q))), H.cs, H.nc, H.ns, H.ap, H.n0c, H.n0s⟩
theorem Cu.bc {b n : Nat} {f : Nat → Value} (h : Cu sb K sv sv' w w') (hb : Bc b n f w) (ha : Apt sb K sv b) : Bc b n f w' := h.g.bc hb (fun e => by
  rcases e with e | ⟨i, hi, e⟩
  · exact ha.1 e
  · exact ha.2 i hi e)

def updI (R : Nat → Int) (k : Nat) (v : Int) : Nat → Int := fun j => if j = k then v else R j
def enk (k : Nat) : W.En := en2 (4 * (k : Int)) 1
def Os (ks : List Nat) : Nat → List W.En := fun i => if i = 0 then ks.map enk else []
theorem enk_l (k : Nat) : (enk k).l = 4 * (k : Int) := rfl
theorem ix4 (k : Nat) : W.ix 4 (4 * (k : Int)) = 0 := by
  unfold W.ix
  have : 4 * (k : Int) % ((4 : Nat) : Int) = 0 := by omega
  rw [this]
  rfl
theorem os_0 (ks : List Nat) : Os ks 0 = ks.map enk := rfl
theorem os_upd (ks js : List Nat) : W.updS (Os ks) 0 (js.map enk) = Os js := by
  funext i
  unfold W.updS Os
  by_cases h : i = 0 <;> simp [h]
theorem os_nil : Os [] = nilS := by
  funext i
  unfold Os nilS
  by_cases h : i = 0 <;> simp [h]
theorem has_map (ks : List Nat) (k : Nat) : W.has (ks.map enk) (4 * (k : Int)) = decide (k ∈ ks) := by
  rw [Bool.eq_iff_iff, W.has_iff, decide_eq_true_iff, List.map_map, List.mem_map]
  constructor
  · rintro ⟨j, h1, h2⟩
    have h3 : 4 * (j : Int) = 4 * (k : Int) := h2
    have : j = k := by omega
    exact this ▸ h1
  · intro h
    exact ⟨k, h, rfl⟩
theorem gt_map {ks : List Nat} {k : Nat} (h : k ∈ ks) : W.gt (ks.map enk) (4 * (k : Int)) = enk k := by
  have h1 := W.gt_line (l := ks.map enk) (x := 4 * (k : Int)) (by rw [has_map]; simpa using h)
  obtain ⟨j, hj, e⟩ := List.mem_map.1 h1.2
  have h2 := h1.1
  rw [← e, enk_l] at h2
  have : j = k := by omega
  rw [← e, this]
theorem drp_map (ks : List Nat) (k : Nat) : W.drp (ks.map enk) (4 * (k : Int)) = (ks.erase k).map enk := by
  unfold W.drp
  induction ks with
  | nil => rfl
  | cons j ks ih =>
    by_cases h : j = k
    · subst h
      rw [List.erase_cons_head, List.map_cons, List.eraseP_cons_of_pos (by simp [W.is, enk_l])]
    · rw [List.erase_cons_tail (by simpa using h), List.map_cons, List.map_cons, List.eraseP_cons_of_neg (by simp only [W.is, enk_l]; exact fun e => h (by have := of_decide_eq_true e; omega)), ih]
theorem lst_map (ks : List Nat) (k : Nat) : W.lst (ks.map enk) (enk k) = (ks.erase k ++ [k]).map enk := by
  unfold W.lst
  rw [enk_l, drp_map, List.map_append]
  rfl
theorem use_map {ks : List Nat} {k : Nat} (h : k ∈ ks) : W.use (ks.map enk) (4 * (k : Int)) = (ks.erase k ++ [k]).map enk := by
  unfold W.use
  rw [has_map, decide_eq_true h, gt_map h]
  exact lst_map ks k
/-- In the order of their last use. -/
structure Od (n : Nat) (la : Nat → Int) (v : Int) (ks : List Nat) : Prop where
  nd : ks.Nodup
  lt : ∀ k ∈ ks, k < n
  ri : ks.Pairwise (fun a b => la a < la b)
  top : ∀ k ∈ ks, la k < v
theorem Od.use {n : Nat} {la : Nat → Int} {v u : Int} {ks : List Nat} (h : Od n la v ks) (k : Nat) (hk : k < n) (hv : v ≤ u) : Od n (updI la k u) (u + 1) (ks.erase k ++ [k]) := by
  have hne : ∀ j ∈ ks.erase k, j ≠ k := fun j hj e => by subst e; exact (List.Nodup.not_mem_erase h.nd) hj
  have he : ∀ j ∈ ks.erase k, updI la k u j = la j := fun j hj => if_neg (hne j hj)
  refine ⟨?_, ?_, ?_, ?_⟩
  · rw [List.nodup_append]
    exact ⟨h.nd.erase k, by simp, fun a ha b hb e => hne a ha (by simp at hb; rw [e, hb])⟩
  · intro j hj
    rcases List.mem_append.1 hj with hj | hj
    · exact h.lt j (List.mem_of_mem_erase hj)
    · simp at hj; omega
  · rw [List.pairwise_append]
    refine ⟨?_, by simp, fun a ha b hb => ?_⟩
    · refine List.Pairwise.imp_of_mem (fun {a b} ha hb hab => ?_) (h.ri.sublist List.erase_sublist)
      rw [he a ha, he b hb]
      exact hab
    · simp at hb
      subst hb
      rw [he a ha]
      have e1 : updI la b u b = u := if_pos rfl
      rw [e1]
      have := h.top a (List.mem_of_mem_erase ha)
      omega
  · intro j hj
    rcases List.mem_append.1 hj with hj | hj
    · rw [he j hj]
      have := h.top j (List.mem_of_mem_erase hj)
      omega
    · simp at hj
      subst hj
      have e1 : updI la j u j = u := if_pos rfl
      rw [e1]
      omega
theorem Od.head {n : Nat} {la : Nat → Int} {v : Int} {k : Nat} {ks : List Nat} (h : Od n la v (k :: ks)) (i : Nat) (hi : i ∈ k :: ks) : la k ≤ la i := by
  rcases List.mem_cons.1 hi with rfl | hi
  · exact Int.le_refl _
  · exact Int.le_of_lt ((List.pairwise_cons.1 h.ri).1 i hi)
theorem Od.tail {n : Nat} {la : Nat → Int} {v : Int} {k : Nat} {ks : List Nat} (h : Od n la v (k :: ks)) : Od n la v ks :=
  ⟨(List.nodup_cons.1 h.nd).2, fun j hj => h.lt j (List.mem_cons_of_mem _ hj), (List.pairwise_cons.1 h.ri).2, fun j hj => h.top j (List.mem_cons_of_mem _ hj)⟩
/-- What CacheOld keeps as it goes. -/
structure Qo (w0 : World) (n0 cb sb lb n : Nat) (ks : List Nat) (la : Nat → Int) (v : Int) (w : World) : Prop where
  c : ∃ sv, Ct n0 cb sb 4 n sv (Os ks) w ∧ Apt sb 4 sv lb
  l : Bc lb n (fun j => .int .i64 (la j)) w
  b : Below w0.heap.size w0 w
  o : Od n la v ks
  h0 : w0.heap.size ≤ n0
  hl : w0.heap.size ≤ lb
  lc : lb ≠ cb
theorem Qo.below {w0 : World} {lb n : Nat} {ks : List Nat} {la : Nat → Int} {v : Int} (h : Qo w0 n0 cb sb lb n ks la v w) (hb : Below w.heap.size w w') : Qo w0 n0 cb sb lb n ks la v w' :=
  ⟨by obtain ⟨s, h1, h2⟩ := h.c; exact ⟨s, h1.below hb, h2⟩, h.l.below hb, h.b.trans (hb.mono h.b.size), h.o, h.h0, h.hl, h.lc⟩
theorem Qo.call {w0 : World} {lb n : Nat} {ks js : List Nat} {la : Nat → Int} {v v' : Int} (h : Qo w0 n0 cb sb lb n ks la v w) (sv sv' : Nat → Value) (hc : Ct n0 cb sb 4 n sv (Os ks) w) (ha : Apt sb 4 sv lb) (hc' : Ct n0 cb sb 4 n sv' (Os js) w') (hu : Cu sb 4 sv sv' w w') (ho : Od n la v' js) : Qo w0 n0 cb sb lb n js la v' w' :=
  ⟨⟨sv', hc', hu.apt h.l.lt ha⟩, hu.bc h.l ha, h.b.trans (hu.below hc _ h.h0 h.b.size), ho, h.h0, h.hl, h.lc⟩
theorem os_len {ks : List Nat} (h : ks.length ≤ 8) : ∀ i, i < 4 → (Os ks i).length ≤ 4096 := fun i _ => by
  unfold Os
  by_cases e : i = 0
  · rw [if_pos e, List.length_map]; omega
  · rw [if_neg e]; simp
theorem W.tdiv4 (k : Nat) : (4 * (k : Int)).tdiv 4 = k := Int.mul_tdiv_cancel_left _ (by decide)
theorem number_eq (n m : Int) (m0 : 0 < m) (m1 : m < 2147483648) : (wrap64 (n.tmod m + m)).tmod m = n % m := by
  have h0 := Int.emod_nonneg n (by omega : m ≠ 0)
  have h1 := Int.emod_lt_of_pos n m0
  have ht : n.tmod m = n % m ∨ n.tmod m = n % m - m := by
    rw [Int.tmod_eq_emod]
    split
    · left; omega
    · right; omega
  have hw : wrap64 (n.tmod m + m) = n.tmod m + m := by
    unfold wrap64
    omega
  rw [hw]
  rcases ht with h | h
  · rw [h, Int.tmod_eq_emod_of_nonneg (by omega), Int.add_emod_right, Int.emod_emod]
  · rw [h, Int.sub_add_cancel, Int.tmod_eq_emod_of_nonneg h0, Int.emod_emod]
set_option maxRecDepth 10000 in
set_option maxHeartbeats 1600000 in
theorem number_any (n m : Int) (n0 : -9223372036854775808 ≤ n) (n1 : n ≤ 9223372036854775807) (m0 : 0 < m) (m1 : m < 2147483648) (w : World) : Calls Tryd.prog 26 #[.int .i64 n, .int .i64 m] w fun z w' => z = .returned (.int .i64 (n % m)) ∧ w = w' := by
  have hm : ¬ m = 0 := by omega
  go_enter Tryd.func26, Tryd.ntmps26
  go_wp2
  go_ret
  refine ⟨ret_int (number_eq n m m0 m1), rfl⟩
end Go.Proofs.YtlindkhmjkionaaDoor
