/- What a cache's lists keep. -/
import Derived.Test.YtlindkhmjkionaaDoorCatB
import Derived.Test.YtlindkhmjkionaaDoorCacSetsWalk
namespace Go.Proofs.YtlindkhmjkionaaDoor
set_option linter.unusedVariables false
set_option linter.unusedSimpArgs false
namespace W
def putS (K : Nat) (ways : Int) (S : Nat → List En) (e : En) : Nat → List En := if pt K ways S e = 0 then updS S (ix K e.l) (lst (S (ix K e.l)) e) else S
def useS (K : Nat) (S : Nat → List En) (x : Int) : Nat → List En := if x < 0 then S else updS S (ix K x) (use (S (ix K x)) x)
def drpS (K : Nat) (S : Nat → List En) (x : Int) : Nat → List En := if x < 0 then S else updS S (ix K x) (drp (S (ix K x)) x)
structure In (K : Nat) (ways : Int) (S : Nat → List En) : Prop where
  k0 : 0 < K
  k64 : K ≤ 64
  w1 : 1 ≤ ways
  w8 : ways ≤ 8
  len : ∀ i, i < K → ((S i).length : Int) ≤ ways
  ln : ∀ i, i < K → ∀ e ∈ S i, 0 ≤ e.l ∧ ix K e.l = i
  nd : ∀ i, i < K → ((S i).map (·.l)).Nodup
variable {K : Nat} {ways : Int} {S : Nat → List En}
theorem In.len8 (h : In K ways S) : ∀ i, i < K → (S i).length ≤ 8 := fun i hi => by have := h.len i hi; have := h.w8; omega
theorem In.len4 (h : In K ways S) : ∀ i, i < K → (S i).length ≤ 4096 := fun i hi => Nat.le_trans (h.len8 i hi) (by decide)
theorem In.upd (h : In K ways S) {i : Nat} {l : List En} (hl : (l.length : Int) ≤ ways) (hn : ∀ e ∈ l, 0 ≤ e.l ∧ ix K e.l = i) (hd : (l.map (·.l)).Nodup) : In K ways (updS S i l) := by
  refine ⟨h.k0, h.k64, h.w1, h.w8, fun j hj => ?_, fun j hj => ?_, fun j hj => ?_⟩
  all_goals
    unfold updS
    by_cases e : j = i
    · rw [if_pos e]
      first | exact hl | exact e ▸ hn | exact hd
    · rw [if_neg e]
      first | exact h.len j hj | exact h.ln j hj | exact h.nd j hj
theorem drp_sub (l : List En) (x : Int) : (drp l x).Sublist l := List.eraseP_sublist
theorem In.drp (h : In K ways S) (x : Int) : In K ways (drpS K S x) := by
  unfold drpS
  by_cases hx : x < 0
  · rw [if_pos hx]; exact h
  · rw [if_neg hx]
    have hi := ix_lt h.k0 x
    refine h.upd ?_ (fun e he => h.ln _ hi e ((drp_sub _ x).subset he)) ((h.nd _ hi).sublist ((drp_sub _ x).map _))
    have := drp_len (S (ix K x)) x
    have := h.len _ hi
    omega
theorem In.lst (h : In K ways S) (e : En) (h0 : 0 ≤ e.l) (hr : has (S (ix K e.l)) e.l = true ∨ ((S (ix K e.l)).length : Int) < ways) : In K ways (updS S (ix K e.l) (lst (S (ix K e.l)) e)) := by
  have hi := ix_lt h.k0 e.l
  refine h.upd ?_ (fun f hf => ?_) ?_
  · unfold W.lst
    rw [List.length_append, List.length_singleton]
    have h1 := drp_len (S (ix K e.l)) e.l
    have h2 := h.len _ hi
    rcases hr with hr | hr
    · have := drp_hit_len hr
      omega
    · omega
  · unfold W.lst at hf
    rcases List.mem_append.1 hf with hf | hf
    · exact h.ln _ hi f ((drp_sub _ _).subset hf)
    · simp at hf
      subst hf
      exact ⟨h0, rfl⟩
  · unfold W.lst
    rw [List.map_append, W.drp_map, List.nodup_append]
    refine ⟨(h.nd _ hi).erase _, by simp, fun a ha b hb q => ?_⟩
    simp at hb
    subst hb
    subst q
    exact (List.Nodup.not_mem_erase (h.nd _ hi)) ha
theorem In.put (h : In K ways S) (e : En) : In K ways (putS K ways S e) := by
  unfold putS
  by_cases q : pt K ways S e = 0
  · rw [if_pos q]
    unfold pt at q
    by_cases h1 : e.l < 0
    · rw [if_pos h1] at q; cases q
    · rw [if_neg h1] at q
      by_cases h2 : e.s < 1 ∨ 4 < e.s
      · rw [if_pos h2] at q; cases q
      · rw [if_neg h2] at q
        by_cases h3 : room K ways S e.l = false
        · rw [if_pos h3] at q; cases q
        · refine h.lst e (by omega) ?_
          have h4 : room K ways S e.l = true := by simpa using h3
          unfold room at h4
          rw [if_neg h1] at h4
          rcases Bool.or_eq_true_iff.1 h4 with h5 | h5
          · exact Or.inr (of_decide_eq_true h5)
          · exact Or.inl h5
  · rw [if_neg q]; exact h
theorem In.use (h : In K ways S) (x : Int) : In K ways (useS K S x) := by
  unfold useS
  by_cases hx : x < 0
  · rw [if_pos hx]; exact h
  · rw [if_neg hx]
    unfold W.use
    cases q : has (S (ix K x)) x
    · show In K ways (updS S (ix K x) (S (ix K x)))
      rw [updS_self]
      exact h
    · have hg := gt_line q
      have := h.lst (gt (S (ix K x)) x) (by rw [hg.1]; omega) (by rw [hg.1]; exact Or.inl q)
      rw [hg.1] at this
      exact this
theorem in_nil (K : Nat) (ways : Int) (k0 : 0 < K) (k64 : K ≤ 64) (w1 : 1 ≤ ways) (w8 : ways ≤ 8) : In K ways nilS := ⟨k0, k64, w1, w8, fun i hi => by show ((0 : Nat) : Int) ≤ ways; omega, fun i hi e he => (List.not_mem_nil he).elim, fun i hi => List.Pairwise.nil⟩
theorem mem_cat (S : Nat → List En) (e : En) : ∀ k, e ∈ cat S k ↔ ∃ i, i < k ∧ e ∈ S i
  | 0 => by simp [cat]
  | k + 1 => by
    unfold cat
    rw [List.mem_append, mem_cat S e k]
    constructor
    · rintro (⟨i, hi, h⟩ | h)
      · exact ⟨i, by omega, h⟩
      · exact ⟨k, by omega, h⟩
    · rintro ⟨i, hi, h⟩
      by_cases q : i = k
      · exact Or.inr (q ▸ h)
      · exact Or.inl ⟨i, by omega, h⟩
theorem In.cat_nd (h : In K ways S) : ∀ k, k ≤ K → ((cat S k).map (·.l)).Nodup
  | 0, _ => List.Pairwise.nil
  | k + 1, hk => by
    unfold cat
    rw [List.map_append, List.nodup_append]
    refine ⟨h.cat_nd k (by omega), h.nd k (by omega), fun a ha b hb q => ?_⟩
    obtain ⟨e, he, rfl⟩ := List.mem_map.1 ha
    obtain ⟨f, hf, rfl⟩ := List.mem_map.1 hb
    obtain ⟨i, hi, he⟩ := (mem_cat S e k).1 he
    have h1 := (h.ln i (by omega) e he).2
    have h2 := (h.ln k (by omega) f hf).2
    have q' : e.l = f.l := q
    rw [q', h2] at h1
    omega
theorem In.sm_le (h : In K ways S) : sm S K ≤ 512 := by
  have : ∀ k, k ≤ K → sm S k ≤ k * 8 := fun k => by
    induction k with
    | zero => intro _; exact Nat.le_refl _
    | succ k ih =>
      intro hk
      have := ih (by omega)
      have := h.len8 k (by omega)
      show sm S k + (S k).length ≤ (k + 1) * 8
      omega
  have := this K (Nat.le_refl _)
  have := h.k64
  omega
/-- What stands among all is what is found of its line. -/
theorem In.found (h : In K ways S) (e : En) (he : e ∈ cat S K) : gt (st K S e.l) e.l = e := by
  obtain ⟨i, hi, he⟩ := (mem_cat S e K).1 he
  obtain ⟨h0, h1⟩ := h.ln i hi e he
  unfold st
  rw [if_neg (by omega), h1]
  obtain ⟨L1, L2, hs⟩ := List.append_of_mem he
  have hn := h.nd i hi
  have h2 : ∀ f ∈ L1, f.l ≠ e.l := fun f hf q => by
    rw [hs, List.map_append, List.nodup_append] at hn
    exact hn.2.2 f.l (List.mem_map_of_mem hf) e.l (by simp) q
  unfold gt
  rw [hs, fnd_mid L1 L2 e h2]
  rfl
theorem all_srt (h : In K ways S) (Y : List En) (hp : Y.Perm (cat S K)) (hr : Y.Pairwise (fun x y => x.l ≤ y.l)) : srt ((cat S K).map (·.l)) = Y.map (·.l) := by
  refine up_eq _ _ (srt_up _) ?_ (fun y => ?_)
  · have hn : (Y.map (·.l)).Nodup := ((hp.map _).nodup_iff).2 (h.cat_nd K (Nat.le_refl _))
    have h1 : (Y.map (·.l)).Pairwise (· ≤ ·) := List.pairwise_map.2 hr
    exact (h1.and hn).imp (fun {a b} q => by have := q.1; have := q.2; omega)
  · rw [srt_mem]
    exact ((hp.map _).mem_iff).symm
end W
end Go.Proofs.YtlindkhmjkionaaDoor
