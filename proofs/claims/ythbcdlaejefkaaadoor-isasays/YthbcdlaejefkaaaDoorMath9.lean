/- Reading what was laid, and laying what was read: the two ways. -/
import Derived.Test.YthbcdlaejefkaaaDoorMath8
namespace Go.Proofs.YthbcdlaejefkaaaDoor.W
open Go.RowKit
set_option linter.unusedVariables false
set_option linter.unusedSimpArgs false

theorem lone_placed (v low n : Int) : lone v low n = placed v low n := by
  have h := placed_lt v low n
  have := pack_succ (fun _ => low) (fun _ => n) (fun _ => v) 0 (by simp [pack]) (by simp [pack])
  unfold lone
  rw [← this]
  exact zero_or _ h.1 h.2
/-- An immediate that has room lies under its own bits. -/
theorem layV_mask (f v : Int) (hf : isF f) (hb : layB f v = true) (p : Nat) (hp : p < 32) : tb (layV f v) p = (tb (layV f v) p && tb (mask f) p) := by
  have e1 : layV f v = layw f v := by simp [layV, hb]
  have e2 : imm f (layw f v) = v := by
    have : (wid f == 0) = false ∧ imm f (layw f v) = v := by simpa [layB] using hb
    exact this.2
  have hl := raw_lt (pI f) (pW f) (pN f) v 4
  have hm := mask_lt f
  have := congrArg (fun z => tb z p) (lay_imm f (layw f v) hf hl.1 hl.2)
  rw [e2] at this
  rw [e1]
  exact this.trans (tb_and _ _ p hl.1 hl.2 hm.1 hm.2)
theorem layIB_back {s : Sh} {v : Int} (hb : layIB s v = true) (hi : hasImm s = true) : immS s (layIV s v) = v := by
  unfold layIB at hb
  rw [hi, cond_true] at hb
  unfold layIV
  rw [hi, cond_true]
  cases hz : decide (0 < s.size)
  · rw [hz, cond_false] at hb
    simp only [cond_false]
    have e1 : layV s.fmt v = layw s.fmt v := by simp [layV, hb]
    have e2 : imm s.fmt (layw s.fmt v) = v := by
      have : (wid s.fmt == 0) = false ∧ imm s.fmt (layw s.fmt v) = v := by simpa [layB] using hb
      exact this.2
    rw [e1, immS, hz]
    exact e2
  · rw [hz, cond_true] at hb
    simpa using hb

/-- Only the fields that are used are laid. -/
theorem part_cov {s : Sh} {i : I} (hf : okF s = true) (hr : InR i) (hs : same (only s i) i = true) (hb : layIB s i.imm = true) (j p : Nat) (hj : j < 7) (hp : p < 32) (h : tb (part s i j) p = true) : cov s j p = true := by
  have hs' : (bif s.rd then i.rd else 0) = i.rd ∧ (bif s.rs1 then i.rs1 else 0) = i.rs1 ∧ (bif s.rs2 then i.rs2 else 0) = i.rs2 ∧ (bif s.csr then i.csr else 0) = i.csr ∧ (bif hasImm s then i.imm else 0) = i.imm ∧ (s.ord && i.aq) = i.aq ∧ (s.ord && i.rl) = i.rl := by
    simpa [same, only] using hs
  obtain ⟨q0, q1, q2, q3, q4, q5, q6⟩ := hs'
  have hr1 := hr.rd1; have hr0 := hr.rd0; have hr2 := hr.rs10; have hr3 := hr.rs11; have hr4 := hr.rs20; have hr5 := hr.rs21; have hr6 := hr.csr0; have hr7 := hr.csr1
  match j, hj with
  | 0, _ =>
    have h' : tb (placed i.rd (7 : Nat) (5 : Nat)) p = true := h
    rw [tb_field i.rd 7 5 p hr0 (by omega) (by omega) (by omega) (by omega) hp] at h'
    simp only [Bool.and_eq_true, decide_eq_true_eq] at h'
    cases hd : s.rd
    · rw [hd, cond_false] at q0; rw [← q0, tb_zero] at h'; exact absurd h'.2 (by simp)
    · simp [cov, hd]; omega
  | 1, _ =>
    have h' : tb (placed i.rs1 (15 : Nat) (5 : Nat)) p = true := h
    rw [tb_field i.rs1 15 5 p hr2 (by omega) (by omega) (by omega) (by omega) hp] at h'
    simp only [Bool.and_eq_true, decide_eq_true_eq] at h'
    cases hd : s.rs1
    · rw [hd, cond_false] at q1; rw [← q1, tb_zero] at h'; exact absurd h'.2 (by simp)
    · simp [cov, hd]; omega
  | 2, _ =>
    have h' : tb (placed i.rs2 (20 : Nat) (5 : Nat)) p = true := h
    rw [tb_field i.rs2 20 5 p hr4 (by omega) (by omega) (by omega) (by omega) hp] at h'
    simp only [Bool.and_eq_true, decide_eq_true_eq] at h'
    cases hd : s.rs2
    · rw [hd, cond_false] at q2; rw [← q2, tb_zero] at h'; exact absurd h'.2 (by simp)
    · simp [cov, hd]; omega
  | 3, _ =>
    have h' : tb (placed i.csr (20 : Nat) (12 : Nat)) p = true := h
    rw [tb_field i.csr 20 12 p hr6 (by omega) (by omega) (by omega) (by omega) hp] at h'
    simp only [Bool.and_eq_true, decide_eq_true_eq] at h'
    cases hd : s.csr
    · rw [hd, cond_false] at q3; rw [← q3, tb_zero] at h'; exact absurd h'.2 (by simp)
    · simp [cov, hd]; omega
  | 4, _ =>
    have h' : tb (placed (one i.aq) (26 : Nat) (1 : Nat)) p = true := h
    rw [tb_field (one i.aq) 26 1 p (one_lt _).1 (by have := (one_lt i.aq).2; omega) (by omega) (by omega) (by omega) hp] at h'
    simp only [Bool.and_eq_true, decide_eq_true_eq] at h'
    cases hd : s.ord
    · rw [hd] at q5; simp at q5; rw [q5] at h'; exact absurd h'.2 (by simp [one, tb_zero])
    · simp [cov, hd]; omega
  | 5, _ =>
    have h' : tb (placed (one i.rl) (25 : Nat) (1 : Nat)) p = true := h
    rw [tb_field (one i.rl) 25 1 p (one_lt _).1 (by have := (one_lt i.rl).2; omega) (by omega) (by omega) (by omega) hp] at h'
    simp only [Bool.and_eq_true, decide_eq_true_eq] at h'
    cases hd : s.ord
    · rw [hd] at q6; simp at q6; rw [q6] at h'; exact absurd h'.2 (by simp [one, tb_zero])
    · simp [cov, hd]; omega
  | 6, _ =>
    have h' : tb (layIV s i.imm) p = true := h
    unfold layIV at h'
    unfold layIB at hb
    cases hi : hasImm s
    · rw [hi, cond_false, tb_zero] at h'; cases h'
    · rw [hi, cond_true] at h' hb
      show (bif decide (0 < s.size) then decide (s.low.toNat ≤ p ∧ p - s.low.toNat < s.size.toNat) else bif s.fmt != 0 then tb (mask s.fmt) p else false) = true
      rcases okF_cases hf with ⟨z, hfm⟩ | ⟨z, c1, c2, c3, c4, c5⟩
      · have hz : decide (0 < s.size) = false := by simp [z]
        rw [hz, cond_false] at h' hb ⊢
        have hfm : isF s.fmt := by
          rcases hfm with e | e
          · simp [hasImm, hasI, e, z] at hi
          · exact e
        have hne : (s.fmt != 0) = true := by simpa using isF_ne hfm
        rw [hne, cond_true]
        have := layV_mask s.fmt i.imm hfm hb p hp
        rw [h'] at this
        simpa using this.symm
      · have hz : decide (0 < s.size) = true := by simp [c1]
        rw [hz, cond_true] at h' ⊢
        rw [lone_placed] at h'
        by_cases hv : 0 ≤ i.imm ∧ i.imm < 4294967296
        · rw [tb_placed _ _ _ p hv.1 hv.2 c3 c4 (by omega) hp] at h'
          simp only [Bool.and_eq_true, decide_eq_true_eq] at h' ⊢
          omega
        · exfalso
          rw [hz, cond_true] at hb
          have hb' : immS s (lone i.imm s.low s.size) = i.imm := by simpa using hb
          have : 0 ≤ immS s (lone i.imm s.low s.size) ∧ immS s (lone i.imm s.low s.size) < 4294967296 := by
            unfold immS; rw [hz]; exact bitsOf_lt _ _ _
          rw [hb'] at this
          exact hv this
theorem encW_fixed {k : Nat} {i : I} (hk : Ok k) (hr : InR i) (hs : same (only (shp k) i) i = true) (hb : layIB (shp k) i.imm = true) (p : Nat) (hp : p < 32) (h : tb (shp k).fixed p = true) : tb (encW (code k) (shp k) i) p = tb (code k) p := by
  rw [tb_encW _ _ _ hk.c0 hk.c1 hr p hp]
  have ha := hk.all p hp
  rw [h, Bool.not_true] at ha
  have : ((List.range 7).any fun j => tb (part (shp k) i j) p) = false := by
    rw [List.any_eq_false] at ha ⊢
    intro j hj ht
    exact ha j hj (part_cov hk.fmt hr hs hb j p (List.mem_range.1 hj) hp ht)
  rw [this, Bool.or_false]
theorem encW_cov {k : Nat} {i : I} (hk : Ok k) (hr : InR i) (hs : same (only (shp k) i) i = true) (hb : layIB (shp k) i.imm = true) (j p : Nat) (hj : j < 7) (hp : p < 32) (h : cov (shp k) j p = true) : tb (encW (code k) (shp k) i) p = tb (part (shp k) i j) p := by
  rw [tb_encW _ _ _ hk.c0 hk.c1 hr p hp]
  have ha := hk.all p hp
  have hany : ((List.range 7).any fun j => cov (shp k) j p) = true := List.any_eq_true.2 ⟨j, List.mem_range.2 hj, h⟩
  rw [hany] at ha
  have hfx : tb (shp k).fixed p = false := by simpa using ha.symm
  have hc : tb (code k) p = false := by
    cases hc : tb (code k) p
    · rfl
    · have := hk.sub p hp hc; rw [hfx] at this; cases this
  rw [hc, Bool.false_or]
  cases ht : tb (part (shp k) i j) p
  · rw [List.any_eq_false]
    intro j' hj' ht'
    have := hk.one p j j' hp hj (List.mem_range.1 hj') h (part_cov hk.fmt hr hs hb j' p (List.mem_range.1 hj') hp ht')
    subst this
    rw [ht] at ht'; cases ht'
  · exact List.any_eq_true.2 ⟨j, List.mem_range.2 hj, ht⟩
theorem encW_lt (c : Int) (s : Sh) (i : I) : 0 ≤ encW c s i ∧ encW c s i < 4294967296 := or_lt _ _
theorem encW_hit {k : Nat} {i : I} (hk : Ok k) (hr : InR i) (hs : same (only (shp k) i) i = true) (hb : layIB (shp k) i.imm = true) : hit (encW (code k) (shp k) i) k = true := by
  have hl := encW_lt (code k) (shp k) i
  refine hit_of hk hl.1 hl.2 fun p hp => ?_
  cases h : tb (shp k).fixed p
  · cases hc : tb (code k) p
    · simp
    · have := hk.sub p hp hc; rw [h] at this; cases this
  · rw [encW_fixed hk hr hs hb p hp h]; simp
end Go.Proofs.YthbcdlaejefkaaaDoor.W
