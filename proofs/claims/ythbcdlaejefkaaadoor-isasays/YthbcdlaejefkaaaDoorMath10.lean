/- Decode of Encode is the instruction; Encode of Decode is the word. -/
import Derived.Test.YthbcdlaejefkaaaDoorMath9
namespace Go.Proofs.YthbcdlaejefkaaaDoor.W
open Go.RowKit
set_option linter.unusedVariables false
set_option linter.unusedSimpArgs false

theorem encE_zero {i : I} (h : encE i = 0) : known i.op = true ∧ layIB (shp i.op) i.imm = true ∧ inRange i = true ∧ same (only (shp i.op) i) i = true := by
  unfold encE at h
  cases h1 : known i.op
  · simp [h1] at h
  cases h2 : layIB (shp i.op) i.imm
  · simp [h1, h2] at h
  cases h3 : inRange i
  · simp [h1, h2, h3] at h
  cases h4 : same (only (shp i.op) i) i
  · simp [h1, h2, h3, h4] at h
  exact ⟨rfl, rfl, rfl, rfl⟩
theorem encV_none {i : I} (h : ¬ encE i = 0) : encV i = 0 := by
  unfold encV
  have : (encE i == 0) = false := by simpa using h
  rw [this]; rfl
theorem known_nat {op : Int} (h : known op = true) : ∃ k : Nat, op = k ∧ 1 ≤ k ∧ k ≤ 69 := by
  have h' : 1 ≤ op ∧ op ≤ 69 := by simpa [known, fr] using h
  exact ⟨op.toNat, by omega, by omega, by omega⟩
theorem I_ext {a b : I} (h0 : a.op = b.op) (h1 : a.rd = b.rd) (h2 : a.rs1 = b.rs1) (h3 : a.rs2 = b.rs2) (h4 : a.csr = b.csr) (h5 : a.imm = b.imm) (h6 : a.aq = b.aq) (h7 : a.rl = b.rl) : a = b := by
  cases a; cases b; simp_all

/-- Reading what was laid. -/
theorem read_enc {k : Nat} {i : I} (hk : Ok k) (ho : i.op = k) (hr : InR i) (hs : same (only (shp k) i) i = true) (hb : layIB (shp k) i.imm = true) : read (shp k) k (encW (code k) (shp k) i) = i := by
  have hl := encW_lt (code k) (shp k) i
  have hc := encW_cov hk hr hs hb
  have hs' : (bif (shp k).rd then i.rd else 0) = i.rd ∧ (bif (shp k).rs1 then i.rs1 else 0) = i.rs1 ∧ (bif (shp k).rs2 then i.rs2 else 0) = i.rs2 ∧ (bif (shp k).csr then i.csr else 0) = i.csr ∧ (bif hasImm (shp k) then i.imm else 0) = i.imm ∧ ((shp k).ord && i.aq) = i.aq ∧ ((shp k).ord && i.rl) = i.rl := by
    simpa [same, only] using hs
  obtain ⟨q0, q1, q2, q3, q4, q5, q6⟩ := hs'
  have hr1 := hr.rd1; have hr0 := hr.rd0; have hr2 := hr.rs10; have hr3 := hr.rs11; have hr4 := hr.rs20; have hr5 := hr.rs21; have hr6 := hr.csr0; have hr7 := hr.csr1
  generalize hV : encW (code k) (shp k) i = V at *
  refine I_ext (by show (k : Int) = i.op; rw [ho]) ?_ ?_ ?_ ?_ ?_ ?_ ?_
  · show (bif (shp k).rd then bitsOf V 7 5 else 0) = i.rd
    cases hd : (shp k).rd
    · rw [hd] at q0; exact q0
    · exact field_back V i.rd 7 5 hl.1 hl.2 hr0 (by show i.rd < 32; omega) (by omega) (by omega) fun p h1 h2 => hc 0 p (by omega) (by omega) (by simp [cov, hd]; omega)
  · show (bif (shp k).rs1 then bitsOf V 15 5 else 0) = i.rs1
    cases hd : (shp k).rs1
    · rw [hd] at q1; exact q1
    · exact field_back V i.rs1 15 5 hl.1 hl.2 hr2 (by show i.rs1 < 32; omega) (by omega) (by omega) fun p h1 h2 => hc 1 p (by omega) (by omega) (by simp [cov, hd]; omega)
  · show (bif (shp k).rs2 then bitsOf V 20 5 else 0) = i.rs2
    cases hd : (shp k).rs2
    · rw [hd] at q2; exact q2
    · exact field_back V i.rs2 20 5 hl.1 hl.2 hr4 (by show i.rs2 < 32; omega) (by omega) (by omega) fun p h1 h2 => hc 2 p (by omega) (by omega) (by simp [cov, hd]; omega)
  · show (bif (shp k).csr then bitsOf V 20 12 else 0) = i.csr
    cases hd : (shp k).csr
    · rw [hd] at q3; exact q3
    · exact field_back V i.csr 20 12 hl.1 hl.2 hr6 (by show i.csr < 4096; omega) (by omega) (by omega) fun p h1 h2 => hc 3 p (by omega) (by omega) (by simp [cov, hd]; omega)
  · show (bif hasImm (shp k) then immS (shp k) V else 0) = i.imm
    cases hd : hasImm (shp k)
    · rw [hd] at q4; exact q4
    · rw [cond_true]
      have hback := layIB_back hb hd
      have h6 : ∀ p, p < 32 → cov (shp k) 6 p = true → tb V p = tb (layIV (shp k) i.imm) p := fun p hp h => hc 6 p (by omega) hp h
      have hiv := layIV_lt (shp k) i.imm
      refine Eq.trans ?_ hback
      rcases okF_cases hk.fmt with ⟨z, hfm⟩ | ⟨z, c1, c2, c3, c4, c5⟩
      · have hz : decide (0 < (shp k).size) = false := by simp [z]
        have hfm : isF (shp k).fmt := by
          rcases hfm with e | e
          · simp [hasImm, hasI, e, z] at hd
          · exact e
        have hne : ((shp k).fmt != 0) = true := by simpa using isF_ne hfm
        unfold immS
        rw [hz, cond_false, cond_false]
        have ha := imm_lt (shp k).fmt V
        have hb' := imm_lt (shp k).fmt (layIV (shp k) i.imm)
        refine eq_of_tb _ _ ha.1 ha.2 hb'.1 hb'.2 fun p hp => ?_
        obtain ⟨d1, d2, d3, d4⟩ := check_at (shp k).fmt hfm p hp
        rw [tb_imm _ _ p hfm hl.1 hl.2 hp, tb_imm _ _ p hfm hiv.1 hiv.2 hp]
        refine any_congr' fun q hq => h6 q (d3 q hq).1 ?_
        show (bif decide (0 < (shp k).size) then _ else bif (shp k).fmt != 0 then tb (mask (shp k).fmt) q else false) = true
        rw [hz, hne]
        exact (d3 q hq).2
      · have hz : decide (0 < (shp k).size) = true := by simp [c1]
        unfold immS
        rw [hz, cond_true, cond_true]
        refine bitsOf_ext _ _ _ _ hl.1 hl.2 hiv.1 hiv.2 c3 c4 (by omega) fun p h1 h2 h3 => h6 p h2 ?_
        show (bif decide (0 < (shp k).size) then decide ((shp k).low.toNat ≤ p ∧ p - (shp k).low.toNat < (shp k).size.toNat) else _) = true
        rw [hz, cond_true]
        simp only [decide_eq_true_eq]
        omega
  · show ((shp k).ord && (bitsOf V 26 1 == 1)) = i.aq
    cases hd : (shp k).ord
    · rw [hd] at q5; exact q5
    · have : bitsOf V 26 1 = one i.aq := field_back V (one i.aq) 26 1 hl.1 hl.2 (one_lt _).1 (one_lt _).2 (by omega) (by omega) fun p h1 h2 => hc 4 p (by omega) (by omega) (by simp [cov, hd]; omega)
      rw [this, one_eq]; rfl
  · show ((shp k).ord && (bitsOf V 25 1 == 1)) = i.rl
    cases hd : (shp k).ord
    · rw [hd] at q6; exact q6
    · have : bitsOf V 25 1 = one i.rl := field_back V (one i.rl) 25 1 hl.1 hl.2 (one_lt _).1 (one_lt _).2 (by omega) (by omega) fun p h1 h2 => hc 5 p (by omega) (by omega) (by simp [cov, hd]; omega)
      rw [this, one_eq]; rfl
theorem dec_enc {i : I} (h : encE i = 0) : decB (encV i) = true ∧ decI (encV i) = i := by
  obtain ⟨h1, h2, h3, h4⟩ := encE_zero h
  obtain ⟨k, ho, k1, k2⟩ := known_nat h1
  have hk := ok_at k k1 k2
  rw [ho] at h2 h4
  have hr := inR_of h3
  have hv : encV i = encW (code k) (shp k) i := by
    unfold encV encW
    rw [h, ho]; rfl
  have hl := encW_lt (code k) (shp k) i
  have hd : dec (encV i) = k := by rw [hv]; exact dec_eq k1 k2 hl.1 hl.2 (encW_hit hk hr h4 h2)
  refine ⟨?_, ?_⟩
  · rw [decB, hd]; simp; omega
  · rw [decI, hd, hv]; exact read_enc hk ho hr h4 h2
theorem same_refl (i : I) : same i i = true := by simp [same]
end Go.Proofs.YthbcdlaejefkaaaDoor.W
