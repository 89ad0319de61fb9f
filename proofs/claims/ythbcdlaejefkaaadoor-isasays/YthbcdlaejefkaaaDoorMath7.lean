/- Laws of the mirrors of isa: which bit of a word is whose; reading and laying are each other's way back. -/
import Derived.Test.YthbcdlaejefkaaaDoorPlainI
namespace Go.Proofs.YthbcdlaejefkaaaDoor.W
open Go.RowKit
set_option linter.unusedVariables false
set_option linter.unusedSimpArgs false

/-- Does field j of shape s cover bit p? -/
def cov (s : Sh) (j p : Nat) : Bool :=
  match j with
  | 0 => s.rd && decide (7 ≤ p ∧ p < 12)
  | 1 => s.rs1 && decide (15 ≤ p ∧ p < 20)
  | 2 => s.rs2 && decide (20 ≤ p ∧ p < 25)
  | 3 => s.csr && decide (20 ≤ p ∧ p < 32)
  | 4 => s.ord && decide (p = 26)
  | 5 => s.ord && decide (p = 25)
  | _ => bif decide (0 < s.size) then decide (s.low.toNat ≤ p ∧ p - s.low.toNat < s.size.toNat) else bif s.fmt != 0 then tb (mask s.fmt) p else false
/-- Field j, laid. -/
def part (s : Sh) (i : I) (j : Nat) : Int :=
  match j with
  | 0 => placed i.rd 7 5
  | 1 => placed i.rs1 15 5
  | 2 => placed i.rs2 20 5
  | 3 => placed i.csr 20 12
  | 4 => placed (one i.aq) 26 1
  | 5 => placed (one i.rl) 25 1
  | _ => layIV s i.imm
def okF (s : Sh) : Bool := ((s.size == 0) && (s.fmt == 0 || s.fmt == 73 || s.fmt == 83 || s.fmt == 66 || s.fmt == 85 || s.fmt == 74)) || ((s.fmt == 0) && decide (0 < s.size ∧ s.size ≤ 12 ∧ 0 ≤ s.low ∧ s.low ≤ 31 ∧ s.low + s.size ≤ 32))
def okK (k : Nat) : Bool :=
  decide (0 ≤ code k ∧ code k < 4294967296 ∧ 0 ≤ (shp k).fixed ∧ (shp k).fixed < 4294967296) && okF (shp k) && decide (127 = bits .and .u32 127 (shp k).fixed) &&
  (List.range 32).all fun p => (!tb (code k) p || tb (shp k).fixed p) && (((List.range 7).any fun j => cov (shp k) j p) == !tb (shp k).fixed p) &&
    (List.range 7).all fun j => (List.range 7).all fun j' => !(cov (shp k) j p && cov (shp k) j' p) || (j == j')
theorem okAll : ((List.range 70).all fun k => (k == 0) || okK k) = true := by decide +kernel
def clash (j k : Nat) : Bool := (j == k) || !((code j).toNat &&& (shp k).fixed.toNat == (code k).toNat &&& (shp j).fixed.toNat)
theorem clashAll : ((List.range 70).all fun j => (List.range 70).all fun k => (j == 0) || (k == 0) || clash j k) = true := by decide +kernel

structure Ok (k : Nat) : Prop where
  c0 : 0 ≤ code k
  c1 : code k < 4294967296
  f0 : 0 ≤ (shp k).fixed
  f1 : (shp k).fixed < 4294967296
  fmt : okF (shp k) = true
  op : 127 = bits .and .u32 127 (shp k).fixed
  sub : ∀ p, p < 32 → tb (code k) p = true → tb (shp k).fixed p = true
  all : ∀ p, p < 32 → ((List.range 7).any fun j => cov (shp k) j p) = !tb (shp k).fixed p
  one : ∀ p j j', p < 32 → j < 7 → j' < 7 → cov (shp k) j p = true → cov (shp k) j' p = true → j = j'
theorem ok_at (k : Nat) (h1 : 1 ≤ k) (h2 : k ≤ 69) : Ok k := by
  have h := List.all_eq_true.1 okAll k (List.mem_range.2 (by omega))
  have hk : (k == 0) = false := by simp; omega
  rw [hk, Bool.false_or, okK, Bool.and_eq_true, Bool.and_eq_true, Bool.and_eq_true] at h
  obtain ⟨⟨⟨h0, hf⟩, ho⟩, ha⟩ := h
  obtain ⟨a, b, c, d⟩ := of_decide_eq_true h0
  have hp : ∀ p, p < 32 → _ := fun p hp => List.all_eq_true.1 ha p (List.mem_range.2 hp)
  refine ⟨a, b, c, d, hf, of_decide_eq_true ho, fun p hp' ht => ?_, fun p hp' => ?_, fun p j j' hp' hj hj' c1 c2 => ?_⟩
  · have := hp p hp'
    rw [Bool.and_eq_true, Bool.and_eq_true] at this
    simpa [ht] using this.1.1
  · have := hp p hp'
    rw [Bool.and_eq_true, Bool.and_eq_true] at this
    simpa using this.1.2
  · have := hp p hp'
    rw [Bool.and_eq_true, Bool.and_eq_true] at this
    have := List.all_eq_true.1 this.2 j (List.mem_range.2 hj)
    have := List.all_eq_true.1 this j' (List.mem_range.2 hj')
    simpa [c1, c2] using this

/-- A word has what op's words have in common, bit by bit. -/
theorem hit_tb {x : Int} {k : Nat} (hk : Ok k) (x0 : 0 ≤ x) (x1 : x < 4294967296) (h : hit x k = true) : ∀ p, p < 32 → tb (code k) p = (tb x p && tb (shp k).fixed p) := by
  intro p hp
  have h2 : bits .and .u32 x (shp k).fixed = code k := by
    simp [hit] at h
    exact h.2
  rw [← h2, tb_and _ _ p x0 x1 hk.f0 hk.f1]
theorem hit_of {x : Int} {k : Nat} (hk : Ok k) (x0 : 0 ≤ x) (x1 : x < 4294967296) (h : ∀ p, p < 32 → tb (code k) p = (tb x p && tb (shp k).fixed p)) : hit x k = true := by
  have e : bits .and .u32 x (shp k).fixed = code k := by
    have ha := and_lt x (shp k).fixed
    exact eq_of_tb _ _ ha.1 ha.2 hk.c0 hk.c1 fun p hp => by rw [tb_and _ _ p x0 x1 hk.f0 hk.f1, h p hp]
  have hz : bits .and .u32 (bits .xor .u32 x (code k)) 127 = 0 := by
    have hx := xor_lt x (code k)
    have ha := and_lt (bits .xor .u32 x (code k)) 127
    refine eq_of_tb _ _ ha.1 ha.2 (by decide) (by decide) fun p hp => ?_
    rw [tb_and _ _ p hx.1 hx.2 (by decide) (by decide), tb_xor _ _ p x0 x1 hk.c0 hk.c1, h p hp]
    have h127 : tb 127 p = (tb 127 p && tb (shp k).fixed p) := by
      have := congrArg (fun z => tb z p) hk.op
      rw [tb_and _ _ p (by decide) (by decide) hk.f0 hk.f1] at this
      exact this
    have z0 : tb 0 p = false := by simp [tb]
    rw [z0, h127]
    cases tb x p <;> cases tb (shp k).fixed p <;> cases tb 127 p <;> rfl
  simp [hit, e, hz]
theorem hit_one {x : Int} {j k : Nat} (j1 : 1 ≤ j) (j2 : j ≤ 69) (k1 : 1 ≤ k) (k2 : k ≤ 69) (x0 : 0 ≤ x) (x1 : x < 4294967296) (hj : hit x j = true) (hk : hit x k = true) : j = k := by
  have a := hit_tb (ok_at j j1 j2) x0 x1 hj
  have b := hit_tb (ok_at k k1 k2) x0 x1 hk
  have h := List.all_eq_true.1 (List.all_eq_true.1 clashAll j (List.mem_range.2 (by omega))) k (List.mem_range.2 (by omega))
  have hj0 : (j == 0) = false := by simp; omega
  have hk0 : (k == 0) = false := by simp; omega
  rw [hj0, hk0, Bool.false_or, Bool.false_or, clash, Bool.or_eq_true] at h
  rcases h with h | h
  · simpa using h
  · exfalso
    have : (code j).toNat &&& (shp k).fixed.toNat = (code k).toNat &&& (shp j).fixed.toNat := by
      apply Nat.eq_of_testBit_eq
      intro p
      rw [Nat.testBit_and, Nat.testBit_and]
      show (tb (code j) p && tb (shp k).fixed p) = (tb (code k) p && tb (shp j).fixed p)
      by_cases hp : p < 32
      · rw [a p hp, b p hp]
        cases tb x p <;> cases tb (shp k).fixed p <;> cases tb (shp j).fixed p <;> rfl
      · rw [tb_big _ p (ok_at j j1 j2).c1 (by omega), tb_big _ p (ok_at k k1 k2).c1 (by omega)]; rfl
    simp [this] at h
/-- The one op whose word x is. -/
theorem decFrom_eq {x : Int} {k : Nat} (k1 : 1 ≤ k) (k2 : k ≤ 69) (x0 : 0 ≤ x) (x1 : x < 4294967296) (h : hit x k = true) : ∀ n j, 1 ≤ j → j ≤ k → k < j + n → j + n = 70 → decFrom x j n = k := by
  intro n
  induction n with
  | zero => intro j _ _ _ _; omega
  | succ n ih =>
    intro j hj1 hj2 hj3 hj4
    unfold decFrom
    by_cases e : j = k
    · subst e; rw [h]; rfl
    · have : hit x j = false := by
        cases hh : hit x j
        · rfl
        · exact absurd (hit_one hj1 (by omega) k1 k2 x0 x1 hh h) e
      rw [this]
      exact ih (j + 1) (by omega) (by omega) (by omega) (by omega)
theorem dec_eq {x : Int} {k : Nat} (k1 : 1 ≤ k) (k2 : k ≤ 69) (x0 : 0 ≤ x) (x1 : x < 4294967296) (h : hit x k = true) : dec x = k :=
  decFrom_eq k1 k2 x0 x1 h 69 1 (by omega) k1 (by omega) (by omega)
theorem decFrom_hit (x : Int) : ∀ n j, decFrom x j n = 0 ∨ (j ≤ decFrom x j n ∧ decFrom x j n < j + n ∧ hit x (decFrom x j n) = true) := by
  intro n
  induction n with
  | zero => intro j; left; rfl
  | succ n ih =>
    intro j
    unfold decFrom
    cases hh : hit x j
    · rcases ih (j + 1) with h | h
      · left; exact h
      · right; exact ⟨by have := h.1; simp only [cond_false]; omega, by have := h.2.1; simp only [cond_false]; omega, h.2.2⟩
    · right; exact ⟨by simp, by simp, by simpa using hh⟩
theorem dec_hit (x : Int) (h : decB x = true) : 1 ≤ dec x ∧ dec x ≤ 69 ∧ hit x (dec x) = true := by
  rcases decFrom_hit x 69 1 with h1 | h1
  · simp [decB, dec, h1] at h
  · exact ⟨h1.1, by have := h1.2.1; unfold dec; omega, h1.2.2⟩
end Go.Proofs.YthbcdlaejefkaaaDoor.W
