/- Laws on numbers for chapter 7; without any Go. -/
import Derived.Test.YtjdiepklgcdamaaDoorMemJ
namespace Go.Proofs.YtjdiepklgcdamaaDoor.W
open Go.RowKit
set_option linter.unusedVariables false

theorem tmod_bd (a M : Int) (hM : 0 < M) : -M < a.tmod M ∧ a.tmod M < M := by
  rcases Int.le_total 0 a with h | h
  · rw [Int.tmod_eq_emod_of_nonneg h]
    have := Int.emod_nonneg a (show M ≠ 0 by omega)
    have := Int.emod_lt_of_pos a hM
    omega
  · obtain ⟨b, rfl⟩ : ∃ b, a = -b := ⟨-a, by omega⟩
    rw [Int.neg_tmod, Int.tmod_eq_emod_of_nonneg (show 0 ≤ b by omega)]
    have := Int.emod_nonneg b (show M ≠ 0 by omega)
    have := Int.emod_lt_of_pos b hM
    omega
theorem turned (a M : Int) (hM : 0 < M) (hM2 : M ≤ 1000) : ∃ r : Nat, (wrap64 (a.tmod M + M)).tmod M = r ∧ (r : Int) < M := by
  have h := tmod_bd a M hM
  have e : wrap64 (a.tmod M + M) = a.tmod M + M := by unfold wrap64; omega
  rw [e, Int.tmod_eq_emod_of_nonneg (by omega)]
  have h1 := Int.emod_nonneg (a.tmod M + M) (show M ≠ 0 by omega)
  have h2 := Int.emod_lt_of_pos (a.tmod M + M) hM
  exact ⟨((a.tmod M + M) % M).toNat, by omega, by omega⟩

theorem al_1 (A : Nat) : al A 1 = true := by simp [al]
theorem al_2 (A : Nat) (h : A % 2 = 0) : al A 2 = true := by simp [al]; omega
theorem al_4 (A : Nat) (h : A % 4 = 0) : al A 4 = true := by simp [al]; omega
theorem bytes4 (A : Nat) (v : Int) (v0 : 0 ≤ v) (v1 : v < 4294967296) (hA : A % 4 = 0) : wr (wr (wr (wr 0 A 1 v) (A + 1 : Nat) 1 (v / 256)) (A + 2 : Nat) 1 (v / 65536)) (A + 3 : Nat) 1 (v / 16777216) = v := by
  have h1 := wr_lt 0 A 1 v
  have h2 := wr_lt (wr 0 A 1 v) (A + 1 : Nat) 1 (v / 256)
  have h3 := wr_lt (wr (wr 0 A 1 v) (A + 1 : Nat) 1 (v / 256)) (A + 2 : Nat) 1 (v / 65536)
  have c0 : cc A = 1 := by unfold cc; rw [if_pos (by omega)]
  have c1 : cc (A + 1 : Nat) = 256 := by unfold cc; rw [if_neg (by omega), if_pos (by omega)]
  have c2 : cc (A + 2 : Nat) = 65536 := by unfold cc; rw [if_neg (by omega), if_neg (by omega), if_pos (by omega)]
  have c3 : cc (A + 3 : Nat) = 16777216 := by unfold cc; rw [if_neg (by omega), if_neg (by omega), if_neg (by omega)]
  have d1 : dd 1 = 256 := rfl
  have e1 := wr_eq 0 A 1 v (by decide) (by decide) v0 v1 (al_1 _)
  have e2 := wr_eq (wr 0 A 1 v) (A + 1 : Nat) 1 (v / 256) h1.1 h1.2 (by omega) (by omega) (al_1 _)
  have e3 := wr_eq (wr (wr 0 A 1 v) (A + 1 : Nat) 1 (v / 256)) (A + 2 : Nat) 1 (v / 65536) h2.1 h2.2 (by omega) (by omega) (al_1 _)
  have e4 := wr_eq (wr (wr (wr 0 A 1 v) (A + 1 : Nat) 1 (v / 256)) (A + 2 : Nat) 1 (v / 65536)) (A + 3 : Nat) 1 (v / 16777216) h3.1 h3.2 (by omega) (by omega) (al_1 _)
  rw [c0, d1] at e1
  rw [c1, d1] at e2
  rw [c2, d1] at e3
  rw [c3, d1] at e4
  generalize wr (wr (wr (wr 0 A 1 v) (A + 1 : Nat) 1 (v / 256)) (A + 2 : Nat) 1 (v / 65536)) (A + 3 : Nat) 1 (v / 16777216) = x4 at *
  generalize wr (wr (wr 0 A 1 v) (A + 1 : Nat) 1 (v / 256)) (A + 2 : Nat) 1 (v / 65536) = x3 at *
  generalize wr (wr 0 A 1 v) (A + 1 : Nat) 1 (v / 256) = x2 at *
  generalize wr 0 A 1 v = x1 at *
  omega
theorem halves2 (A : Nat) (v : Int) (v0 : 0 ≤ v) (v1 : v < 4294967296) (hA : A % 4 = 0) : wr (wr 0 (A + 2 : Nat) 2 (v / 65536)) A 2 v = v := by
  have h1 := wr_lt 0 (A + 2 : Nat) 2 (v / 65536)
  have c0 : cc A = 1 := by unfold cc; rw [if_pos (by omega)]
  have c2 : cc (A + 2 : Nat) = 65536 := by unfold cc; rw [if_neg (by omega), if_neg (by omega), if_pos (by omega)]
  have d2 : dd 2 = 65536 := rfl
  have e1 := wr_eq 0 (A + 2 : Nat) 2 (v / 65536) (by decide) (by decide) (by omega) (by omega) (al_2 _ (by omega))
  have e2 := wr_eq (wr 0 (A + 2 : Nat) 2 (v / 65536)) A 2 v h1.1 h1.2 v0 v1 (al_2 _ (by omega))
  rw [c2, d2] at e1
  rw [c0, d2] at e2
  generalize wr (wr 0 (A + 2 : Nat) 2 (v / 65536)) A 2 v = x2 at *
  generalize wr 0 (A + 2 : Nat) 2 (v / 65536) = x1 at *
  omega
theorem pt_4 (A : Nat) (v : Int) (v0 : 0 ≤ v) (v1 : v < 4294967296) (hA : A % 4 = 0) : pt v A 4 = v ∧ pt v A 2 = v % 65536 ∧ pt v (A + 2 : Nat) 2 = v / 65536 := by
  have c0 : cc A = 1 := by unfold cc; rw [if_pos (by omega)]
  have c2 : cc (A + 2 : Nat) = 65536 := by unfold cc; rw [if_neg (by omega), if_neg (by omega), if_pos (by omega)]
  have e1 := pt_eq v A 4 v0 v1 (al_4 _ hA)
  have e2 := pt_eq v A 2 v0 v1 (al_2 _ (by omega))
  have e3 := pt_eq v (A + 2 : Nat) 2 v0 v1 (al_2 _ (by omega))
  rw [c0, show dd 4 = 4294967296 from rfl] at e1
  rw [c0, show dd 2 = 65536 from rfl] at e2
  rw [c2, show dd 2 = 65536 from rfl] at e3
  omega

def b4 (A : Nat) (v : Int) : Nat → Int := stored 4 (stored 4 (stored 4 (stored 4 (fun _ => 0) A 1 v) (A + 1) 1 (v / 256)) (A + 2) 1 (v / 65536)) (A + 3) 1 (v / 16777216)
def h2 (A : Nat) (v : Int) : Nat → Int := stored 4 (stored 4 (fun _ => 0) (A + 2) 2 (v / 65536)) A 2 v
theorem has_in (n A : Nat) (s : Int) (ha : al A s = true) (h : A < 16 * n) : has n A s = true := by simp [has, ha, h]
theorem b4_eq (A : Nat) (v : Int) (v0 : 0 ≤ v) (v1 : v < 4294967296) (hA : A % 4 = 0) (hl : A < 64) (j : Nat) : b4 A v j = if j = A / 4 then v else 0 := by
  unfold b4 stored
  rw [has_in 4 A 1 (al_1 _) (by omega), has_in 4 (A + 1) 1 (al_1 _) (by omega), has_in 4 (A + 2) 1 (al_1 _) (by omega), has_in 4 (A + 3) 1 (al_1 _) (by omega)]
  simp only [cond_true, put]
  by_cases e : j = A / 4
  · rw [if_pos e, if_pos (by omega), if_pos (by omega), if_pos (by omega), if_pos (by omega)]
    exact bytes4 A v v0 v1 hA
  · rw [if_neg e, if_neg (by omega), if_neg (by omega), if_neg (by omega), if_neg (by omega)]
theorem h2_eq (A : Nat) (v : Int) (v0 : 0 ≤ v) (v1 : v < 4294967296) (hA : A % 4 = 0) (hl : A < 64) (j : Nat) : h2 A v j = if j = A / 4 then v else 0 := by
  unfold h2 stored
  rw [has_in 4 A 2 (al_2 _ (by omega)) (by omega), has_in 4 (A + 2) 2 (al_2 _ (by omega)) (by omega)]
  simp only [cond_true, put]
  by_cases e : j = A / 4
  · rw [if_pos e, if_pos (by omega), if_pos (by omega)]
    exact halves2 A v v0 v1 hA
  · rw [if_neg e, if_neg (by omega), if_neg (by omega)]
theorem b4_h2 (A : Nat) (v : Int) (v0 : 0 ≤ v) (v1 : v < 4294967296) (hA : A % 4 = 0) (hl : A < 64) : sameW 4 (b4 A v) (h2 A v) = true := by
  rw [sameW_iff]
  intro j _
  rw [b4_eq A v v0 v1 hA hl, h2_eq A v v0 v1 hA hl]
theorem b4_loads (A : Nat) (v : Int) (v0 : 0 ≤ v) (v1 : v < 4294967296) (hA : A % 4 = 0) (hl : A < 64) : loadV 4 (b4 A v) A 4 = v ∧ loadV 4 (b4 A v) A 2 = v % 65536 ∧ loadV 4 (b4 A v) (A + 2) 2 = v / 65536 := by
  unfold loadV
  rw [has_in 4 A 4 (al_4 _ hA) (by omega), has_in 4 A 2 (al_2 _ (by omega)) (by omega), has_in 4 (A + 2) 2 (al_2 _ (by omega)) (by omega)]
  simp only [cond_true]
  rw [b4_eq A v v0 v1 hA hl, b4_eq A v v0 v1 hA hl, if_pos rfl, if_pos (by omega)]
  exact pt_4 A v v0 v1 hA
end Go.Proofs.YtjdiepklgcdamaaDoor.W
