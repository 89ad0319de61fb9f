/- The bytes of a line with a part turned; without any Go. -/
import Derived.Test.YtjdiepklgcdamaaDoorMemL
namespace Go.Proofs.YtjdiepklgcdamaaDoor
open Go.RowKit
set_option linter.unusedVariables false

theorem byte_eq (x : Int) (j : Nat) (x0 : 0 ≤ x) (x1 : x < 4294967296) : W.pt x j 1 = x / W.cc j % 256 := by
  rw [W.pt_eq x j 1 x0 x1 (W.al_1 _)]; rfl
theorem cc_at (j : Nat) : (j % 4 = 0 → W.cc j = 1) ∧ (j % 4 = 1 → W.cc j = 256) ∧ (j % 4 = 2 → W.cc j = 65536) ∧ (j % 4 = 3 → W.cc j = 16777216) := by
  unfold W.cc
  refine ⟨fun h => ?_, fun h => ?_, fun h => ?_, fun h => ?_⟩
  · rw [if_pos (by omega)]
  · rw [if_neg (by omega), if_pos (by omega)]
  · rw [if_neg (by omega), if_neg (by omega), if_pos (by omega)]
  · rw [if_neg (by omega), if_neg (by omega), if_neg (by omega)]
def W.pw (d : Nat) : Int := if d = 0 then 1 else if d = 1 then 256 else if d = 2 then 65536 else 16777216
/-- A byte of a word with a part turned. -/
theorem byte_wr (x : Int) (A j : Nat) (s v : Int) (x0 : 0 ≤ x) (x1 : x < 4294967296) (v0 : 0 ≤ v) (v1 : v < 4294967296) (ha : W.al A s = true) :
    W.pt (W.wr x A s v) j 1 = if A % 4 ≤ j % 4 ∧ (j % 4 : Nat) < A % 4 + s then v / W.pw (j % 4 - A % 4) % 256 else W.pt x j 1 := by
  have hw := W.wr_lt x A s v
  rw [byte_eq _ _ hw.1 hw.2, byte_eq _ _ x0 x1, W.wr_eq x A s v x0 x1 v0 v1 ha]
  have hj : j % 4 = 0 ∨ j % 4 = 1 ∨ j % 4 = 2 ∨ j % 4 = 3 := by omega
  have cA := cc_at A
  have cj := cc_at j
  rcases W.al_cases A s ha with ⟨rfl, e⟩ | ⟨rfl, e⟩ | ⟨rfl, e⟩ | ⟨rfl, e⟩ | ⟨rfl, e⟩ | ⟨rfl, e⟩ | ⟨rfl, e⟩
  · have e' : A % 4 = 0 := by omega
    rw [cA.1 e', show W.dd 1 = 256 from rfl]
    rcases hj with h | h | h | h
    · rw [cj.1 h, if_pos (by omega), show j % 4 - A % 4 = 0 by omega, show W.pw 0 = 1 from rfl]
      omega
    · rw [cj.2.1 h, if_neg (by omega)]
      omega
    · rw [cj.2.2.1 h, if_neg (by omega)]
      omega
    · rw [cj.2.2.2 h, if_neg (by omega)]
      omega
  · have e' : A % 4 = 1 := by omega
    rw [cA.2.1 e', show W.dd 1 = 256 from rfl]
    rcases hj with h | h | h | h
    · rw [cj.1 h, if_neg (by omega)]
      omega
    · rw [cj.2.1 h, if_pos (by omega), show j % 4 - A % 4 = 0 by omega, show W.pw 0 = 1 from rfl]
      omega
    · rw [cj.2.2.1 h, if_neg (by omega)]
      omega
    · rw [cj.2.2.2 h, if_neg (by omega)]
      omega
  · have e' : A % 4 = 2 := by omega
    rw [cA.2.2.1 e', show W.dd 1 = 256 from rfl]
    rcases hj with h | h | h | h
    · rw [cj.1 h, if_neg (by omega)]
      omega
    · rw [cj.2.1 h, if_neg (by omega)]
      omega
    · rw [cj.2.2.1 h, if_pos (by omega), show j % 4 - A % 4 = 0 by omega, show W.pw 0 = 1 from rfl]
      omega
    · rw [cj.2.2.2 h, if_neg (by omega)]
      omega
  · have e' : A % 4 = 3 := by omega
    rw [cA.2.2.2 e', show W.dd 1 = 256 from rfl]
    rcases hj with h | h | h | h
    · rw [cj.1 h, if_neg (by omega)]
      omega
    · rw [cj.2.1 h, if_neg (by omega)]
      omega
    · rw [cj.2.2.1 h, if_neg (by omega)]
      omega
    · rw [cj.2.2.2 h, if_pos (by omega), show j % 4 - A % 4 = 0 by omega, show W.pw 0 = 1 from rfl]
      omega
  · have e' : A % 4 = 0 := by omega
    rw [cA.1 e', show W.dd 2 = 65536 from rfl]
    rcases hj with h | h | h | h
    · rw [cj.1 h, if_pos (by omega), show j % 4 - A % 4 = 0 by omega, show W.pw 0 = 1 from rfl]
      omega
    · rw [cj.2.1 h, if_pos (by omega), show j % 4 - A % 4 = 1 by omega, show W.pw 1 = 256 from rfl]
      omega
    · rw [cj.2.2.1 h, if_neg (by omega)]
      omega
    · rw [cj.2.2.2 h, if_neg (by omega)]
      omega
  · have e' : A % 4 = 2 := by omega
    rw [cA.2.2.1 e', show W.dd 2 = 65536 from rfl]
    rcases hj with h | h | h | h
    · rw [cj.1 h, if_neg (by omega)]
      omega
    · rw [cj.2.1 h, if_neg (by omega)]
      omega
    · rw [cj.2.2.1 h, if_pos (by omega), show j % 4 - A % 4 = 0 by omega, show W.pw 0 = 1 from rfl]
      omega
    · rw [cj.2.2.2 h, if_pos (by omega), show j % 4 - A % 4 = 1 by omega, show W.pw 1 = 256 from rfl]
      omega
  · have e' : A % 4 = 0 := by omega
    rw [cA.1 e', show W.dd 4 = 4294967296 from rfl]
    rcases hj with h | h | h | h
    · rw [cj.1 h, if_pos (by omega), show j % 4 - A % 4 = 0 by omega, show W.pw 0 = 1 from rfl]
      omega
    · rw [cj.2.1 h, if_pos (by omega), show j % 4 - A % 4 = 1 by omega, show W.pw 1 = 256 from rfl]
      omega
    · rw [cj.2.2.1 h, if_pos (by omega), show j % 4 - A % 4 = 2 by omega, show W.pw 2 = 65536 from rfl]
      omega
    · rw [cj.2.2.2 h, if_pos (by omega), show j % 4 - A % 4 = 3 by omega, show W.pw 3 = 16777216 from rfl]
      omega

theorem part_wl (L : Nat → Int) (hL : ∀ k, 0 ≤ L k ∧ L k < 4294967296) (A j : Nat) (s v : Int) (v0 : 0 ≤ v) (v1 : v < 4294967296) (ha : W.al A s = true) (hj : j < 16) :
    W.part (W.wl L A s v) j 1 = if A % 16 ≤ j ∧ (j : Int) < (A % 16 : Nat) + s then v / W.pw (j - A % 16) % 256 else W.part L j 1 := by
  have hs := al_size ha
  have hal := W.al_cases A s ha
  unfold W.part W.wl
  rw [W.al_1, ha]
  simp only [cond_true]
  by_cases e : j % 16 / 4 = A % 16 / 4
  · rw [if_pos e, byte_wr _ A j s v (hL _).1 (hL _).2 v0 v1 ha]
    by_cases e2 : A % 16 ≤ j ∧ (j : Int) < (A % 16 : Nat) + s
    · rw [if_pos e2, if_pos (by omega), show j % 4 - A % 4 = j - A % 16 by omega]
    · rw [if_neg e2, if_neg (by omega)]
  · rw [if_neg e, if_neg (by omega)]
end Go.Proofs.YtjdiepklgcdamaaDoor
