/- PteMakes: the walk. -/
import Derived.Test.YtfkbdkalaajkhaaPteD
import Derived.Test.YtfkbdkalaajkhaaPteE
namespace Go.Proofs.Ytfkbdkalaajkhaa
open Go.ChangeShapes Go.WideShapes Go.ChangeAt Go.RowKit
set_option linter.unusedVariables false

/-- What a slice of words that can be read holds. -/
def IsWords (w : World) (a : Option Addr) (k : Nat) : Prop :=
  k ≤ maxLen ∧ ∃ (b off : Nat) (u : Nat → Int), (0 < k → a = some ⟨b, off, none⟩ ∧ b < w.heap.size) ∧ (∀ j, j < k → w.cell? ⟨b, off + j, none⟩ = some (.int .u32 (u j))) ∧ ∀ j, 0 ≤ u j ∧ u j < 4294967296

theorem makes_long (page acc : Int) (a : Option Addr) (k cap : Nat) (hk : 20 < k) (hm : k ≤ maxLen) (w : World) :
    Calls Try.prog 4 #[.int .u32 page, .slice a k cap, .int .i64 acc] w fun x w' => x = .returned (.bool true) ∧ Below w.heap.size w w' := by
  simp only [maxLen] at hm
  go_enter Try.func4, Try.ntmps4
  go_wp2_with (go_at_call 7; refine (first8_any _).mono ?_; rintro x w1 ⟨rfl, hb1⟩)
  go_ret
  exact ⟨rfl, hb1⟩

/-- Make of whatever slice that can be read. -/
theorem make_is (page : Int) (p0 : 0 ≤ page) (p1 : page < 4294967296) (a : Option Addr) (k cap b off : Nat) (u : Nat → Int) (w : World) (hm : k ≤ 20) (hb : 0 < k → a = some ⟨b, off, none⟩ ∧ b < w.heap.size) (hc : ∀ j, j < k → w.cell? ⟨b, off + j, none⟩ = some (.int .u32 (u j))) (E : Int) (hE : W.mk page (W.orAll u k) = E) :
    Calls Try.prog 19 #[.int .u32 page, .slice a k cap] w fun e w' => e = .returned (.int .u32 E) ∧ Below w.heap.size w w' := by
  subst hE
  by_cases hz : k = 0
  · subst hz
    exact make_nil page p0 p1 a cap w
  · obtain ⟨rfl, hlt⟩ := hb (by omega)
    exact make_any page p0 p1 b off k cap u w (by omega) hlt hc

set_option maxHeartbeats 3200000 in
theorem makes_some (page acc : Int) (p0 : 0 ≤ page) (p1 : page < 4294967296) (a : Option Addr) (k cap b off : Nat) (u : Nat → Int) (hk : k ≤ 20) (w : World) (hb : 0 < k → a = some ⟨b, off, none⟩ ∧ b < w.heap.size) (hc : ∀ j, j < k → w.cell? ⟨b, off + j, none⟩ = some (.int .u32 (u j)))
    (E n : Int) (hE : Hid (W.mk page (W.orAll u k) = E)) (hn : W.needs E acc = n) (q1 : (W.bitsOf E 10 22 == bits .and .u32 page 4194303) = true) (q2 : (bits .and .u32 E 1023 == bits .and .u32 (W.orAll u k) 1023) = true)
    (q3 : W.needs n acc = n) (q4 : (bits .andNot .u32 (bits .andNot .u32 n E) 192 == 0) = true) (q5 : W.bitsOf n 10 22 = W.bitsOf E 10 22) :
    Calls Try.prog 4 #[.int .u32 page, .slice a k cap, .int .i64 acc] w fun x w' => x = .returned (.bool true) ∧ Below w.heap.size w w' := by
  go_enter Try.func4, Try.ntmps4
  go_wp2_with (first
    | (go_at_call 7; refine (first8_any _).mono ?_; rintro x w1 ⟨rfl, hb1⟩)
    | (go_at_call 19; refine (make_is page p0 p1 a k cap b off u _ hk (fun h => ⟨(hb h).1, Nat.lt_of_lt_of_le (hb h).2 hb1.size⟩) (fun j hj => (hb1.cell (by exact (hb (by omega)).2)).trans (hc j hj)) E hE.out).mono ?_; rintro x w2 ⟨rfl, hb2⟩))
  have hb3 : Below w.heap.size w w2 := hb1.trans (hb2.mono hb1.size)
  clear hb1 hb2
  go_loopw [9, 10] (fun t i wr => ∃ j : Nat, j ≤ k ∧ i = .int .i64 j ∧ t = .int .u32 (W.orAll u j) ∧ wr = w2) (fun _ i _ => k - (intOf i).toNat)
  case atStart => exact ⟨0, Nat.zero_le _, rfl, rfl, rfl⟩
  case round =>
    obtain ⟨j, hj, rfl, rfl, rfl⟩ := hrel
    by_cases hlt : j < k
    · obtain ⟨rfl, hbw⟩ := hb (by omega)
      have g0 : wr.cell? ⟨b, off + j, none⟩ = some (.int .u32 (u j)) := (hb3.cell (by exact hbw)).trans (hc j hlt)
      have hp : Hid (W.orAll u (j + 1) = bits .or .u32 (W.orAll u j) (u j)) := rfl
      clear hc hn q1 q2 q3 q4 q5 hb
      go_wp2
      go_roundw
      case rel => exact ⟨j + 1, by omega, by go_num, by rw [hp.out], trivial⟩
      case measure => simp [intOf]; omega
    · obtain rfl : j = k := by omega
      clear hc hb
      go_wp2_with (first
        | (go_at_call 15; refine (needs_any _ _ _).mono ?_; rintro x w' ⟨rfl, rfl⟩)
        | (go_at_call 12; refine (page_any _ _).mono ?_; rintro x w' ⟨rfl, kk, rfl⟩))
      go_ret
      exact ⟨rfl, below_drewN hb3 _⟩

theorem pteMakes_walk (page acc : Int) (p0 : 0 ≤ page) (p1 : page < 4294967296) (a : Option Addr) (k cap : Nat) (w : World) (h : IsWords w a k) :
    Calls Try.prog 4 #[.int .u32 page, .slice a k cap, .int .i64 acc] w fun x w' => x = .returned (.bool true) ∧ Below w.heap.size w w' := by
  obtain ⟨hm, b, off, u, hb, hc, hu⟩ := h
  by_cases hk : 20 < k
  · exact makes_long page acc a k cap hk hm w
  · have ho := W.orAll_lt u k
    have hE := W.mk_lt page (W.orAll u k)
    have hn := W.needs_lt (W.mk page (W.orAll u k)) acc
    refine makes_some page acc p0 p1 a k cap b off u (by omega) w hb hc _ _ rfl rfl ?_ ?_ (W.needs_again _ acc hE.1 hE.2) ?_ ?_
    · rw [W.mk_page page _ p0 p1]; simp
    · rw [W.mk_flags page _ ho.1 ho.2]; simp
    · rw [W.needs_new _ acc hE.1 hE.2]; rfl
    · rw [W.page_eq _ hn.1 hn.2, W.page_eq _ hE.1 hE.2, W.needs_page _ acc hE.1 hE.2]
end Go.Proofs.Ytfkbdkalaajkhaa
