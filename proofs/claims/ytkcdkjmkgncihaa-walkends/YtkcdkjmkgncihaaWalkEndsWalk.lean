/- WalkEnds: the walk. -/
import Derived.Test.YtkcdkjmkgncihaaWalkZ
import Derived.Test.YtkcdkjmkgncihaaWalkYF
import Derived.Test.YtkcdkjmkgncihaaWalkYH
import Derived.Test.YtkcdkjmkgncihaaWalkYMF
import Derived.Test.YtkcdkjmkgncihaaWalkYMH
import Derived.Test.YtkcdkjmkgncihaaWalkYMKF
import Derived.Test.YtkcdkjmkgncihaaWalkYMKH
import Derived.Test.YtkcdkjmkgncihaaWalkYMMF
import Derived.Test.YtkcdkjmkgncihaaWalkYMMH
import Derived.Test.YtkcdkjmkgncihaaWalkYMMKF
import Derived.Test.YtkcdkjmkgncihaaWalkYMMKH
namespace Go.Proofs.Ytkcdkjmkgncihaa
open Go.ChangeShapes Go.WideShapes Go.ChangeAt Go.RowKit
set_option linter.unusedVariables false
set_option linter.unusedSimpArgs false

set_option maxRecDepth 100000 in
theorem ends_long (satp mode va acc : Int) (a : Option Addr) (n cap : Nat) (hk : 64 < n) (hm : n ≤ maxLen) (w : World) :
    Calls Try.prog 3 #[.slice a n cap, .int .u32 satp, .int .i64 mode, .int .u32 va, .int .i64 acc] w fun x w' => x = .returned (.bool true) ∧ Below w.heap.size w w' := by
  simp only [maxLen] at hm
  go_enter Try.func3, Try.ntmps3
  go_wp2_with (go_at_call 7; refine (first9_any _).mono ?_; rintro x w1 ⟨rfl, hb1⟩)
  go_ret
  exact ⟨rfl, hb1⟩

theorem ends_some (satp mode va acc : Int) (s0 : 0 ≤ satp) (s1 : satp < 4294967296) (v0 : 0 ≤ va) (v1 : va < 4294967296) (a : Option Addr) (n cap : Nat) (u : Nat → Int) (w : World) (hn : n ≤ 64) (hwd : Wd a n cap u w) (hu : ∀ j, 0 ≤ u j ∧ u j < 4294967296) :
    Calls Try.prog 3 #[.slice a n cap, .int .u32 satp, .int .i64 mode, .int .u32 va, .int .i64 acc] w fun x w' => x = .returned (.bool true) ∧ Below w.heap.size w w' := by
  cases on : W.onB satp mode
  · exact ends_H satp mode va acc s0 s1 v0 v1 a n cap u w hn hwd hu (W.next0_off _ _ _ _ _ on)
  cases e1 : W.entB (satp % 4194304) va (4 * n) true
  · exact ends_F satp mode va acc s0 s1 v0 v1 a n cap u w hn hwd hu false (W.next0_no _ _ _ _ _ on e1)
  have r0 := W.next0_more satp mode va acc (4 * n) on e1
  have hA := W.entB_in e1
  have hA0 := W.entA_ge (satp % 4194304) va true (by omega) v0
  have hA3 := W.entA_mod (satp % 4194304) va true
  have hn0 : 0 < n := by omega
  have hq1 : (W.entA (satp % 4194304) va true / 4).toNat < n := by omega
  have hA2 : W.entA (satp % 4194304) va true / 4 = ((W.entA (satp % 4194304) va true / 4).toNat : Int) := by omega
  have hu1 := hu (W.entA (satp % 4194304) va true / 4).toNat
  generalize hU1 : u (W.entA (satp % 4194304) va true / 4).toNat = U1 at hu1
  have t0 := W.needs_lt U1 acc
  cases b1 : W.bad U1
  case true => exact ends_MF satp mode va acc s0 s1 v0 v1 a n cap u w hn hn0 hwd hu _ _ hq1 hA0 hA.1 hA2 hA3 U1 hU1 on r0 true (W.next1_bad _ _ _ _ _ _ on e1 b1)
  cases l1 : W.leaf U1
  case true =>
    have r1 := W.next1_leaf satp mode va acc (4 * n) U1 on e1 b1 l1
    rcases W.leaf_ways (W.entA (satp % 4194304) va true) U1 va acc mode true hu1.1 v0 with ⟨p, h⟩ | ⟨h, hne, hm, hf⟩ | ⟨pa, h, p0, hp, hm⟩
    · exact ends_MF satp mode va acc s0 s1 v0 v1 a n cap u w hn hn0 hwd hu _ _ hq1 hA0 hA.1 hA2 hA3 U1 hU1 on r0 p (r1.trans h)
    · have r2 := W.next1_leaf satp mode va acc (4 * n) (W.needs U1 acc) on e1 ((W.needs_bad U1 acc hu1.1 hu1.2 l1).trans b1) ((W.needs_leaf U1 acc hu1.1 hu1.2).trans l1)
      rcases W.leaf_marked (W.entA (satp % 4194304) va true) U1 va acc mode true hu1.1 hu1.2 v0 with ⟨p, k⟩ | ⟨pa, k, p0, hp, hm2⟩
      · exact ends_MKF satp mode va acc s0 s1 v0 v1 a n cap u w hn hn0 hwd hu _ _ hq1 hA0 hA.1 hA2 hA3 U1 hU1 on r0 _ t0 (r1.trans h) rfl hne p (r2.trans k)
      · exact ends_MKH satp mode va acc s0 s1 v0 v1 a n cap u w hn hn0 hwd hu _ _ hq1 hA0 hA.1 hA2 hA3 U1 hU1 on r0 _ t0 (r1.trans h) rfl hne pa p0 (r2.trans k) hp hm2
    · exact ends_MH satp mode va acc s0 s1 v0 v1 a n cap u w hn hn0 hwd hu _ _ hq1 hA0 hA.1 hA2 hA3 U1 hU1 on r0 pa p0 (r1.trans h) hp hm
  cases e2 : W.entB (U1 / 1024) va (4 * n) false
  · exact ends_MF satp mode va acc s0 s1 v0 v1 a n cap u w hn hn0 hwd hu _ _ hq1 hA0 hA.1 hA2 hA3 U1 hU1 on r0 false (W.next1_no _ _ _ _ _ _ on e1 b1 l1 e2)
  have r1 := W.next1_more satp mode va acc (4 * n) U1 on e1 b1 l1 e2
  have hB := W.entB_in e2
  have hB0 := W.entA_ge (U1 / 1024) va false (by omega) v0
  have hB3 := W.entA_mod (U1 / 1024) va false
  have hq2 : (W.entA (U1 / 1024) va false / 4).toNat < n := by omega
  have hB2 : W.entA (U1 / 1024) va false / 4 = ((W.entA (U1 / 1024) va false / 4).toNat : Int) := by omega
  have hu2 := hu (W.entA (U1 / 1024) va false / 4).toNat
  generalize hU2 : u (W.entA (U1 / 1024) va false / 4).toNat = U2 at hu2
  have t2 := W.needs_lt U2 acc
  cases b2 : W.bad U2
  case true => exact ends_MMF satp mode va acc s0 s1 v0 v1 a n cap u w hn hn0 hwd hu _ _ hq1 hA0 hA.1 hA2 hA3 U1 hU1 on _ _ hq2 hB0 hB.1 hB2 hB3 U2 hU2 r0 r1 true (W.next2_bad _ _ _ _ _ _ _ on e1 b1 l1 e2 b2)
  cases l2 : W.leaf U2
  · exact ends_MMF satp mode va acc s0 s1 v0 v1 a n cap u w hn hn0 hwd hu _ _ hq1 hA0 hA.1 hA2 hA3 U1 hU1 on _ _ hq2 hB0 hB.1 hB2 hB3 U2 hU2 r0 r1 true (W.next2_none _ _ _ _ _ _ _ on e1 b1 l1 e2 b2 l2)
  have r2 := W.next2_leaf satp mode va acc (4 * n) U1 U2 on e1 b1 l1 e2 b2 l2
  rcases W.leaf_ways (W.entA (U1 / 1024) va false) U2 va acc mode false hu2.1 v0 with ⟨p, h⟩ | ⟨h, hne, hm, hf⟩ | ⟨pa, h, p0, hp, hm⟩
  · exact ends_MMF satp mode va acc s0 s1 v0 v1 a n cap u w hn hn0 hwd hu _ _ hq1 hA0 hA.1 hA2 hA3 U1 hU1 on _ _ hq2 hB0 hB.1 hB2 hB3 U2 hU2 r0 r1 p (r2.trans h)
  · have r3 := W.next2_leaf satp mode va acc (4 * n) U1 (W.needs U2 acc) on e1 b1 l1 e2 ((W.needs_bad U2 acc hu2.1 hu2.2 l2).trans b2) ((W.needs_leaf U2 acc hu2.1 hu2.2).trans l2)
    rcases W.leaf_marked (W.entA (U1 / 1024) va false) U2 va acc mode false hu2.1 hu2.2 v0 with ⟨p, k⟩ | ⟨pa, k, p0, hp, hm2⟩
    · exact ends_MMKF satp mode va acc s0 s1 v0 v1 a n cap u w hn hn0 hwd hu _ _ hq1 hA0 hA.1 hA2 hA3 U1 hU1 on _ _ hq2 hB0 hB.1 hB2 hB3 U2 hU2 r0 r1 _ t2 (r2.trans h) rfl hne p (r3.trans k)
    · exact ends_MMKH satp mode va acc s0 s1 v0 v1 a n cap u w hn hn0 hwd hu _ _ hq1 hA0 hA.1 hA2 hA3 U1 hU1 on _ _ hq2 hB0 hB.1 hB2 hB3 U2 hU2 r0 r1 _ t2 (r2.trans h) rfl hne pa p0 (r3.trans k) hp hm2
  · exact ends_MMH satp mode va acc s0 s1 v0 v1 a n cap u w hn hn0 hwd hu _ _ hq1 hA0 hA.1 hA2 hA3 U1 hU1 on _ _ hq2 hB0 hB.1 hB2 hB3 U2 hU2 r0 r1 pa p0 (r2.trans h) hp hm

/-- What a slice of words that can be read holds. -/
def IsWords (w : World) (a : Option Addr) (k : Nat) : Prop :=
  k ≤ maxLen ∧ ∃ (b off : Nat) (u : Nat → Int), (0 < k → a = some ⟨b, off, none⟩ ∧ b < w.heap.size) ∧ (∀ j, j < k → w.cell? ⟨b, off + j, none⟩ = some (.int .u32 (u j))) ∧ ∀ j, 0 ≤ u j ∧ u j < 4294967296
theorem walkEnds_walk (satp mode va acc : Int) (s0 : 0 ≤ satp) (s1 : satp < 4294967296) (v0 : 0 ≤ va) (v1 : va < 4294967296) (a : Option Addr) (n cap : Nat) (w : World) (h : IsWords w a n) :
    Calls Try.prog 3 #[.slice a n cap, .int .u32 satp, .int .i64 mode, .int .u32 va, .int .i64 acc] w fun x w' => x = .returned (.bool true) ∧ Below w.heap.size w w' := by
  obtain ⟨hm, b, off, u, hb, hc, hu⟩ := h
  by_cases hk : 64 < n
  · exact ends_long satp mode va acc a n cap hk hm w
  · exact ends_some satp mode va acc s0 s1 v0 v1 a n cap u w (by omega) (wd_of a n cap b off u w (by omega) hb hc) hu
end Go.Proofs.Ytkcdkjmkgncihaa
