/- lone: the document's Take, whole. -/
import Derived.Test.YtogchippkenppaaLonJ2
import Derived.Test.YtogchippkenppaaLonJ3
import Derived.Test.YtogchippkenppaaLonI2
namespace Go.Proofs.Ytogchippkenppaa
open Go.ChangeShapes Go.WideShapes Go.ChangeAt Go.RowKit
set_option linter.unusedVariables false
set_option linter.unusedSimpArgs false
variable {b : Nat} {w w' w'' w2 : World}

def W.Ld.lost (d : W.Ld) (m : W.Mg) : Bool := if d.st = 0 then false else if (d.tak m).1.st = 0 then true else false
set_option maxHeartbeats 3200000 in
theorem dtake_any {s : W.Lo} {d : W.Ld} (H : Db b d w) (hR : W.Rl s d) (m : W.Mg) (hk : s.tk m = true) : Calls Try.prog 20 #[.pointer (some ⟨b, 0, none⟩), mgV m] w fun e w' => ∃ sl, e = .returned (.tuple #[slV sl, .bool (d.lost m)]) ∧ ResD b (d.tak m).1 (d.tak m).2 sl w w' := by
  have hq := W.Lo.tk_kind hk
  clear hk
  have hw : (d.wt = 3 ∧ d.st = 0 ∧ (d.kp = 0 ∨ d.kp = 1 ∨ d.kp = 2 ∨ d.kp = 3 ∨ d.kp = 4)) ∨ ((d.wt = 0 ∨ d.wt = 1 ∨ d.wt = 2) ∧ (d.st = 0 ∨ d.st = 1 ∨ d.st = 2 ∨ d.st = 3 ∨ d.st = 4)) := by
    have h1 := hR.wt
    have h2 := hR.hd
    have h3 := hR.ok.1
    have h4 := hR.ok.2
    have h5 := hR.st
    unfold W.Lo.st at h5
    by_cases e : s.wt = 3
    · rw [if_pos e] at h2 h5
      exact Or.inl ⟨by omega, h5, by omega⟩
    · rw [if_neg e] at h2 h5
      exact Or.inr ⟨by omega, by omega⟩
  have hs : (m.k = 7 → d.wt = 1 ∨ d.wt = 2) ∧ (m.k = 8 → d.wt = 2 ∧ d.st ≠ 0) ∧ (m.k = 9 → d.wt = 3) := by
    have h1 := hR.wt
    have h2 := hR.hd
    refine ⟨fun e => ?_, fun e => ?_, fun e => ?_⟩
    · omega
    · have h : s.wt = 2 ∧ s.hd ≠ 0 := by omega
      rw [if_neg (by omega)] at h2
      omega
    · omega
  have hk : m.k = 4 ∨ m.k = 5 ∨ m.k = 6 ∨ m.k = 7 ∨ m.k = 8 ∨ m.k = 9 := by omega
  clear hq hR
  obtain ⟨ln, ht, st, wt, e0, e1, e2, e3, kp⟩ := d
  obtain ⟨mk, ml, mf, mt, m0, m1, m2, m3, mh, md, ma⟩ := m
  simp only at hw hs hk
  rcases hk with rfl | rfl | rfl | rfl | rfl | rfl
  · rcases hw with ⟨rfl, rfl, _⟩ | ⟨hwt, hst⟩
    · exact t4A H ⟨4, ml, mf, mt, m0, m1, m2, m3, mh, md, ma⟩ rfl rfl rfl
    · by_cases q : st = 0
      · subst q
        exact t4B H ⟨4, ml, mf, mt, m0, m1, m2, m3, mh, md, ma⟩ rfl (show wt ≠ 3 by omega) rfl
      · have e : W.Ld.lost ⟨ln, ht, st, wt, e0, e1, e2, e3, kp⟩ ⟨4, ml, mf, mt, m0, m1, m2, m3, mh, md, ma⟩ = true := by unfold W.Ld.lost; rw [if_neg q]; rfl
        rw [e]
        exact t4C H ⟨4, ml, mf, mt, m0, m1, m2, m3, mh, md, ma⟩ rfl (show wt ≠ 3 by omega) q
  · rcases hw with ⟨rfl, rfl, h⟩ | ⟨hwt, hst⟩
    · rcases h with rfl | rfl | rfl | rfl | rfl
      · exact t5A0 H ⟨5, ml, mf, mt, m0, m1, m2, m3, mh, md, ma⟩ rfl rfl rfl rfl
      · exact t5A1 H ⟨5, ml, mf, mt, m0, m1, m2, m3, mh, md, ma⟩ rfl rfl rfl rfl
      · exact t5A2 H ⟨5, ml, mf, mt, m0, m1, m2, m3, mh, md, ma⟩ rfl rfl rfl rfl
      · exact t5Ax H ⟨5, ml, mf, mt, m0, m1, m2, m3, mh, md, ma⟩ rfl rfl rfl (by simp) (by simp) (by simp)
      · exact t5Ax H ⟨5, ml, mf, mt, m0, m1, m2, m3, mh, md, ma⟩ rfl rfl rfl (by simp) (by simp) (by simp)
    · rcases hwt with rfl | rfl | rfl <;> rcases hst with rfl | rfl | rfl | rfl | rfl
      all_goals
        first
          | exact t5B H ⟨5, ml, mf, mt, m0, m1, m2, m3, mh, md, ma⟩ rfl (by simp) rfl
          | exact t5C1 H ⟨5, ml, mf, mt, m0, m1, m2, m3, mh, md, ma⟩ rfl (by simp) (by simp) rfl
          | exact t5C2 H ⟨5, ml, mf, mt, m0, m1, m2, m3, mh, md, ma⟩ rfl (by simp) (by simp) rfl
          | exact t5Cx H ⟨5, ml, mf, mt, m0, m1, m2, m3, mh, md, ma⟩ rfl (by simp) (by simp) (by simp) (by simp)
  · rcases hw with ⟨rfl, rfl, h⟩ | ⟨hwt, hst⟩
    · rcases h with rfl | rfl | rfl | rfl | rfl
      · exact t6A0 H ⟨6, ml, mf, mt, m0, m1, m2, m3, mh, md, ma⟩ rfl rfl rfl rfl
      · exact t6A1 H ⟨6, ml, mf, mt, m0, m1, m2, m3, mh, md, ma⟩ rfl rfl rfl rfl
      · exact t6Ax H ⟨6, ml, mf, mt, m0, m1, m2, m3, mh, md, ma⟩ rfl rfl rfl (by simp) (by simp)
      · exact t6Ax H ⟨6, ml, mf, mt, m0, m1, m2, m3, mh, md, ma⟩ rfl rfl rfl (by simp) (by simp)
      · exact t6Ax H ⟨6, ml, mf, mt, m0, m1, m2, m3, mh, md, ma⟩ rfl rfl rfl (by simp) (by simp)
    · rcases hwt with rfl | rfl | rfl <;> rcases hst with rfl | rfl | rfl | rfl | rfl
      all_goals
        first
          | exact t6B H ⟨6, ml, mf, mt, m0, m1, m2, m3, mh, md, ma⟩ rfl (by simp) rfl
          | exact t6C1 H ⟨6, ml, mf, mt, m0, m1, m2, m3, mh, md, ma⟩ rfl (by simp) (by simp) rfl
          | exact t6Cx H ⟨6, ml, mf, mt, m0, m1, m2, m3, mh, md, ma⟩ rfl (by simp) (by simp) (by simp)
  · have hwt := hs.1 rfl
    clear hw hs
    by_cases q : st = 0
    · subst q
      rcases hwt with rfl | rfl
      · cases ma
        · exact t7sB H ⟨7, ml, mf, mt, m0, m1, m2, m3, mh, md, false⟩ rfl rfl rfl rfl
        · exact t7aB H ⟨7, ml, mf, mt, m0, m1, m2, m3, mh, md, true⟩ rfl rfl rfl rfl
      · cases md
        · exact t7nB H ⟨7, ml, mf, mt, m0, m1, m2, m3, mh, false, ma⟩ rfl rfl rfl rfl
        · exact t7dB H ⟨7, ml, mf, mt, m0, m1, m2, m3, mh, true, ma⟩ rfl rfl rfl rfl
    · rcases hwt with rfl | rfl
      · cases ma
        all_goals
          have e : ∀ z, W.Ld.lost ⟨ln, ht, st, 1, e0, e1, e2, e3, kp⟩ ⟨7, ml, mf, mt, m0, m1, m2, m3, mh, md, z⟩ = false := fun z => by
            unfold W.Ld.lost; rw [if_neg q]; cases z <;> rfl
          rw [e]
        · exact t7sC H ⟨7, ml, mf, mt, m0, m1, m2, m3, mh, md, false⟩ rfl rfl q rfl
        · exact t7aC H ⟨7, ml, mf, mt, m0, m1, m2, m3, mh, md, true⟩ rfl rfl q rfl
      · cases md
        all_goals
          have e : ∀ z, W.Ld.lost ⟨ln, ht, st, 2, e0, e1, e2, e3, kp⟩ ⟨7, ml, mf, mt, m0, m1, m2, m3, mh, z, ma⟩ = false := fun z => by
            unfold W.Ld.lost; rw [if_neg q]; cases z <;> rfl
          rw [e]
        · exact t7nC H ⟨7, ml, mf, mt, m0, m1, m2, m3, mh, false, ma⟩ rfl rfl q rfl
        · exact t7dC H ⟨7, ml, mf, mt, m0, m1, m2, m3, mh, true, ma⟩ rfl rfl q rfl
  · obtain ⟨rfl, q⟩ := hs.2.1 rfl
    have e : W.Ld.lost ⟨ln, ht, st, 2, e0, e1, e2, e3, kp⟩ ⟨8, ml, mf, mt, m0, m1, m2, m3, mh, md, ma⟩ = false := by unfold W.Ld.lost; rw [if_neg q]; rfl
    rw [e]
    exact t8 H ⟨8, ml, mf, mt, m0, m1, m2, m3, mh, md, ma⟩ rfl rfl q
  · obtain rfl := hs.2.2 rfl
    have q : st = 0 := by omega
    subst q
    exact t9 H ⟨9, ml, mf, mt, m0, m1, m2, m3, mh, md, ma⟩ rfl rfl rfl
end Go.Proofs.Ytogchippkenppaa
