/- wmo: misread. -/
import Derived.Test.YtibohlbkkaghkaaDoorWmoN
namespace Go.Proofs.YtibohlbkkaghkaaDoor
open Go.ChangeShapes Go.WideShapes Go.ChangeAt Go.RowKit Go.Maps
set_option linter.unusedVariables false
set_option linter.unusedSimpArgs false

/-- Does step p read what it has to? -/
def W.okR (q : Nat → StR) (p : Nat) : Prop := W.rds (q p).o.k = true → (q p).o.gt = W.rdV q p (q p).o.sz.toNat
/-- What the region of misread reads. -/
abbrev SMr (w : World) (sb p : Nat) (k gt : Int) (w' : World) : Prop := Below w.heap.size w w' ∧ sb < w'.heap.size ∧ w'.cell? ⟨sb, p * 19, none⟩ = some (.int .i64 k) ∧ w'.cell? ⟨sb, p * 19 + 4, none⟩ = some (.int .u32 gt)
theorem SMr.below {w : World} {sb p : Nat} {k gt : Int} {a b : World} (h : SMr w sb p k gt a) (hb : Below a.heap.size a b) : SMr w sb p k gt b :=
  ⟨h.1.trans (hb.mono h.1.size), Nat.lt_of_lt_of_le h.2.1 hb.size, (hb.cell (p := ⟨sb, _, none⟩) h.2.1).trans h.2.2.1, (hb.cell (p := ⟨sb, _, none⟩) h.2.1).trans h.2.2.2⟩
theorem bdn1 (w : World) (n : Nat) : Below w.drew.heap.size w.drew (w.drewN n) := by
  have h := bdN (Below.refl w.heap.size w) n
  exact ⟨h.os, h.tape, h.output, h.size, h.block⟩
set_option maxRecDepth 10000 in
set_option maxHeartbeats 1600000 in
theorem misread_any (sb M cb : Nat) (q : Nat → StR) (m : Nat) (hm : m ≤ M) (w : World) (hS : Sb2 sb M q w) (hM : M ≤ 5000) (hz : Fz cb w) (hB : ∀ p, p < M → W.Byt (q p).o) (hF : ∀ p, p < M → W.rds (q p).o.k = true → ∀ k, k < (q p).o.sz.toNat → W.FrO q M ((q p).fr k) ((q p).o.ad + k)) (hok : ∀ p, p < m → W.okR q p) (hbad : m < M → ¬ W.okR q m) :
    Calls Tryd.prog 29 #[.slice (some ⟨sb, 0, none⟩) M M, fvZ cb] w fun e w' => e = .returned (.int .i64 (if m < M then (m : Int) else 0)) ∧ Below w.heap.size w w' := by
  have sl := hS.b.lt
  obtain ⟨R, hR⟩ : ∃ R : Int, R = if m < M then (m : Int) else 0 := ⟨_, rfl⟩
  rw [← hR]
  have HR : Hid _ := hR
  clear hR
  have HH : Hid (_ ∧ _ ∧ _ ∧ _ ∧ _ ∧ _) := ⟨hS, hz, hB, hF, hok, hbad⟩
  clear hS hz hB hF hok hbad
  generalize hFV : fvZ cb = FV at *
  go_enter Tryd.func29, Tryd.ntmps29
  go_wp2
  go_loopw [9] (fun i wr => ∃ p : Nat, p ≤ m ∧ i = .int .i64 (p : Int) ∧ Below w.heap.size w wr) (fun i _ => M - (intOf i).toNat)
  case atStart => exact ⟨0, by omega, rfl, Below.refl _ _⟩
  case round =>
    obtain ⟨p, hp, rfl, br⟩ := hrel
    by_cases hlt : p < M
    · have hpM : (p : Int) < (M : Int) := by omega
      have hS := HH.out.1.below br
      have d0 := hS.cell p 0 hlt (by decide) (.int .i64 (q p).o.k) rfl
      rw [Nat.add_zero] at d0
      have d4 := hS.cell p 4 hlt (by decide) (.int .u32 (q p).o.gt) rfl
      have S1 := SMr.below (w := w) (a := wr) (b := wr.drew) ⟨br, hS.b.lt, d0, d4⟩ (Below.refl _ _).drew
      have hr := fun w' (h : SMr w sb p (q p).o.k (q p).o.gt w') => reads_any sb (p * 19) (q p).o.k w' h.2.1 h.2.2.1
      have ht := fun (hk : W.rds (q p).o.k = true) w' (hb : Below w.heap.size w w') => toRead_any sb M cb q p w' (HH.out.1.below hb) hM (HH.out.2.1.below hb) hlt (HH.out.2.2.1 p hlt) (HH.out.2.2.2.1 p hlt hk)
      rw [hFV] at ht
      have hd : W.okR q p ∨ ¬ W.okR q p := Classical.em _
      have hok := HH.out.2.2.2.2.1 p
      have hbad := HH.out.2.2.2.2.2
      have HC : Hid (SMr w sb p (q p).o.k (q p).o.gt _ ∧ _ ∧ _ ∧ _ ∧ _) := ⟨S1, hr, ht, hok, hbad⟩
      clear S1 hr ht hS d0 d4 hok hbad
      have hd2 : (W.rds (q p).o.k = true → (q p).o.gt = W.rdV q p (q p).o.sz.toNat) → W.okR q p := fun h => h
      have hd3 : W.okR q p → W.rds (q p).o.k = true → (q p).o.gt = W.rdV q p (q p).o.sz.toNat := fun h => h
      have HD : Hid (_ ∧ _ ∧ _) := ⟨hd, hd2, hd3⟩
      clear hd hd2 hd3
      generalize hV : W.rdV q p (q p).o.sz.toNat = V at *
      generalize hGT : (q p).o.gt = GT at *
      generalize hKK : (q p).o.k = KK at *
      cases hrd : W.rds KK
      · rw [hrd] at HC
        go_wp2_with (fail)
        have hq : ∀ n, Calls Tryd.prog 41 #[.pointer (some ⟨sb, p * 19, none⟩)] (wr.drewN n) fun e w' => e = .returned (.bool false) ∧ w' = wr.drewN n := fun n => (HC.out.2.1 (wr.drewN n) (SMr.below (a := wr.drew) HC.out.1 (bdn1 wr n))).mono fun e w' h => ⟨h.1, h.2.symm⟩
        have HQ : Hid _ := hq
        clear hq
        go_quiet ((go_at_call 41; exact Calls.quiet_of_same (HQ.out _)))
        all_goals
          have b3 := bdN br nq
          have hpm : p < m := by
            by_cases e : p < m
            · exact e
            · obtain rfl : p = m := by omega
              exact absurd (HD.out.2.1 (fun h => by rw [hrd] at h; cases h)) (HC.out.2.2.2.2 hlt)
          clear HC HD
          go_wp2
          go_roundw
          case rel => exact ⟨p + 1, by omega, by go_num, b3⟩
          case measure => simp [intOf]; omega
      · have HK : Hid (W.rds KK = true) := hrd
        have hr2 := HC.out.2.1
        rw [hrd] at hr2
        have HC2 : Hid (SMr w sb p KK GT _ ∧ _ ∧ _ ∧ _ ∧ _) := ⟨HC.out.1, hr2, HC.out.2.2⟩
        clear HC hr2
        by_cases hq : GT = V
        · have rq : (GT != V) = false := by simpa using hq
          have hpm : p < m := by
            by_cases e : p < m
            · exact e
            · obtain rfl : p = m := by omega
              exact absurd (HD.out.2.1 (fun _ => hq)) (HC2.out.2.2.2.2 hlt)
          clear hq
          go_wp2_with (fail)
          go_region_held3 (fun w' => Below w.heap.size w w' ∧ sb < w'.heap.size ∧ w'.cell? ⟨sb, p * 19, none⟩ = some (.int .i64 KK) ∧ w'.cell? ⟨sb, p * 19 + 4, none⟩ = some (.int .u32 GT))
            (first
              | exact HC2.out.1
              | (refine SMr.below ?_ b2; assumption)
              | with_reducible assumption)
            (first
              | (go_at_call 41; refine (HC2.out.2.1 _ (by assumption)).mono ?_; rintro e w1 ⟨rfl, rfl⟩)
              | (go_at_call 42; refine (HC2.out.2.2.1 HK.out _ (And.left (by assumption))).mono ?_; rintro e w2 ⟨rfl, b2⟩))
          all_goals
            have b3 := (SMr.below HC2.out.1 b2).1
            clear HC2 HD b2
            go_wp2
            go_roundw
            case rel => exact ⟨p + 1, by omega, by go_num, b3⟩
            case measure => simp [intOf]; omega
        · have rq : (GT != V) = true := by simpa using hq
          have hpm : Hid (p = m) := by
            show p = m
            by_cases e : p < m
            · exact absurd (HD.out.2.2 (HC2.out.2.2.2.1 e) HK.out) hq
            · omega
          clear hq
          go_wp2_with (fail)
          go_region_held3 (fun w' => Below w.heap.size w w' ∧ sb < w'.heap.size ∧ w'.cell? ⟨sb, p * 19, none⟩ = some (.int .i64 KK) ∧ w'.cell? ⟨sb, p * 19 + 4, none⟩ = some (.int .u32 GT))
            (first
              | exact HC2.out.1
              | (refine SMr.below ?_ b2; assumption)
              | with_reducible assumption)
            (first
              | (go_at_call 41; refine (HC2.out.2.1 _ (by assumption)).mono ?_; rintro e w1 ⟨rfl, rfl⟩)
              | (go_at_call 42; refine (HC2.out.2.2.1 HK.out _ (And.left (by assumption))).mono ?_; rintro e w2 ⟨rfl, b2⟩))
          all_goals
            have b3 := (SMr.below HC2.out.1 b2).1
            clear HC2 HD b2
            go_wp2
            go_ret
            refine ⟨?_, b3⟩
            rw [HR.out, if_pos (by have := hpm.out; omega), ← hpm.out]
            rfl
    · have hpM : ¬ (p : Int) < (M : Int) := by omega
      have e : ¬ m < M := by omega
      go_wp2
      go_ret
      refine ⟨?_, br⟩
      rw [HR.out, if_neg e]
      rfl
end Go.Proofs.YtibohlbkkaghkaaDoor
