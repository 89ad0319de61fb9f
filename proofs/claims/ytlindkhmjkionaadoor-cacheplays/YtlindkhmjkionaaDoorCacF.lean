/- cache: Use, Room, Put, Len, New. -/
import Derived.Test.YtlindkhmjkionaaDoorCacE
import Derived.Test.YtlindkhmjkionaaDoorSee17
namespace Go.Proofs.YtlindkhmjkionaaDoor
open Go.ChangeShapes Go.WideShapes Go.ChangeAt Go.RowKit
set_option linter.unusedVariables false
set_option linter.unusedSimpArgs false
attribute [local go_sem ↓] ldE_eq stE_eq bdE_eq bsE_eq
variable {n0 cb sb K : Nat} {ways : Int} {sv sv' sv'' : Nat → Value} {S S' : Nat → List W.En} {w w' w'' : World}

theorem W.gt_line {l : List W.En} {x : Int} (h : W.has l x = true) : (W.gt l x).l = x ∧ W.gt l x ∈ l := by
  obtain ⟨f, h1, h2, h3⟩ := W.fnd_some h
  unfold W.gt
  rw [h1]
  exact ⟨h3, h2⟩
/-- A line used. -/
def W.use (l : List W.En) (x : Int) : List W.En := bif W.has l x then W.lst l (W.gt l x) else l

set_option maxRecDepth 10000 in
set_option maxHeartbeats 1600000 in
theorem use_any (H : Ct n0 cb sb K ways sv S w) (hK : 0 < K) (hS : ∀ i, i < K → (S i).length ≤ 4096) (x : Int) (hx : 0 ≤ x) :
    Calls Tryd.prog 13 #[.pointer (some ⟨cb, 0, none⟩), .int .i64 x] w fun e w' => e = .returned (.bool (W.has (S (W.ix K x)) x)) ∧ ∃ sv', Ct n0 cb sb K ways sv' (W.updS S (W.ix K x) (W.use (S (W.ix K x)) x)) w' ∧ Cu sb K sv sv' w w' := by
  have hf := find_any H hK hS x
  have hst : W.st K S x = S (W.ix K x) := by unfold W.st; rw [if_neg (by omega)]
  rw [hst] at hf
  unfold W.use
  have HH : Hid (Ct n0 cb sb K ways sv S w) := H
  have HS : Hid (∀ i, i < K → (S i).length ≤ 4096) := hS
  have HF : Hid (Calls _ _ _ _ _) := hf
  cases hq : W.has (S (W.ix K x)) x
  · rw [hq] at HF
    have hu : W.updS S (W.ix K x) (bif false then W.lst (S (W.ix K x)) (W.gt (S (W.ix K x)) x) else S (W.ix K x)) = S := W.updS_self S _
    rw [hu]
    clear H hS hf hst hq hu
    generalize W.gt (S (W.ix K x)) x = y at *
    go_enter Tryd.func13, Tryd.ntmps13
    go_wp2_with (fail)
    refine HF.out.mono ?_
    rintro e w1 ⟨rfl, hb1⟩
    have hst := stE_new w1 y z6 rfl
    have hba := below_alloc w1 (.cells (enL y).toArray 37)
    have HB : Hid (_ ∧ _) := ⟨hb1, hba⟩
    clear hb1 hba HF
    go_wp2
    go_ret
    have hb := HB.out.1.trans (HB.out.2.mono HB.out.1.size)
    exact ⟨rfl, sv, HH.out.below hb, Cu.of_below hb⟩
  · rw [hq] at HF
    have hg := W.gt_line hq
    have hu : (bif true then W.lst (S (W.ix K x)) (W.gt (S (W.ix K x)) x) else S (W.ix K x)) = W.lst (S (W.ix K x)) (W.gt (S (W.ix K x)) x) := rfl
    rw [hu]
    clear H hS hf hst hq hu
    generalize W.gt (S (W.ix K x)) x = y at *
    obtain ⟨rfl, hmem⟩ := hg
    go_enter Tryd.func13, Tryd.ntmps13
    go_wp2_with (fail)
    refine HF.out.mono ?_
    rintro e w1 ⟨rfl, hb1⟩
    have hst := stE_new w1 y z6 rfl
    have hba := below_alloc w1 (.cells (enL y).toArray 37)
    have hE := enAt_new w1 y
    have hld := hE.ld
    have HB : Hid (_ ∧ _) := ⟨hb1, hba⟩
    clear hb1 hba HF hE
    go_wp2_with (fail)
    have hb := HB.out.1.trans (HB.out.2.mono HB.out.1.size)
    refine (last_any (HH.out.below hb) hK HS.out y hx).mono ?_
    rintro e w2 ⟨rfl, sv2, hC2, hU2⟩
    have HQ : Hid (_ ∧ _) := ⟨hC2, (Cu.of_below hb).trans hU2⟩
    clear hC2 hU2
    go_wp2
    go_ret
    exact ⟨rfl, sv2, HQ.out.1, HQ.out.2⟩
set_option maxRecDepth 10000 in
set_option maxHeartbeats 1600000 in
theorem use_neg (H : Ct n0 cb sb K ways sv S w) (hK : 0 < K) (hS : ∀ i, i < K → (S i).length ≤ 4096) (x : Int) (hx : x < 0) :
    Calls Tryd.prog 13 #[.pointer (some ⟨cb, 0, none⟩), .int .i64 x] w fun e w' => e = .returned (.bool false) ∧ Below w.heap.size w w' := by
  have hf := find_any H hK hS x
  have hst : W.st K S x = [] := by unfold W.st; rw [if_pos hx]
  rw [hst] at hf
  have HF : Hid (Calls _ _ _ _ _) := hf
  have h0 : W.has [] x = false := rfl
  rw [h0] at HF
  clear H hf hst h0
  generalize W.gt [] x = y at *
  go_enter Tryd.func13, Tryd.ntmps13
  go_wp2_with (fail)
  refine HF.out.mono ?_
  rintro e w1 ⟨rfl, hb1⟩
  have hst := stE_new w1 y z6 rfl
  have hba := below_alloc w1 (.cells (enL y).toArray 37)
  have HB : Hid (_ ∧ _) := ⟨hb1, hba⟩
  clear hb1 hba HF
  go_wp2
  go_ret
  exact ⟨rfl, HB.out.1.trans (HB.out.2.mono HB.out.1.size)⟩

/-- Has the line's set room, or is it there? -/
def W.room (K : Nat) (ways : Int) (S : Nat → List W.En) (x : Int) : Bool := if x < 0 then false else decide (((S (W.ix K x)).length : Int) < ways) || W.has (S (W.ix K x)) x
set_option maxRecDepth 10000 in
set_option maxHeartbeats 1600000 in
theorem room_any (H : Ct n0 cb sb K ways sv S w) (hK : 0 < K) (hS : ∀ i, i < K → (S i).length ≤ 4096) (x : Int) :
    Calls Tryd.prog 25 #[.pointer (some ⟨cb, 0, none⟩), .int .i64 x] w fun e w' => e = .returned (.bool (W.room K ways S x)) ∧ Below w.heap.size w w' := by
  by_cases hx : x < 0
  · unfold W.room
    rw [if_pos hx]
    clear H hS
    go_enter Tryd.func25, Tryd.ntmps25
    go_wp2
    go_ret
    exact ⟨rfl, Below.refl _ _⟩
  · have hl := W.st_len hS hK x
    have hi := W.ix_lt hK x
    have hst : W.st K S x = S (W.ix K x) := by unfold W.st; rw [if_neg hx]
    unfold W.room
    rw [if_neg hx]
    rw [hst] at hl
    have hrw := H.rwst hK x
    rw [hst] at hrw
    have HRW : Hid (Rw (stV K sv x) (S (W.ix K x)) w) := hrw
    have HH : Hid (Ct n0 cb sb K ways sv S w) := H
    clear H hst hrw
    have hn0 : ¬ x < 0 := hx
    obtain ⟨g, a, cap, hv, hcap, ha, hrd⟩ := HRW.out
    clear ha hrd
    generalize hsx : S (W.ix K x) = L at *
    clear hsx
    by_cases hlt : (L.length : Int) < ways
    · rw [decide_eq_true hlt]
      have h1 : (true || W.has L x) = true := rfl
      rw [h1]
      go_enter Tryd.func25, Tryd.ntmps25
      go_wp2_with (fail)
      refine (set_any HH.out hK x).mono ?_
      rintro e w1 ⟨rfl, hb1⟩
      have c0 := (HH.out.below hb1).c0
      rw [hv]
      clear hv HRW
      go_wp2
      go_ret
      exact ⟨rfl, hb1⟩
    · rw [decide_eq_false hlt]
      have hdc : decide ((L.length : Int) < ways) = false := decide_eq_false hlt
      have h1 : (false || W.has L x) = W.has L x := rfl
      rw [h1]
      cases hq : W.has L x
      · have hm := W.has_false hq
        clear hq h1
        go_enter Tryd.func25, Tryd.ntmps25
        go_wp2_with (fail)
        refine (set_any HH.out hK x).mono ?_
        rintro e w1 ⟨rfl, hb1⟩
        have c0 := (HH.out.below hb1).c0
        have HP : Hid (Calls _ _ _ _ _) := place_miss x L hm hl (stV K sv x) w1 (Rw.below HRW.out hb1)
        rw [hv] at HP ⊢
        clear hv HRW
        go_wp2_with (fail)
        refine HP.out.mono ?_
        rintro e w2 ⟨rfl, hb2⟩
        go_wp2
        go_ret
        exact ⟨rfl, hb1.trans (hb2.mono hb1.size)⟩
      · obtain ⟨L1, f, L2, rfl, hfx, hl1⟩ := W.split _ x hq
        have HL : Hid (f.l = x ∧ ∀ e ∈ L1, e.l ≠ x) := ⟨hfx, hl1⟩
        have HLL : Hid ((L1 ++ f :: L2).length ≤ 4096) := hl
        have hl1n : L1.length ≤ 4096 := by simp at hl; omega
        clear hq h1 hfx hl1
        generalize hnn : (L1 ++ f :: L2).length = n at *
        go_enter Tryd.func25, Tryd.ntmps25
        go_wp2_with (fail)
        refine (set_any HH.out hK x).mono ?_
        rintro e w1 ⟨rfl, hb1⟩
        have c0 := (HH.out.below hb1).c0
        have HP : Hid (Calls _ _ _ _ _) := place_hit x L1 L2 f HL.out.1 HL.out.2 (by rw [hnn]; exact HLL.out) (stV K sv x) w1 (Rw.below HRW.out hb1)
        rw [hv] at HP ⊢
        clear hv HRW hnn
        go_wp2_with (fail)
        refine HP.out.mono ?_
        rintro e w2 ⟨rfl, hb2⟩
        go_wp2
        go_ret
        exact ⟨rfl, hb1.trans (hb2.mono hb1.size)⟩
end Go.Proofs.YtlindkhmjkionaaDoor
