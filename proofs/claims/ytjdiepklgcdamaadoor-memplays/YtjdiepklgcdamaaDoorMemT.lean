/- Store of the document's memory. -/
import Derived.Test.YtjdiepklgcdamaaDoorMemS
namespace Go.Proofs.YtjdiepklgcdamaaDoor
open Go.ChangeShapes Go.WideShapes Go.ChangeAt Go.RowKit
set_option linter.unusedVariables false
set_option linter.unusedSimpArgs false

theorem W.wr_two (x : Int) (A : Nat) (v : Int) (x0 : 0 ≤ x) (x1 : x < 4294967296) (v0 : 0 ≤ v) (v1 : v < 4294967296) (hA : A % 2 = 0) : W.wr (W.wr x A 1 v) (A + 1 : Nat) 1 (v / 256) = W.wr x A 2 v := by
  have h1 := W.wr_lt x A 1 v
  have e1 := W.wr_eq x A 1 v x0 x1 v0 v1 (W.al_1 _)
  have e2 := W.wr_eq (W.wr x A 1 v) (A + 1 : Nat) 1 (v / 256) h1.1 h1.2 (by omega) (by omega) (W.al_1 _)
  have e3 := W.wr_eq x A 2 v x0 x1 v0 v1 (W.al_2 _ hA)
  have d1 : W.dd 1 = 256 := rfl
  have d2 : W.dd 2 = 65536 := rfl
  have h : A % 4 = 0 ∨ A % 4 = 2 := by omega
  rcases h with h | h
  · rw [(cc_at A).1 h, d1] at e1
    rw [(cc_at (A + 1)).2.1 (by omega), d1] at e2
    rw [(cc_at A).1 h, d2] at e3
    generalize W.wr (W.wr x A 1 v) (A + 1 : Nat) 1 (v / 256) = y2 at *
    generalize W.wr x A 1 v = y1 at *
    generalize W.wr x A 2 v = y3 at *
    omega
  · rw [(cc_at A).2.2.1 h, d1] at e1
    rw [(cc_at (A + 1)).2.2.2 (by omega), d1] at e2
    rw [(cc_at A).2.2.1 h, d2] at e3
    generalize W.wr (W.wr x A 1 v) (A + 1 : Nat) 1 (v / 256) = y2 at *
    generalize W.wr x A 1 v = y1 at *
    generalize W.wr x A 2 v = y3 at *
    omega
theorem W.wr_halves (x : Int) (A : Nat) (v : Int) (x0 : 0 ≤ x) (x1 : x < 4294967296) (v0 : 0 ≤ v) (v1 : v < 4294967296) (hA : A % 4 = 0) : W.wr (W.wr x A 2 v) (A + 2 : Nat) 2 (v / 65536) = W.wr x A 4 v := by
  have h1 := W.wr_lt x A 2 v
  have e1 := W.wr_eq x A 2 v x0 x1 v0 v1 (W.al_2 _ (by omega))
  have e2 := W.wr_eq (W.wr x A 2 v) (A + 2 : Nat) 2 (v / 65536) h1.1 h1.2 (by omega) (by omega) (W.al_2 _ (by omega))
  have e3 := W.wr_eq x A 4 v x0 x1 v0 v1 (W.al_4 _ hA)
  have d2 : W.dd 2 = 65536 := rfl
  have d4 : W.dd 4 = 4294967296 := rfl
  rw [(cc_at A).1 hA, d2] at e1
  rw [(cc_at (A + 2)).2.2.1 (by omega), d2] at e2
  rw [(cc_at A).1 hA, d4] at e3
  generalize W.wr (W.wr x A 2 v) (A + 2 : Nat) 2 (v / 65536) = y2 at *
  generalize W.wr x A 2 v = y1 at *
  generalize W.wr x A 4 v = y3 at *
  omega
theorem W.wr_four (x : Int) (A : Nat) (v : Int) (x0 : 0 ≤ x) (x1 : x < 4294967296) (v0 : 0 ≤ v) (v1 : v < 4294967296) (hA : A % 4 = 0) : W.wr (W.wr (W.wr (W.wr x A 1 v) (A + 1 : Nat) 1 (v / 256)) (A + 2 : Nat) 1 (v / 65536)) (A + 3 : Nat) 1 (v / 16777216) = W.wr x A 4 v := by
  rw [W.wr_two x A v x0 x1 v0 v1 (by omega)]
  have h1 := W.wr_lt x A 2 v
  have := W.wr_two (W.wr x A 2 v) (A + 2) (v / 65536) h1.1 h1.2 (by omega) (by omega) (by omega)
  rw [show v / 65536 / 256 = v / 16777216 by omega] at this
  rw [this]
  exact W.wr_halves x A v x0 x1 v0 v1 hA
theorem W.put_two (f : Nat → Int) (hr : ∀ j, 0 ≤ f j ∧ f j < 4294967296) (A : Nat) (v : Int) (v0 : 0 ≤ v) (v1 : v < 4294967296) (hA : A % 2 = 0) : W.put (W.put f A 1 v) (A + 1) 1 (v / 256) = W.put f A 2 v := by
  funext j
  unfold W.put
  by_cases e : j = A / 4
  · rw [if_pos e, if_pos (by omega), if_pos e, W.wr_two _ A v (hr _).1 (hr _).2 v0 v1 hA]
  · rw [if_neg e, if_neg (by omega), if_neg e]
theorem W.put_four (f : Nat → Int) (hr : ∀ j, 0 ≤ f j ∧ f j < 4294967296) (A : Nat) (v : Int) (v0 : 0 ≤ v) (v1 : v < 4294967296) (hA : A % 4 = 0) : W.put (W.put (W.put (W.put f A 1 v) (A + 1) 1 (v / 256)) (A + 2) 1 (v / 65536)) (A + 3) 1 (v / 16777216) = W.put f A 4 v := by
  funext j
  unfold W.put
  by_cases e : j = A / 4
  · rw [if_pos e, if_pos (by omega), if_pos (by omega), if_pos (by omega), if_pos e, W.wr_four _ A v (hr _).1 (hr _).2 v0 v1 hA]
  · rw [if_neg e, if_neg (by omega), if_neg (by omega), if_neg (by omega), if_neg e]

theorem rstore_no (b c n : Nat) (f : Nat → Int) (A : Nat) (s v : Int) (w : World) (hA : A < 4294967296) (h : RAt b c n f w) (hh : W.has n A s = false) : Calls Tryd.prog 15 #[.pointer (some ⟨b, 0, none⟩), .int .u32 (A : Int), .int .i64 s, .int .u32 v] w fun e w' => e = .returned (.bool false) ∧ w = w' := by
  go_enter Tryd.func15, Tryd.ntmps15
  go_wp2_with (go_at_call 34; refine (rhas_any _ _ _ _ _ _ _ hA h).mono ?_; rw [hh]; rintro e w' ⟨rfl, rfl⟩)
  go_ret
  exact ⟨rfl, rfl⟩

set_option maxHeartbeats 800000 in
theorem rstore_1 (b c n : Nat) (f : Nat → Int) (A : Nat) (v : Int) (v0 : 0 ≤ v) (v1 : v < 4294967296) (w : World) (hA : A < 4294967296) (h : RAt b c n f w) (hh : W.has n A 1 = true) : Calls Tryd.prog 15 #[.pointer (some ⟨b, 0, none⟩), .int .u32 (A : Int), .int .i64 1, .int .u32 v] w fun e w' => e = .returned (.bool true) ∧ RAt b c n (W.put f A 1 v) w' ∧ w.grownBy w' (some c) := by
  obtain ⟨ha, hl⟩ := has_al hh
  have hal := W.al_cases A 1 ha
  have n2 := h.n2
  have hq : A + 1 ≤ 16 * n := by omega
  obtain ⟨m, hm⟩ : ∃ m, 16 * n = m := ⟨_, rfl⟩
  have hlm : A + 1 ≤ m := by omega
  have u1 : 0 ≤ v / 256 ∧ v / 256 < 4294967296 := by omega
  have u2 : 0 ≤ v / 65536 ∧ v / 65536 < 4294967296 := by omega
  have u3 : 0 ≤ v / 16777216 ∧ v / 16777216 < 4294967296 := by omega
  have hrg := h.rg
  have gr : w.grownBy w (some c) := gbelow (Below.refl _ _)
  go_enter Tryd.func15, Tryd.ntmps15
  go_wp2_with (go_at_call 34; refine (rhas_any _ _ _ _ _ _ _ hA h).mono ?_; rw [hh]; rintro e w' ⟨rfl, rfl⟩)
  go_loopw [9] (fun i wr => (i = .int .i64 0 ∧ RAt b c n f wr ∧ w.grownBy wr (some c)) ∨ (i = .int .i64 1 ∧ RAt b c n (W.put f A 1 v) wr ∧ w.grownBy wr (some c))) (fun i _ => 1 - (intOf i).toNat)
  case atStart => exact Or.inl ⟨rfl, h, gr⟩
  case round =>
    rcases hrel with ⟨rfl, h1, h2⟩ | ⟨rfl, h1, h2⟩
    · have hd := h1.head
      rw [hm] at hd
      have k0 := h1.byte A (by omega)
      have kz := h1.frz
      go_wp2
      go_roundw
      case rel => exact Or.inr (⟨by go_num, h1.set1 A v v0 v1 (by omega), gtrans h2 (gset _ _ _ _)⟩)
      case measure => simp [intOf]
    · go_wp2
      go_ret
      exact ⟨rfl, h1, h2⟩

set_option maxHeartbeats 800000 in
theorem rstore_2 (b c n : Nat) (f : Nat → Int) (A : Nat) (v : Int) (v0 : 0 ≤ v) (v1 : v < 4294967296) (w : World) (hA : A < 4294967296) (h : RAt b c n f w) (hh : W.has n A 2 = true) : Calls Tryd.prog 15 #[.pointer (some ⟨b, 0, none⟩), .int .u32 (A : Int), .int .i64 2, .int .u32 v] w fun e w' => e = .returned (.bool true) ∧ RAt b c n (W.put f A 2 v) w' ∧ w.grownBy w' (some c) := by
  obtain ⟨ha, hl⟩ := has_al hh
  have hal := W.al_cases A 2 ha
  have n2 := h.n2
  have hq : A + 2 ≤ 16 * n := by omega
  obtain ⟨m, hm⟩ : ∃ m, 16 * n = m := ⟨_, rfl⟩
  have hlm : A + 2 ≤ m := by omega
  have u1 : 0 ≤ v / 256 ∧ v / 256 < 4294967296 := by omega
  have u2 : 0 ≤ v / 65536 ∧ v / 65536 < 4294967296 := by omega
  have u3 : 0 ≤ v / 16777216 ∧ v / 16777216 < 4294967296 := by omega
  have hrg := h.rg
  have gr : w.grownBy w (some c) := gbelow (Below.refl _ _)
  go_enter Tryd.func15, Tryd.ntmps15
  go_wp2_with (go_at_call 34; refine (rhas_any _ _ _ _ _ _ _ hA h).mono ?_; rw [hh]; rintro e w' ⟨rfl, rfl⟩)
  go_loopw [9] (fun i wr => (i = .int .i64 0 ∧ RAt b c n f wr ∧ w.grownBy wr (some c)) ∨ (i = .int .i64 1 ∧ RAt b c n (W.put f A 1 v) wr ∧ w.grownBy wr (some c)) ∨ (i = .int .i64 2 ∧ RAt b c n (W.put (W.put f A 1 v) (A + 1) 1 (v / 256)) wr ∧ w.grownBy wr (some c))) (fun i _ => 2 - (intOf i).toNat)
  case atStart => exact Or.inl ⟨rfl, h, gr⟩
  case round =>
    rcases hrel with ⟨rfl, h1, h2⟩ | ⟨rfl, h1, h2⟩ | ⟨rfl, h1, h2⟩
    · have hd := h1.head
      rw [hm] at hd
      have k0 := h1.byte A (by omega)
      have kz := h1.frz
      go_wp2
      go_roundw
      case rel => exact Or.inr (Or.inl ⟨by go_num, h1.set1 A v v0 v1 (by omega), gtrans h2 (gset _ _ _ _)⟩)
      case measure => simp [intOf]
    · have hd := h1.head
      rw [hm] at hd
      have k0 := h1.byte (A + 1) (by omega)
      have kz := h1.frz
      go_wp2
      go_roundw
      case rel => exact Or.inr (Or.inr (⟨by go_num, h1.set1 (A + 1) (v / 256) u1.1 u1.2 (by omega), gtrans h2 (gset _ _ _ _)⟩))
      case measure => simp [intOf]
    · go_wp2
      go_ret
      exact ⟨rfl, (by rw [← W.put_two f hrg A v v0 v1 (by omega)]; exact h1), h2⟩

set_option maxHeartbeats 800000 in
theorem rstore_4 (b c n : Nat) (f : Nat → Int) (A : Nat) (v : Int) (v0 : 0 ≤ v) (v1 : v < 4294967296) (w : World) (hA : A < 4294967296) (h : RAt b c n f w) (hh : W.has n A 4 = true) : Calls Tryd.prog 15 #[.pointer (some ⟨b, 0, none⟩), .int .u32 (A : Int), .int .i64 4, .int .u32 v] w fun e w' => e = .returned (.bool true) ∧ RAt b c n (W.put f A 4 v) w' ∧ w.grownBy w' (some c) := by
  obtain ⟨ha, hl⟩ := has_al hh
  have hal := W.al_cases A 4 ha
  have n2 := h.n2
  have hq : A + 4 ≤ 16 * n := by omega
  obtain ⟨m, hm⟩ : ∃ m, 16 * n = m := ⟨_, rfl⟩
  have hlm : A + 4 ≤ m := by omega
  have u1 : 0 ≤ v / 256 ∧ v / 256 < 4294967296 := by omega
  have u2 : 0 ≤ v / 65536 ∧ v / 65536 < 4294967296 := by omega
  have u3 : 0 ≤ v / 16777216 ∧ v / 16777216 < 4294967296 := by omega
  have hrg := h.rg
  have gr : w.grownBy w (some c) := gbelow (Below.refl _ _)
  go_enter Tryd.func15, Tryd.ntmps15
  go_wp2_with (go_at_call 34; refine (rhas_any _ _ _ _ _ _ _ hA h).mono ?_; rw [hh]; rintro e w' ⟨rfl, rfl⟩)
  go_loopw [9] (fun i wr => (i = .int .i64 0 ∧ RAt b c n f wr ∧ w.grownBy wr (some c)) ∨ (i = .int .i64 1 ∧ RAt b c n (W.put f A 1 v) wr ∧ w.grownBy wr (some c)) ∨ (i = .int .i64 2 ∧ RAt b c n (W.put (W.put f A 1 v) (A + 1) 1 (v / 256)) wr ∧ w.grownBy wr (some c)) ∨ (i = .int .i64 3 ∧ RAt b c n (W.put (W.put (W.put f A 1 v) (A + 1) 1 (v / 256)) (A + 2) 1 (v / 65536)) wr ∧ w.grownBy wr (some c)) ∨ (i = .int .i64 4 ∧ RAt b c n (W.put (W.put (W.put (W.put f A 1 v) (A + 1) 1 (v / 256)) (A + 2) 1 (v / 65536)) (A + 3) 1 (v / 16777216)) wr ∧ w.grownBy wr (some c))) (fun i _ => 4 - (intOf i).toNat)
  case atStart => exact Or.inl ⟨rfl, h, gr⟩
  case round =>
    rcases hrel with ⟨rfl, h1, h2⟩ | ⟨rfl, h1, h2⟩ | ⟨rfl, h1, h2⟩ | ⟨rfl, h1, h2⟩ | ⟨rfl, h1, h2⟩
    · have hd := h1.head
      rw [hm] at hd
      have k0 := h1.byte A (by omega)
      have kz := h1.frz
      go_wp2
      go_roundw
      case rel => exact Or.inr (Or.inl ⟨by go_num, h1.set1 A v v0 v1 (by omega), gtrans h2 (gset _ _ _ _)⟩)
      case measure => simp [intOf]
    · have hd := h1.head
      rw [hm] at hd
      have k0 := h1.byte (A + 1) (by omega)
      have kz := h1.frz
      go_wp2
      go_roundw
      case rel => exact Or.inr (Or.inr (Or.inl ⟨by go_num, h1.set1 (A + 1) (v / 256) u1.1 u1.2 (by omega), gtrans h2 (gset _ _ _ _)⟩))
      case measure => simp [intOf]
    · have hd := h1.head
      rw [hm] at hd
      have k0 := h1.byte (A + 2) (by omega)
      have kz := h1.frz
      go_wp2
      go_roundw
      case rel => exact Or.inr (Or.inr (Or.inr (Or.inl ⟨by go_num, h1.set1 (A + 2) (v / 65536) u2.1 u2.2 (by omega), gtrans h2 (gset _ _ _ _)⟩)))
      case measure => simp [intOf]
    · have hd := h1.head
      rw [hm] at hd
      have k0 := h1.byte (A + 3) (by omega)
      have kz := h1.frz
      go_wp2
      go_roundw
      case rel => exact Or.inr (Or.inr (Or.inr (Or.inr (⟨by go_num, (by have e := h1.set1 (A + 3) (v / 16777216) u3.1 u3.2 (by omega); rw [show v / 16777216 % 256 = v / 16777216 by omega] at e; exact e), gtrans h2 (gset _ _ _ _)⟩))))
      case measure => simp [intOf]
    · go_wp2
      go_ret
      exact ⟨rfl, (by rw [← W.put_four f hrg A v v0 v1 (by omega)]; exact h1), h2⟩

theorem rstore_any (b c n : Nat) (f : Nat → Int) (A : Nat) (s v : Int) (v0 : 0 ≤ v) (v1 : v < 4294967296) (w : World) (hA : A < 4294967296) (h : RAt b c n f w) : Calls Tryd.prog 15 #[.pointer (some ⟨b, 0, none⟩), .int .u32 (A : Int), .int .i64 s, .int .u32 v] w fun e w' => e = .returned (.bool (W.has n A s)) ∧ RAt b c n (W.stored n f A s v) w' ∧ w.grownBy w' (some c) := by
  cases hh : W.has n A s
  · refine (rstore_no b c n f A s v w hA h hh).mono fun e w' ⟨a1, a2⟩ => ⟨a1, ?_, ?_⟩
    · rw [← a2, W.stored, hh]; exact h
    · rw [← a2]; exact gbelow (Below.refl _ _)
  · obtain ⟨ha, hl⟩ := has_al hh
    have h3 : s = 1 ∨ s = 2 ∨ s = 4 := by rcases W.al_cases A s ha with h | h | h | h | h | h | h <;> omega
    rw [W.stored, hh]
    rcases h3 with rfl | rfl | rfl
    · exact rstore_1 b c n f A v v0 v1 w hA h hh
    · exact rstore_2 b c n f A v v0 v1 w hA h hh
    · exact rstore_4 b c n f A v v0 v1 w hA h hh
end Go.Proofs.YtjdiepklgcdamaaDoor
