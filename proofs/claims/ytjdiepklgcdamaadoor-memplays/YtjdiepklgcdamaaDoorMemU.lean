/- Load of the document's memory. -/
import Derived.Test.YtjdiepklgcdamaaDoorMemT
namespace Go.Proofs.YtjdiepklgcdamaaDoor
open Go.ChangeShapes Go.WideShapes Go.ChangeAt Go.RowKit
set_option linter.unusedVariables false
set_option linter.unusedSimpArgs false

theorem W.orb (a y : Int) (a0 : 0 ≤ a) (a1 : a < 16777216) (y0 : 0 ≤ y) (y1 : y < 256) : bits .or .u32 (a * 256) y = a * 256 + y := by
  rw [u32_or _ _ (by omega) (by omega) y0 (by omega), Nat.or_comm, ← u32_or y (a * 256) y0 (by omega) (by omega) (by omega)]
  have := W.or_join (a * 256) y 8 (by omega) (by omega) y0 (by omega) (by decide) (by omega)
  rw [this]
theorem W.or0 (y : Int) (y0 : 0 ≤ y) (y1 : y < 256) : bits .or .u32 0 y = y := by
  have := W.orb 0 y (by decide) (by decide) y0 y1
  simpa using this
theorem pt_bytes (f : Nat → Int) (hr : ∀ j, 0 ≤ f j ∧ f j < 4294967296) (A : Nat) :
    (A % 2 = 0 → W.pt (f (A / 4)) A 2 = W.byte f (A + 1) * 256 + W.byte f A) ∧
    (A % 4 = 0 → W.pt (f (A / 4)) A 4 = ((W.byte f (A + 3) * 256 + W.byte f (A + 2)) * 256 + W.byte f (A + 1)) * 256 + W.byte f A) := by
  have hx := hr (A / 4)
  constructor
  · intro h
    unfold W.byte
    rw [show (A + 1) / 4 = A / 4 by omega]
    generalize f (A / 4) = x at *
    rw [W.pt_eq x A 2 hx.1 hx.2 (W.al_2 _ h), byte_eq _ _ hx.1 hx.2, byte_eq _ _ hx.1 hx.2, show W.dd 2 = 65536 from rfl]
    have h4 : A % 4 = 0 ∨ A % 4 = 2 := by omega
    rcases h4 with h4 | h4
    · rw [(cc_at A).1 h4, (cc_at (A + 1)).2.1 (by omega)]; omega
    · rw [(cc_at A).2.2.1 h4, (cc_at (A + 1)).2.2.2 (by omega)]; omega
  · intro h
    unfold W.byte
    rw [show (A + 1) / 4 = A / 4 by omega, show (A + 2) / 4 = A / 4 by omega, show (A + 3) / 4 = A / 4 by omega]
    generalize f (A / 4) = x at *
    rw [W.pt_eq x A 4 hx.1 hx.2 (W.al_4 _ h), byte_eq _ _ hx.1 hx.2, byte_eq _ _ hx.1 hx.2, byte_eq _ _ hx.1 hx.2, byte_eq _ _ hx.1 hx.2, show W.dd 4 = 4294967296 from rfl]
    rw [(cc_at A).1 h, (cc_at (A + 1)).2.1 (by omega), (cc_at (A + 2)).2.2.1 (by omega), (cc_at (A + 3)).2.2.2 (by omega)]
    omega

theorem rload_no (b c n : Nat) (f : Nat → Int) (A : Nat) (s : Int) (w : World) (hA : A < 4294967296) (h : RAt b c n f w) (hh : W.has n A s = false) : Calls Tryd.prog 19 #[.pointer (some ⟨b, 0, none⟩), .int .u32 (A : Int), .int .i64 s] w fun e w' => e = .returned (.tuple #[.int .u32 0, .bool false]) ∧ w = w' := by
  go_enter Tryd.func19, Tryd.ntmps19
  go_wp2_with (go_at_call 34; refine (rhas_any _ _ _ _ _ _ _ hA h).mono ?_; rw [hh]; rintro e w' ⟨rfl, rfl⟩)
  exact bodyPost_ret (v := .tuple #[.int .u32 0, .bool false]) (by simp [results, Tryd.results19, go_sem]) rfl ⟨rfl, rfl⟩

set_option maxHeartbeats 800000 in
theorem rload_1 (b c n : Nat) (f : Nat → Int) (A : Nat) (w : World) (hA : A < 4294967296) (h : RAt b c n f w) (hh : W.has n A 1 = true) : Calls Tryd.prog 19 #[.pointer (some ⟨b, 0, none⟩), .int .u32 (A : Int), .int .i64 1] w fun e w' => e = .returned (.tuple #[.int .u32 (W.pt (f (A / 4)) A 1), .bool true]) ∧ w = w' := by
  obtain ⟨ha, hl⟩ := has_al hh
  have hal := W.al_cases A 1 ha
  have n2 := h.n2
  have hq : A + 1 ≤ 16 * n := by omega
  have hpb := pt_bytes f h.rg A
  obtain ⟨m, hm⟩ : ∃ m, 16 * n = m := ⟨_, rfl⟩
  have hlm : A + 1 ≤ m := by omega
  have hd := h.head
  rw [hm] at hd
  have k0 := h.byte A (by omega)
  have r0 := byte_rg h.rg A
  have hy0 : Hid (W.byte f A = W.byte f A) := (rfl : W.byte f A = W.byte f A)
  have hv : Hid (W.byte f A = W.pt (f (A / 4)) A 1) := (rfl : W.byte f A = W.byte f A)
  clear hpb hy0
  generalize W.byte f A = y0 at *
  have o0 := W.or0 y0 r0.1 r0.2
  go_enter Tryd.func19, Tryd.ntmps19
  go_wp2_with (go_at_call 34; refine (rhas_any _ _ _ _ _ _ _ hA h).mono ?_; rw [hh]; rintro e w' ⟨rfl, rfl⟩)
  go_loopw [8, 9] (fun t i wr => (i = .int .i64 (0) ∧ t = .int .u32 0 ∧ wr = w) ∨ (i = .int .i64 (-1) ∧ t = .int .u32 y0 ∧ wr = w)) (fun _ i _ => (intOf i + 1).toNat)
  case atStart => exact Or.inl ⟨by go_num, rfl, rfl⟩
  case round =>
    rcases hrel with ⟨rfl, rfl, rfl⟩ | ⟨rfl, rfl, rfl⟩
    · go_wp2
      go_roundw
      case rel => exact Or.inr (⟨by go_num, by first | rfl | trivial, by first | rfl | trivial⟩)
      case measure => simp [intOf]
    · go_wp2
      exact bodyPost_ret (v := .tuple #[.int .u32 (W.pt (f (A / 4)) A 1), .bool true]) (by rw [← hv.out]; simp [results, Tryd.results19, go_sem]) rfl ⟨rfl, rfl⟩

set_option maxHeartbeats 800000 in
theorem rload_2 (b c n : Nat) (f : Nat → Int) (A : Nat) (w : World) (hA : A < 4294967296) (h : RAt b c n f w) (hh : W.has n A 2 = true) : Calls Tryd.prog 19 #[.pointer (some ⟨b, 0, none⟩), .int .u32 (A : Int), .int .i64 2] w fun e w' => e = .returned (.tuple #[.int .u32 (W.pt (f (A / 4)) A 2), .bool true]) ∧ w = w' := by
  obtain ⟨ha, hl⟩ := has_al hh
  have hal := W.al_cases A 2 ha
  have n2 := h.n2
  have hq : A + 2 ≤ 16 * n := by omega
  have hpb := pt_bytes f h.rg A
  obtain ⟨m, hm⟩ : ∃ m, 16 * n = m := ⟨_, rfl⟩
  have hlm : A + 2 ≤ m := by omega
  have hd := h.head
  rw [hm] at hd
  have k0 := h.byte A (by omega)
  have r0 := byte_rg h.rg A
  have hy0 : Hid (W.byte f A = W.byte f A) := (rfl : W.byte f A = W.byte f A)
  have k1 := h.byte (A + 1) (by omega)
  have r1 := byte_rg h.rg (A + 1)
  have hy1 : Hid (W.byte f (A + 1) = W.byte f (A + 1)) := (rfl : W.byte f (A + 1) = W.byte f (A + 1))
  have hv : Hid (W.byte f (A + 1) * 256 + W.byte f A = W.pt (f (A / 4)) A 2) := (hpb.1 (by omega)).symm
  clear hpb hy0 hy1
  generalize W.byte f A = y0 at *
  generalize W.byte f (A + 1) = y1 at *
  have o1 := W.or0 y1 r1.1 r1.2
  have o0 := W.orb y1 y0 (by omega) (by omega) r0.1 r0.2
  go_enter Tryd.func19, Tryd.ntmps19
  go_wp2_with (go_at_call 34; refine (rhas_any _ _ _ _ _ _ _ hA h).mono ?_; rw [hh]; rintro e w' ⟨rfl, rfl⟩)
  go_loopw [8, 9] (fun t i wr => (i = .int .i64 (1) ∧ t = .int .u32 0 ∧ wr = w) ∨ (i = .int .i64 (0) ∧ t = .int .u32 y1 ∧ wr = w) ∨ (i = .int .i64 (-1) ∧ t = .int .u32 (y1 * 256 + y0) ∧ wr = w)) (fun _ i _ => (intOf i + 1).toNat)
  case atStart => exact Or.inl ⟨by go_num, rfl, rfl⟩
  case round =>
    rcases hrel with ⟨rfl, rfl, rfl⟩ | ⟨rfl, rfl, rfl⟩ | ⟨rfl, rfl, rfl⟩
    · go_wp2
      go_roundw
      case rel => exact Or.inr (Or.inl ⟨by go_num, by first | rfl | trivial, by first | rfl | trivial⟩)
      case measure => simp [intOf]
    · go_wp2
      go_roundw
      case rel => exact Or.inr (Or.inr (⟨by go_num, by first | rfl | trivial, by first | rfl | trivial⟩))
      case measure => simp [intOf]
    · go_wp2
      exact bodyPost_ret (v := .tuple #[.int .u32 (W.pt (f (A / 4)) A 2), .bool true]) (by rw [← hv.out]; simp [results, Tryd.results19, go_sem]) rfl ⟨rfl, rfl⟩

set_option maxHeartbeats 800000 in
theorem rload_4 (b c n : Nat) (f : Nat → Int) (A : Nat) (w : World) (hA : A < 4294967296) (h : RAt b c n f w) (hh : W.has n A 4 = true) : Calls Tryd.prog 19 #[.pointer (some ⟨b, 0, none⟩), .int .u32 (A : Int), .int .i64 4] w fun e w' => e = .returned (.tuple #[.int .u32 (W.pt (f (A / 4)) A 4), .bool true]) ∧ w = w' := by
  obtain ⟨ha, hl⟩ := has_al hh
  have hal := W.al_cases A 4 ha
  have n2 := h.n2
  have hq : A + 4 ≤ 16 * n := by omega
  have hpb := pt_bytes f h.rg A
  obtain ⟨m, hm⟩ : ∃ m, 16 * n = m := ⟨_, rfl⟩
  have hlm : A + 4 ≤ m := by omega
  have hd := h.head
  rw [hm] at hd
  have k0 := h.byte A (by omega)
  have r0 := byte_rg h.rg A
  have hy0 : Hid (W.byte f A = W.byte f A) := (rfl : W.byte f A = W.byte f A)
  have k1 := h.byte (A + 1) (by omega)
  have r1 := byte_rg h.rg (A + 1)
  have hy1 : Hid (W.byte f (A + 1) = W.byte f (A + 1)) := (rfl : W.byte f (A + 1) = W.byte f (A + 1))
  have k2 := h.byte (A + 2) (by omega)
  have r2 := byte_rg h.rg (A + 2)
  have hy2 : Hid (W.byte f (A + 2) = W.byte f (A + 2)) := (rfl : W.byte f (A + 2) = W.byte f (A + 2))
  have k3 := h.byte (A + 3) (by omega)
  have r3 := byte_rg h.rg (A + 3)
  have hy3 : Hid (W.byte f (A + 3) = W.byte f (A + 3)) := (rfl : W.byte f (A + 3) = W.byte f (A + 3))
  have hv : Hid (((W.byte f (A + 3) * 256 + W.byte f (A + 2)) * 256 + W.byte f (A + 1)) * 256 + W.byte f A = W.pt (f (A / 4)) A 4) := (hpb.2 (by omega)).symm
  clear hpb hy0 hy1 hy2 hy3
  generalize W.byte f A = y0 at *
  generalize W.byte f (A + 1) = y1 at *
  generalize W.byte f (A + 2) = y2 at *
  generalize W.byte f (A + 3) = y3 at *
  have o3 := W.or0 y3 r3.1 r3.2
  have o2 := W.orb y3 y2 (by omega) (by omega) r2.1 r2.2
  have o1 := W.orb (y3 * 256 + y2) y1 (by omega) (by omega) r1.1 r1.2
  have o0 := W.orb ((y3 * 256 + y2) * 256 + y1) y0 (by omega) (by omega) r0.1 r0.2
  go_enter Tryd.func19, Tryd.ntmps19
  go_wp2_with (go_at_call 34; refine (rhas_any _ _ _ _ _ _ _ hA h).mono ?_; rw [hh]; rintro e w' ⟨rfl, rfl⟩)
  go_loopw [8, 9] (fun t i wr => (i = .int .i64 (3) ∧ t = .int .u32 0 ∧ wr = w) ∨ (i = .int .i64 (2) ∧ t = .int .u32 y3 ∧ wr = w) ∨ (i = .int .i64 (1) ∧ t = .int .u32 (y3 * 256 + y2) ∧ wr = w) ∨ (i = .int .i64 (0) ∧ t = .int .u32 ((y3 * 256 + y2) * 256 + y1) ∧ wr = w) ∨ (i = .int .i64 (-1) ∧ t = .int .u32 (((y3 * 256 + y2) * 256 + y1) * 256 + y0) ∧ wr = w)) (fun _ i _ => (intOf i + 1).toNat)
  case atStart => exact Or.inl ⟨by go_num, rfl, rfl⟩
  case round =>
    rcases hrel with ⟨rfl, rfl, rfl⟩ | ⟨rfl, rfl, rfl⟩ | ⟨rfl, rfl, rfl⟩ | ⟨rfl, rfl, rfl⟩ | ⟨rfl, rfl, rfl⟩
    · go_wp2
      go_roundw
      case rel => exact Or.inr (Or.inl ⟨by go_num, by first | rfl | trivial, by first | rfl | trivial⟩)
      case measure => simp [intOf]
    · go_wp2
      go_roundw
      case rel => exact Or.inr (Or.inr (Or.inl ⟨by go_num, by first | rfl | trivial, by first | rfl | trivial⟩))
      case measure => simp [intOf]
    · go_wp2
      go_roundw
      case rel => exact Or.inr (Or.inr (Or.inr (Or.inl ⟨by go_num, by first | rfl | trivial, by first | rfl | trivial⟩)))
      case measure => simp [intOf]
    · go_wp2
      go_roundw
      case rel => exact Or.inr (Or.inr (Or.inr (Or.inr (⟨by go_num, by first | rfl | trivial, by first | rfl | trivial⟩))))
      case measure => simp [intOf]
    · go_wp2
      exact bodyPost_ret (v := .tuple #[.int .u32 (W.pt (f (A / 4)) A 4), .bool true]) (by rw [← hv.out]; simp [results, Tryd.results19, go_sem]) rfl ⟨rfl, rfl⟩

theorem rload_any (b c n : Nat) (f : Nat → Int) (A : Nat) (s : Int) (w : World) (hA : A < 4294967296) (h : RAt b c n f w) : Calls Tryd.prog 19 #[.pointer (some ⟨b, 0, none⟩), .int .u32 (A : Int), .int .i64 s] w fun e w' => e = .returned (.tuple #[.int .u32 (W.loadV n f A s), .bool (W.has n A s)]) ∧ w = w' := by
  cases hh : W.has n A s
  · exact (rload_no b c n f A s w hA h hh).mono fun e w' ⟨a, d⟩ => ⟨by rw [a, W.loadV, hh]; rfl, d⟩
  · obtain ⟨ha, hl⟩ := has_al hh
    have h3 : s = 1 ∨ s = 2 ∨ s = 4 := by rcases W.al_cases A s ha with h | h | h | h | h | h | h <;> omega
    rw [W.loadV, hh]
    rcases h3 with rfl | rfl | rfl
    · exact rload_1 b c n f A w hA h hh
    · exact rload_2 b c n f A w hA h hh
    · exact rload_4 b c n f A w hA h hh
end Go.Proofs.YtjdiepklgcdamaaDoor
