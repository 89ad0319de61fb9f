/- Texts in one: PrC15. -/
import Derived.Test.YtmihcicepgjogaaGreatDoorJ19
/- The document's Print, class 15. -/
namespace Go.Proofs.YtmihcicepgjogaaGreatDoor
open Go.ChangeShapes Go.WideShapes Go.ChangeAt Go.RowKit
set_option linter.unusedVariables false
set_option linter.unusedSimpArgs false

set_option maxRecDepth 100000 in
set_option maxHeartbeats 800000 in
theorem rprint_15 (A : Nat → Addr) (op : Int) (d a b c : Nat) (im : Int) (nm : List UInt8) (ro oc f3 f7 : Int) (h3 h7 : Bool) (fm wh : Int) (z1 z2 z3 z4 z5 : Bool) (o1 : 59 ≤ op) (o2 : op ≤ 59) (hd : d < 32) (ha : a < 32) (hb : b < 32)
    (hr : Hid (W.rw (op.toNat - 1) = ⟨ro, nm, oc, f3, f7, h3, h7, fm, z1, z2, z3, z4, wh, z5⟩)) (hnl : nm.length ≤ 20) (w : World) (hS : Sg A w) :
    Calls Tryz.prog 11 #[inV ⟨op, d, a, b, c, im, false, false⟩] w fun e w' => e = .returned (.string ⟨(((((nm ++ [32]) ++ (W.regL d)) ++ [44, 32, 40]) ++ (W.regL a)) ++ [41]).toArray⟩) ∧ Below w.heap.size w w' := by
  have HS : Hid (Sg A w) := hS
  have HD : Hid (d < 32 ∧ a < 32 ∧ b < 32) := ⟨hd, ha, hb⟩
  have HO : Hid (1 ≤ op ∧ op ≤ 69) := (⟨by omega, by omega⟩ : 1 ≤ op ∧ op ≤ 69)
  have e1 : (op == 1) = false := by simp; omega
  have e2 : (op == 2) = false := by simp; omega
  have e3 : (op == 3) = false := by simp; omega
  have e4 : (op == 4) = false := by simp; omega
  have e38 : (op == 38) = false := by simp; omega
  have e44 : (op == 44) = false := by simp; omega
  have e59 : (op == 59) = true := by simp; omega
  have g11 : decide (11 ≤ op) = true := by simp; omega
  have g16 : decide (16 ≤ op) = true := by simp; omega
  have g5 : decide (5 ≤ op) = true := by simp; omega
  have g19 : decide (19 ≤ op) = true := by simp; omega
  have g25 : decide (25 ≤ op) = true := by simp; omega
  have g28 : decide (28 ≤ op) = true := by simp; omega
  have g51 : decide (51 ≤ op) = true := by simp; omega
  have g45 : decide (45 ≤ op) = true := by simp; omega
  have g48 : decide (48 ≤ op) = true := by simp; omega
  have g60 : decide (60 ≤ op) = false := by simp; omega
  have l15 : decide (op ≤ 15) = false := by simp; omega
  have l18 : decide (op ≤ 18) = false := by simp; omega
  have l10 : decide (op ≤ 10) = false := by simp; omega
  have l24 : decide (op ≤ 24) = false := by simp; omega
  have l27 : decide (op ≤ 27) = false := by simp; omega
  have l37 : decide (op ≤ 37) = false := by simp; omega
  have l58 : decide (op ≤ 58) = false := by simp; omega
  have l47 : decide (op ≤ 47) = false := by simp; omega
  have l50 : decide (op ≤ 50) = false := by simp; omega
  have l69 : decide (op ≤ 69) = true := by simp; omega
  have kd : (W.regL d).length ≤ 30 := by have := dec_len d (by omega); simp [W.regL]; omega
  have ka : (W.regL a).length ≤ 30 := by have := dec_len a (by omega); simp [W.regL]; omega
  have kb : (W.regL b).length ≤ 30 := by have := dec_len b (by omega); simp [W.regL]; omega
  have s1 : ¬ 9223372036854775807 < nm.length + 1 := by omega
  have s2 : ¬ 9223372036854775807 < nm.length + 1 + (W.regL d).length := by omega
  have s3 : ¬ 9223372036854775807 < nm.length + 1 + (W.regL d).length + 3 := by omega
  have s4 : ¬ 9223372036854775807 < nm.length + 1 + (W.regL d).length + 3 + (W.regL a).length := by omega
  have s5 : ¬ 9223372036854775807 < nm.length + 1 + (W.regL d).length + 3 + (W.regL a).length + 1 := by omega
  clear hS hd ha hb o1 o2 hnl
  unfold inV
  go_enter Tryz.func11, Tryz.ntmps11
  go_wp2_with (first
    | (go_at_call 27; refine (of_some _ HO.out.1 HO.out.2 _).mono ?_; rintro e w1 ⟨rfl, hm⟩; have hb : Hid (Below w.heap.size w w1) := ((Below.refl _ _).alloc (Nat.le_refl _) _).trans (hm.mono (by simp)); have hlt : w.heap.size < w1.heap.size := (by have := hm.size; simp at this; omega); obtain ⟨x0, x1, x2, x3, x4, x5, x6, x7⟩ := (InAt.start w (⟨op, d, a, b, c, im, false, false⟩ : W.I) _).below hm; clear hm; rw [hr.out]; unfold rwV rwA)
    | (go_at_call 31; refine (rreg_any _ (by have := HD.out; omega) _).mono ?_; rintro e w' ⟨rfl, rfl⟩))
  go_ret
  refine ⟨congrArg (fun s => Ending.returned (.string s)) ?_, hb.out.alloc hb.out.size _⟩
  rw [ba_append, ba_append, ba_append, ba_append, ba_append]

set_option maxRecDepth 100000 in
set_option maxHeartbeats 800000 in
theorem rprint_15r (A : Nat → Addr) (op : Int) (d a b c : Nat) (im : Int) (nm : List UInt8) (ro oc f3 f7 : Int) (h3 h7 : Bool) (fm wh : Int) (z1 z2 z3 z4 z5 : Bool) (o1 : 59 ≤ op) (o2 : op ≤ 59) (hd : d < 32) (ha : a < 32) (hb : b < 32)
    (hr : Hid (W.rw (op.toNat - 1) = ⟨ro, nm, oc, f3, f7, h3, h7, fm, z1, z2, z3, z4, wh, z5⟩)) (hnl : nm.length ≤ 20) (w : World) (hS : Sg A w) :
    Calls Tryz.prog 11 #[inV ⟨op, d, a, b, c, im, false, true⟩] w fun e w' => e = .returned (.string ⟨((((((nm ++ [46, 114, 108]) ++ [32]) ++ (W.regL d)) ++ [44, 32, 40]) ++ (W.regL a)) ++ [41]).toArray⟩) ∧ Below w.heap.size w w' := by
  have HS : Hid (Sg A w) := hS
  have HD : Hid (d < 32 ∧ a < 32 ∧ b < 32) := ⟨hd, ha, hb⟩
  have HO : Hid (1 ≤ op ∧ op ≤ 69) := (⟨by omega, by omega⟩ : 1 ≤ op ∧ op ≤ 69)
  have e1 : (op == 1) = false := by simp; omega
  have e2 : (op == 2) = false := by simp; omega
  have e3 : (op == 3) = false := by simp; omega
  have e4 : (op == 4) = false := by simp; omega
  have e38 : (op == 38) = false := by simp; omega
  have e44 : (op == 44) = false := by simp; omega
  have e59 : (op == 59) = true := by simp; omega
  have g11 : decide (11 ≤ op) = true := by simp; omega
  have g16 : decide (16 ≤ op) = true := by simp; omega
  have g5 : decide (5 ≤ op) = true := by simp; omega
  have g19 : decide (19 ≤ op) = true := by simp; omega
  have g25 : decide (25 ≤ op) = true := by simp; omega
  have g28 : decide (28 ≤ op) = true := by simp; omega
  have g51 : decide (51 ≤ op) = true := by simp; omega
  have g45 : decide (45 ≤ op) = true := by simp; omega
  have g48 : decide (48 ≤ op) = true := by simp; omega
  have g60 : decide (60 ≤ op) = false := by simp; omega
  have l15 : decide (op ≤ 15) = false := by simp; omega
  have l18 : decide (op ≤ 18) = false := by simp; omega
  have l10 : decide (op ≤ 10) = false := by simp; omega
  have l24 : decide (op ≤ 24) = false := by simp; omega
  have l27 : decide (op ≤ 27) = false := by simp; omega
  have l37 : decide (op ≤ 37) = false := by simp; omega
  have l58 : decide (op ≤ 58) = false := by simp; omega
  have l47 : decide (op ≤ 47) = false := by simp; omega
  have l50 : decide (op ≤ 50) = false := by simp; omega
  have l69 : decide (op ≤ 69) = true := by simp; omega
  have kd : (W.regL d).length ≤ 30 := by have := dec_len d (by omega); simp [W.regL]; omega
  have ka : (W.regL a).length ≤ 30 := by have := dec_len a (by omega); simp [W.regL]; omega
  have kb : (W.regL b).length ≤ 30 := by have := dec_len b (by omega); simp [W.regL]; omega
  have s1 : ¬ 9223372036854775807 < nm.length + 3 + 1 := by omega
  have s2 : ¬ 9223372036854775807 < nm.length + 3 + 1 + (W.regL d).length := by omega
  have s3 : ¬ 9223372036854775807 < nm.length + 3 + 1 + (W.regL d).length + 3 := by omega
  have s4 : ¬ 9223372036854775807 < nm.length + 3 + 1 + (W.regL d).length + 3 + (W.regL a).length := by omega
  have s5 : ¬ 9223372036854775807 < nm.length + 3 + 1 + (W.regL d).length + 3 + (W.regL a).length + 1 := by omega
  clear hS hd ha hb o1 o2 hnl
  unfold inV
  go_enter Tryz.func11, Tryz.ntmps11
  go_wp2_with (first
    | (go_at_call 27; refine (of_some _ HO.out.1 HO.out.2 _).mono ?_; rintro e w1 ⟨rfl, hm⟩; have hb : Hid (Below w.heap.size w w1) := ((Below.refl _ _).alloc (Nat.le_refl _) _).trans (hm.mono (by simp)); have hlt : w.heap.size < w1.heap.size := (by have := hm.size; simp at this; omega); obtain ⟨x0, x1, x2, x3, x4, x5, x6, x7⟩ := (InAt.start w (⟨op, d, a, b, c, im, false, true⟩ : W.I) _).below hm; clear hm; rw [hr.out]; unfold rwV rwA)
    | (go_at_call 31; refine (rreg_any _ (by have := HD.out; omega) _).mono ?_; rintro e w' ⟨rfl, rfl⟩))
  go_ret
  refine ⟨congrArg (fun s => Ending.returned (.string s)) ?_, hb.out.alloc hb.out.size _⟩
  rw [ba_append, ba_append, ba_append, ba_append, ba_append, ba_append]

set_option maxRecDepth 100000 in
set_option maxHeartbeats 800000 in
theorem rprint_15a (A : Nat → Addr) (op : Int) (d a b c : Nat) (im : Int) (nm : List UInt8) (ro oc f3 f7 : Int) (h3 h7 : Bool) (fm wh : Int) (z1 z2 z3 z4 z5 : Bool) (o1 : 59 ≤ op) (o2 : op ≤ 59) (hd : d < 32) (ha : a < 32) (hb : b < 32)
    (hr : Hid (W.rw (op.toNat - 1) = ⟨ro, nm, oc, f3, f7, h3, h7, fm, z1, z2, z3, z4, wh, z5⟩)) (hnl : nm.length ≤ 20) (w : World) (hS : Sg A w) :
    Calls Tryz.prog 11 #[inV ⟨op, d, a, b, c, im, true, false⟩] w fun e w' => e = .returned (.string ⟨((((((nm ++ [46, 97, 113]) ++ [32]) ++ (W.regL d)) ++ [44, 32, 40]) ++ (W.regL a)) ++ [41]).toArray⟩) ∧ Below w.heap.size w w' := by
  have HS : Hid (Sg A w) := hS
  have HD : Hid (d < 32 ∧ a < 32 ∧ b < 32) := ⟨hd, ha, hb⟩
  have HO : Hid (1 ≤ op ∧ op ≤ 69) := (⟨by omega, by omega⟩ : 1 ≤ op ∧ op ≤ 69)
  have e1 : (op == 1) = false := by simp; omega
  have e2 : (op == 2) = false := by simp; omega
  have e3 : (op == 3) = false := by simp; omega
  have e4 : (op == 4) = false := by simp; omega
  have e38 : (op == 38) = false := by simp; omega
  have e44 : (op == 44) = false := by simp; omega
  have e59 : (op == 59) = true := by simp; omega
  have g11 : decide (11 ≤ op) = true := by simp; omega
  have g16 : decide (16 ≤ op) = true := by simp; omega
  have g5 : decide (5 ≤ op) = true := by simp; omega
  have g19 : decide (19 ≤ op) = true := by simp; omega
  have g25 : decide (25 ≤ op) = true := by simp; omega
  have g28 : decide (28 ≤ op) = true := by simp; omega
  have g51 : decide (51 ≤ op) = true := by simp; omega
  have g45 : decide (45 ≤ op) = true := by simp; omega
  have g48 : decide (48 ≤ op) = true := by simp; omega
  have g60 : decide (60 ≤ op) = false := by simp; omega
  have l15 : decide (op ≤ 15) = false := by simp; omega
  have l18 : decide (op ≤ 18) = false := by simp; omega
  have l10 : decide (op ≤ 10) = false := by simp; omega
  have l24 : decide (op ≤ 24) = false := by simp; omega
  have l27 : decide (op ≤ 27) = false := by simp; omega
  have l37 : decide (op ≤ 37) = false := by simp; omega
  have l58 : decide (op ≤ 58) = false := by simp; omega
  have l47 : decide (op ≤ 47) = false := by simp; omega
  have l50 : decide (op ≤ 50) = false := by simp; omega
  have l69 : decide (op ≤ 69) = true := by simp; omega
  have kd : (W.regL d).length ≤ 30 := by have := dec_len d (by omega); simp [W.regL]; omega
  have ka : (W.regL a).length ≤ 30 := by have := dec_len a (by omega); simp [W.regL]; omega
  have kb : (W.regL b).length ≤ 30 := by have := dec_len b (by omega); simp [W.regL]; omega
  have s1 : ¬ 9223372036854775807 < nm.length + 3 + 1 := by omega
  have s2 : ¬ 9223372036854775807 < nm.length + 3 + 1 + (W.regL d).length := by omega
  have s3 : ¬ 9223372036854775807 < nm.length + 3 + 1 + (W.regL d).length + 3 := by omega
  have s4 : ¬ 9223372036854775807 < nm.length + 3 + 1 + (W.regL d).length + 3 + (W.regL a).length := by omega
  have s5 : ¬ 9223372036854775807 < nm.length + 3 + 1 + (W.regL d).length + 3 + (W.regL a).length + 1 := by omega
  clear hS hd ha hb o1 o2 hnl
  unfold inV
  go_enter Tryz.func11, Tryz.ntmps11
  go_wp2_with (first
    | (go_at_call 27; refine (of_some _ HO.out.1 HO.out.2 _).mono ?_; rintro e w1 ⟨rfl, hm⟩; have hb : Hid (Below w.heap.size w w1) := ((Below.refl _ _).alloc (Nat.le_refl _) _).trans (hm.mono (by simp)); have hlt : w.heap.size < w1.heap.size := (by have := hm.size; simp at this; omega); obtain ⟨x0, x1, x2, x3, x4, x5, x6, x7⟩ := (InAt.start w (⟨op, d, a, b, c, im, true, false⟩ : W.I) _).below hm; clear hm; rw [hr.out]; unfold rwV rwA)
    | (go_at_call 31; refine (rreg_any _ (by have := HD.out; omega) _).mono ?_; rintro e w' ⟨rfl, rfl⟩))
  go_ret
  refine ⟨congrArg (fun s => Ending.returned (.string s)) ?_, hb.out.alloc hb.out.size _⟩
  rw [ba_append, ba_append, ba_append, ba_append, ba_append, ba_append]

set_option maxRecDepth 100000 in
set_option maxHeartbeats 800000 in
theorem rprint_15ar (A : Nat → Addr) (op : Int) (d a b c : Nat) (im : Int) (nm : List UInt8) (ro oc f3 f7 : Int) (h3 h7 : Bool) (fm wh : Int) (z1 z2 z3 z4 z5 : Bool) (o1 : 59 ≤ op) (o2 : op ≤ 59) (hd : d < 32) (ha : a < 32) (hb : b < 32)
    (hr : Hid (W.rw (op.toNat - 1) = ⟨ro, nm, oc, f3, f7, h3, h7, fm, z1, z2, z3, z4, wh, z5⟩)) (hnl : nm.length ≤ 20) (w : World) (hS : Sg A w) :
    Calls Tryz.prog 11 #[inV ⟨op, d, a, b, c, im, true, true⟩] w fun e w' => e = .returned (.string ⟨(((((((nm ++ [46, 97, 113]) ++ [46, 114, 108]) ++ [32]) ++ (W.regL d)) ++ [44, 32, 40]) ++ (W.regL a)) ++ [41]).toArray⟩) ∧ Below w.heap.size w w' := by
  have HS : Hid (Sg A w) := hS
  have HD : Hid (d < 32 ∧ a < 32 ∧ b < 32) := ⟨hd, ha, hb⟩
  have HO : Hid (1 ≤ op ∧ op ≤ 69) := (⟨by omega, by omega⟩ : 1 ≤ op ∧ op ≤ 69)
  have e1 : (op == 1) = false := by simp; omega
  have e2 : (op == 2) = false := by simp; omega
  have e3 : (op == 3) = false := by simp; omega
  have e4 : (op == 4) = false := by simp; omega
  have e38 : (op == 38) = false := by simp; omega
  have e44 : (op == 44) = false := by simp; omega
  have e59 : (op == 59) = true := by simp; omega
  have g11 : decide (11 ≤ op) = true := by simp; omega
  have g16 : decide (16 ≤ op) = true := by simp; omega
  have g5 : decide (5 ≤ op) = true := by simp; omega
  have g19 : decide (19 ≤ op) = true := by simp; omega
  have g25 : decide (25 ≤ op) = true := by simp; omega
  have g28 : decide (28 ≤ op) = true := by simp; omega
  have g51 : decide (51 ≤ op) = true := by simp; omega
  have g45 : decide (45 ≤ op) = true := by simp; omega
  have g48 : decide (48 ≤ op) = true := by simp; omega
  have g60 : decide (60 ≤ op) = false := by simp; omega
  have l15 : decide (op ≤ 15) = false := by simp; omega
  have l18 : decide (op ≤ 18) = false := by simp; omega
  have l10 : decide (op ≤ 10) = false := by simp; omega
  have l24 : decide (op ≤ 24) = false := by simp; omega
  have l27 : decide (op ≤ 27) = false := by simp; omega
  have l37 : decide (op ≤ 37) = false := by simp; omega
  have l58 : decide (op ≤ 58) = false := by simp; omega
  have l47 : decide (op ≤ 47) = false := by simp; omega
  have l50 : decide (op ≤ 50) = false := by simp; omega
  have l69 : decide (op ≤ 69) = true := by simp; omega
  have kd : (W.regL d).length ≤ 30 := by have := dec_len d (by omega); simp [W.regL]; omega
  have ka : (W.regL a).length ≤ 30 := by have := dec_len a (by omega); simp [W.regL]; omega
  have kb : (W.regL b).length ≤ 30 := by have := dec_len b (by omega); simp [W.regL]; omega
  have s1 : ¬ 9223372036854775807 < nm.length + 3 + 3 + 1 := by omega
  have s2 : ¬ 9223372036854775807 < nm.length + 3 + 3 + 1 + (W.regL d).length := by omega
  have s3 : ¬ 9223372036854775807 < nm.length + 3 + 3 + 1 + (W.regL d).length + 3 := by omega
  have s4 : ¬ 9223372036854775807 < nm.length + 3 + 3 + 1 + (W.regL d).length + 3 + (W.regL a).length := by omega
  have s5 : ¬ 9223372036854775807 < nm.length + 3 + 3 + 1 + (W.regL d).length + 3 + (W.regL a).length + 1 := by omega
  clear hS hd ha hb o1 o2 hnl
  unfold inV
  go_enter Tryz.func11, Tryz.ntmps11
  go_wp2_with (first
    | (go_at_call 27; refine (of_some _ HO.out.1 HO.out.2 _).mono ?_; rintro e w1 ⟨rfl, hm⟩; have hb : Hid (Below w.heap.size w w1) := ((Below.refl _ _).alloc (Nat.le_refl _) _).trans (hm.mono (by simp)); have hlt : w.heap.size < w1.heap.size := (by have := hm.size; simp at this; omega); obtain ⟨x0, x1, x2, x3, x4, x5, x6, x7⟩ := (InAt.start w (⟨op, d, a, b, c, im, true, true⟩ : W.I) _).below hm; clear hm; rw [hr.out]; unfold rwV rwA)
    | (go_at_call 31; refine (rreg_any _ (by have := HD.out; omega) _).mono ?_; rintro e w' ⟨rfl, rfl⟩))
  go_ret
  refine ⟨congrArg (fun s => Ending.returned (.string s)) ?_, hb.out.alloc hb.out.size _⟩
  rw [ba_append, ba_append, ba_append, ba_append, ba_append, ba_append, ba_append]

end Go.Proofs.YtmihcicepgjogaaGreatDoor
