/- Texts in one: PrC17, AsmKs. -/
import Derived.Test.YtmihcicepgjogaaGreatDoorJ19
import Derived.Test.YtmihcicepgjogaaGreatDoorJ23
/- The document's Print, class 17. -/
namespace Go.Proofs.YtmihcicepgjogaaGreatDoor
open Go.ChangeShapes Go.WideShapes Go.ChangeAt Go.RowKit
set_option linter.unusedVariables false
set_option linter.unusedSimpArgs false

set_option maxRecDepth 100000 in
set_option maxHeartbeats 800000 in
theorem rprint_17 (A : Nat → Addr) (op : Int) (d a b c : Nat) (im : Int) (nm : List UInt8) (ro oc f3 f7 : Int) (h3 h7 : Bool) (fm wh : Int) (z1 z2 z3 z4 z5 : Bool) (o1 : 39 ≤ op) (o2 : op ≤ 43) (hd : d < 32) (ha : a < 32) (hb : b < 32)
    (hr : Hid (W.rw (op.toNat - 1) = ⟨ro, nm, oc, f3, f7, h3, h7, fm, z1, z2, z3, z4, wh, z5⟩)) (hnl : nm.length ≤ 20) (w : World) (hS : Sg A w) :
    Calls Tryz.prog 11 #[inV ⟨op, d, a, b, c, im, false, false⟩] w fun e w' => e = .returned (.string ⟨nm.toArray⟩) ∧ Below w.heap.size w w' := by
  have HS : Hid (Sg A w) := hS
  have HD : Hid (d < 32 ∧ a < 32 ∧ b < 32) := ⟨hd, ha, hb⟩
  have HO : Hid (1 ≤ op ∧ op ≤ 69) := (⟨by omega, by omega⟩ : 1 ≤ op ∧ op ≤ 69)
  have e1 : (op == 1) = false := by simp; omega
  have e2 : (op == 2) = false := by simp; omega
  have e3 : (op == 3) = false := by simp; omega
  have e4 : (op == 4) = false := by simp; omega
  have e38 : (op == 38) = false := by simp; omega
  have e44 : (op == 44) = false := by simp; omega
  have e59 : (op == 59) = false := by simp; omega
  have g11 : decide (11 ≤ op) = true := by simp; omega
  have g16 : decide (16 ≤ op) = true := by simp; omega
  have g5 : decide (5 ≤ op) = true := by simp; omega
  have g19 : decide (19 ≤ op) = true := by simp; omega
  have g25 : decide (25 ≤ op) = true := by simp; omega
  have g28 : decide (28 ≤ op) = true := by simp; omega
  have g51 : decide (51 ≤ op) = false := by simp; omega
  have g45 : decide (45 ≤ op) = false := by simp; omega
  have g48 : decide (48 ≤ op) = false := by simp; omega
  have g60 : decide (60 ≤ op) = false := by simp; omega
  have l15 : decide (op ≤ 15) = false := by simp; omega
  have l18 : decide (op ≤ 18) = false := by simp; omega
  have l10 : decide (op ≤ 10) = false := by simp; omega
  have l24 : decide (op ≤ 24) = false := by simp; omega
  have l27 : decide (op ≤ 27) = false := by simp; omega
  have l37 : decide (op ≤ 37) = false := by simp; omega
  have l58 : decide (op ≤ 58) = true := by simp; omega
  have l47 : decide (op ≤ 47) = true := by simp; omega
  have l50 : decide (op ≤ 50) = true := by simp; omega
  have l69 : decide (op ≤ 69) = true := by simp; omega
  have kd : (W.regL d).length ≤ 30 := by have := dec_len d (by omega); simp [W.regL]; omega
  have ka : (W.regL a).length ≤ 30 := by have := dec_len a (by omega); simp [W.regL]; omega
  have kb : (W.regL b).length ≤ 30 := by have := dec_len b (by omega); simp [W.regL]; omega
  clear hS hd ha hb o1 o2 hnl
  unfold inV
  go_enter Tryz.func11, Tryz.ntmps11
  go_wp2_with (first
    | (go_at_call 27; refine (of_some _ HO.out.1 HO.out.2 _).mono ?_; rintro e w1 ⟨rfl, hm⟩; have hb : Hid (Below w.heap.size w w1) := ((Below.refl _ _).alloc (Nat.le_refl _) _).trans (hm.mono (by simp)); have hlt : w.heap.size < w1.heap.size := (by have := hm.size; simp at this; omega); obtain ⟨x0, x1, x2, x3, x4, x5, x6, x7⟩ := (InAt.start w (⟨op, d, a, b, c, im, false, false⟩ : W.I) _).below hm; clear hm; rw [hr.out]; unfold rwV rwA)
    | (go_at_call 31; refine (rreg_any _ (by have := HD.out; omega) _).mono ?_; rintro e w' ⟨rfl, rfl⟩))
  go_ret
  exact ⟨rfl, hb.out.alloc hb.out.size _⟩

end Go.Proofs.YtmihcicepgjogaaGreatDoor

/- Numbers read, of whatever text: some number. -/
namespace Go.Proofs.YtmihcicepgjogaaGreatDoor
open Go.ChangeShapes Go.WideShapes Go.ChangeAt Go.RowKit
set_option linter.unusedVariables false
set_option linter.unusedSimpArgs false

/-- No error, or one of the library's own. -/
def Er (er : Value) : Prop := er = .nilIface ∨ er = .iface 177 (.int .i64 1) ∨ er = .iface 177 (.int .i64 2)

theorem bytesWorld_below (w : World) (e : TypeId) (t : ByteArray) : Below w.heap.size w (Lib.bytesWorld w e t) := by
  unfold Lib.bytesWorld World.freeze
  rw [if_neg (by decide)]
  refine ⟨rfl, rfl, rfl, by simp, fun k hk => ?_⟩
  simp only [Array.getElem?_modify]
  rw [if_neg (by omega)]
  exact Below.heap_alloc w.drew _ k hk

/-- Some answer. -/
def SomeB (e : Ending) : Prop := ∃ r, e = .returned (.bool r)

set_option maxRecDepth 1000000 in
set_option maxHeartbeats 12800000 in
theorem pu_w10 (t : ByteArray) (hne : t.size ≠ 0) (hmax : t.size ≤ 1000) (h0 : (((t[0]'(Nat.pos_of_ne_zero hne)).toNat : Int) == 48) = false) (w : World)
    (HU : Hid (∀ w : World, Calls Tryz.prog 152 #[.string t] w fun e w' => SomeB e ∧ w = w')) : Calls Tryz.prog 142 #[.string t, .int .i64 0, .int .i64 64] w fun e w' => ∃ n er, e = .returned (.tuple #[.int .u64 n, er]) ∧ Er er ∧ Below w.heap.size w w' := by
  have hemp : t.toList.isEmpty = false := by
    rw [← decide_eq_emptyBytes]
    exact decide_eq_false (fun h => hne (by rw [h]; rfl))
  have i0 : (0 : Int) < (t.size : Int) := by omega
  have hcv := Lib.run_convert_string_bytes (P := Tryz.prog) w 9 54 5 t (u := .string) Tryz.underlying9 Tryz.underlying54 Tryz.underlying5
  have hB : ∀ j, j < t.size → (Lib.bytesWorld w 5 t).cell? ⟨w.heap.size, j, none⟩ = some (.int .u8 (t.data.toList.getD j 0).toNat) := fun j hj => Lib.bytesWorld_cell w 5 t j hj
  have hbw := bytesWorld_below w 5 t
  obtain ⟨W1, hW1⟩ : ∃ W1, W1 = Lib.bytesWorld w 5 t := ⟨_, rfl⟩
  rw [← hW1] at hcv hB hbw
  clear hW1
  have hmv : IntKind.u64.wrap (IntKind.u64.wrap 18446744073709551616 - 1) = 18446744073709551615 := by
    rw [IntKind.wrap_u64, IntKind.wrap_u64]
    decide
  go_enter Tryz.func142, Tryz.ntmps142
  go_wp2
  go_loop [12, 13, 101] (fun vu vn vi => ∃ (k : Nat) (a : Int) (u : Bool), vu = .bool u ∧ vn = .int .u64 a ∧ vi = .int .i64 k ∧ k ≤ t.size)
    (fun _ _ vi => t.size - (intOf vi).toNat)
  case atStart => exact ⟨0, 0, false, rfl, rfl, rfl, by omega⟩
  case round =>
    obtain ⟨k, a, u, rfl, rfl, rfl, hk⟩ := hrel
    by_cases hkn : k < t.size
    · have hc := hB k hkn
      generalize t.data.toList.getD k 0 = c at hc
      clear hB
      go_wp2_with (go_at_call 151; refine (Tryz.internal_strconv_lower _ _).mono ?_; rintro e w' ⟨rfl, rfl⟩)
      all_goals first
        | exact ⟨⟨k + 1, _, _, rfl, rfl, by go_num, by omega⟩, by simp [intOf]; omega⟩
        | (refine bodyPost_ret (v := .tuple #[.int .u64 0, .iface 177 (.int .i64 2)]) ?_ rfl ⟨_, _, rfl, Or.inr (Or.inr rfl), hbw⟩; (simp [results, Tryz.results142, go_sem]; done))
        | (refine bodyPost_ret (v := .tuple #[.int .u64 18446744073709551615, .iface 177 (.int .i64 1)]) ?_ rfl ⟨_, _, rfl, Or.inr (Or.inl rfl), hbw⟩; (simp [results, Tryz.results142, go_sem]; done))
    · have hkk : k = t.size := by omega
      subst hkk
      clear hB
      cases u
      · go_wp2
        exact bodyPost_ret (v := .tuple #[.int .u64 a, .nilIface]) (by simp [results, Tryz.results142, go_sem]) rfl ⟨_, _, rfl, Or.inl rfl, hbw⟩
      · go_wp2_with (go_at_call 152; refine (HU.out _).mono ?_; rintro e w' ⟨⟨r, rfl⟩, rfl⟩)
        all_goals first
          | (refine bodyPost_ret (v := .tuple #[.int .u64 a, .nilIface]) ?_ rfl ⟨_, _, rfl, Or.inl rfl, hbw⟩; (simp [results, Tryz.results142, go_sem]; done))
          | (refine bodyPost_ret (v := .tuple #[.int .u64 0, .iface 177 (.int .i64 2)]) ?_ rfl ⟨_, _, rfl, Or.inr (Or.inr rfl), hbw⟩; (simp [results, Tryz.results142, go_sem]; done))
end Go.Proofs.YtmihcicepgjogaaGreatDoor
