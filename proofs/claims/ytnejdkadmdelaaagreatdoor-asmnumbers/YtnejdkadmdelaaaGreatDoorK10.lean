/- Texts in one: AsmOneB, AsmOneWalk. -/
import Derived.Test.YtnejdkadmdelaaaGreatDoorK09
/- AsmOne: one that has a text. -/
namespace Go.Proofs.YtnejdkadmdelaaaGreatDoor
open Go.ChangeShapes Go.WideShapes Go.ChangeAt Go.RowKit
set_option linter.unusedVariables false
set_option linter.unusedSimpArgs false

def Prints (A : Nat → Addr) (i : W.I) (B : ByteArray) : Prop := ∀ w : World, Sg A w → Calls Tryz.prog 9 #[inV i] w fun x w' => x = .returned (.tuple #[.string B, .nilIface]) ∧ Below w.heap.size w w'
def ParsesB (A : Nat → Addr) (B : ByteArray) (i : W.I) (e : Nat) : Prop := ∀ w : World, Sg A w → Calls Tryz.prog 12 #[.string B] w fun x w' => x = .returned (.tuple #[inV i, errV A e]) ∧ Below w.heap.size w w'
theorem prints_of (A : Nat → Addr) (i : W.I) (he : W.encE i = 0) : Prints A i ⟨(W.textL i).toArray⟩ := fun w hS => print_ok A i _ w hS he rfl
theorem same_self (i : W.I) : W.same i i = true := by
  unfold W.same; simp

theorem more_size (B : ByteArray) (p : Nat) (d : UInt8) (hp : p < B.size) (hl : B.size ≤ 999) : (B.extract 0 p ++ ⟨#[d]⟩ ++ B.extract p B.size).size ≤ 1000 := by
  have : (⟨#[d]⟩ : ByteArray).size = 1 := rfl
  simp only [ByteArray.size_append, ByteArray.size_extract, this]
  omega
theorem less_size (B : ByteArray) (p : Nat) (hp : p < B.size) (hl : B.size ≤ 999) : (B.extract 0 p ++ B.extract (p + 1) B.size).size ≤ 1000 := by
  simp only [ByteArray.size_append, ByteArray.size_extract]
  omega
theorem other_size (B : ByteArray) (p : Nat) (d : UInt8) (hp : p < B.size) (hl : B.size ≤ 999) : (B.extract 0 p ++ ⟨#[d]⟩ ++ B.extract (p + 1) B.size).size ≤ 1000 := by
  have : (⟨#[d]⟩ : ByteArray).size = 1 := rfl
  simp only [ByteArray.size_append, ByteArray.size_extract, this]
  omega

theorem at_mod (a : Int) (n : Nat) (hp : 0 < n) (hl : n ≤ 999) : ∃ p : Nat, p < n ∧ (wrap64 (a.tmod (n : Int) + (n : Int))).tmod (n : Int) = (p : Int) := by
  have h1 : -(n : Int) < a.tmod n := by
    have := Int.lt_tmod_of_pos a (b := (n : Int)) (by omega); omega
  have h2 : a.tmod n < n := Int.tmod_lt_of_pos a (by omega)
  have h3 : wrap64 (a.tmod (n : Int) + (n : Int)) = a.tmod (n : Int) + (n : Int) := by
    generalize a.tmod (n : Int) = x at *
    unfold wrap64
    omega
  rw [h3]
  generalize a.tmod (n : Int) = x at *
  have h4 : 0 ≤ (x + n).tmod n := Int.tmod_nonneg _ (by omega)
  have h5 : (x + n).tmod n < n := Int.tmod_lt_of_pos _ (by omega)
  exact ⟨((x + n).tmod n).toNat, by omega, by omega⟩

set_option maxRecDepth 100000 in
set_option maxHeartbeats 3200000 in
theorem one_walk (A : Nat → Addr) (i : W.I) (at' c : Int) (B : ByteArray) (hp : 0 < B.size) (hl : B.size ≤ 999) (a0 : -9223372036854775808 ≤ at') (a1 : at' ≤ 9223372036854775807) (c0 : 0 ≤ c) (c1 : c < 256)
    (hP : Prints A i B) (hR : ParsesB A B i 0) (hC : ∀ M : ByteArray, M.size ≤ 1000 → M = B ∨ ((M.toList == B.toList) = false ∧ ∃ y, Prints A y M ∧ ParsesB A M y 0 ∧ W.same y i = false) ∨ ParsesB A M ⟨0, 0, 0, 0, 0, 0, false, false⟩ 6) (w : World) (hS : Sg A w) : Calls Tryz.prog 5 #[inV i, .int .i64 at', .int .u8 c] w fun e w' => e = .returned (.bool true) ∧ Below w.heap.size w w' := by
  have HS : Hid (Sg A w) := hS
  have HP : Hid (Prints A i B) := hP
  have HR : Hid (ParsesB A B i 0) := hR
  have HA : Hid (-9223372036854775808 ≤ at' ∧ at' ≤ 9223372036854775807) := ⟨a0, a1⟩
  have HSm : Hid (W.same i i = true) := same_self i
  have HC : Hid (∀ M : ByteArray, M.size ≤ 1000 → M = B ∨ ((M.toList == B.toList) = false ∧ ∃ y, Prints A y M ∧ ParsesB A M y 0 ∧ W.same y i = false) ∨ ParsesB A M ⟨0, 0, 0, 0, 0, 0, false, false⟩ 6) := hC
  clear hS hP hR hC a0 a1
  unfold inV
  go_enter Tryz.func5, Tryz.ntmps5
  go_wp2_with fail
  have hb0 : Below w.heap.size w (w.alloc (.cells #[.int .i64 i.op, .int .i64 i.rd, .int .i64 i.rs1, .int .i64 i.rs2, .int .i64 i.csr, .int .u32 i.imm, .bool i.aq, .bool i.rl] 24)) := (Below.refl _ _).alloc (Nat.le_refl _) _
  have hA0 := InAt.start w i 24
  have hs0 : w.heap.size < (w.alloc (.cells #[.int .i64 i.op, .int .i64 i.rd, .int .i64 i.rs1, .int .i64 i.rs2, .int .i64 i.csr, .int .u32 i.imm, .bool i.aq, .bool i.rl] 24)).heap.size := by simp
  generalize World.alloc w _ = w0 at *
  refine (first5_any A w0 (HS.out.below hb0)).mono ?_
  rintro e w1 ⟨rfl, hb1⟩
  have hbl1 : Below w.heap.size w w1 := hb0.trans (hb1.mono hb0.size)
  have hA1 := hA0.below hb1
  obtain ⟨z0, z1, z2, z3, z4, z5, z6, z7⟩ := hA1
  have hB0 : ((B.size : Int) == 0) = false := beq_eq_false_iff_ne.2 (by omega)
  go_wp2_with (go_at_call 9; refine (HP.out _ (HS.out.below hbl1)).mono ?_; rintro e w2 ⟨rfl, hb2⟩)
  have hbl2 : Below w.heap.size w w2 := hbl1.trans (hb2.mono hbl1.size)
  clear z0 z1 z2 z3 z4 z5 z6 z7
  refine (HR.out _ (HS.out.below hbl2)).mono ?_
  rintro e w3 ⟨rfl, hb3⟩
  have hbl3 : Below w.heap.size w w3 := hbl2.trans (hb3.mono hbl2.size)
  have hb03 : Below w0.heap.size w0 w3 := (hb1.trans (hb2.mono hb1.size)).trans (hb3.mono (hb1.trans (hb2.mono hb1.size)).size)
  have hl3 : w.heap.size < w3.heap.size := Nat.lt_of_lt_of_le hs0 hb03.size
  obtain ⟨z0, z1, z2, z3, z4, z5, z6, z7⟩ := hA0.below hb03
  unfold inV errV
  go_wp2_with (go_at_call 15; refine (sameInst_any i i _).mono ?_; rintro e w4 ⟨rfl, hb4⟩; rw [HSm.out])
  have hbA : Below w3.heap.size w3 (w3.alloc (.cells #[.int .i64 i.op, .int .i64 i.rd, .int .i64 i.rs1, .int .i64 i.rs2, .int .i64 i.csr, .int .u32 i.imm, .bool i.aq, .bool i.rl] 24)) := (Below.refl _ _).alloc (Nat.le_refl _) _
  generalize World.alloc w3 _ = wa at *
  have hb34 : Below w3.heap.size w3 w4 := hbA.trans (hb4.mono hbA.size)
  have hbl4 : Below w.heap.size w w4 := hbl3.trans (hb34.mono hbl3.size)
  have hb04 : Below w0.heap.size w0 w4 := hb03.trans (hb34.mono hb03.size)
  have hl4 : w.heap.size < w4.heap.size := Nat.lt_of_lt_of_le hs0 hb04.size
  have hA4 := hA0.below hb04
  clear z0 z1 z2 z3 z4 z5 z6 z7 hbA hb4 hb34 hb04 hb03 hl3 hbl1 hbl2 hb1 hb2 hb3 hs0 hA0 hb0
  generalize w3.heap.size = q3
  clear hbl3
  obtain ⟨p, hp1, hp2⟩ := at_mod at' B.size hp hl
  rw [hp2]
  clear hp2 HA
  clear w0 w1 w2 w3 wa
  obtain ⟨d, hd⟩ : ∃ d : UInt8, (d.toNat : Int) = c := ⟨UInt8.ofNat c.toNat, by rw [UInt8.toNat_ofNat']; omega⟩
  have hcv : ∀ w' : World, Sem.run Tryz.prog (convert 54 9 (.slice (some ⟨w'.heap.size, 0, none⟩) 1 1)) (w'.alloc (.cells #[.int .u8 c] 5)).drew = .ok (.string ⟨#[d]⟩) (w'.alloc (.cells #[.int .u8 c] 5)).drew := by
    intro w'
    have := conv_back (w'.alloc (.cells #[.int .u8 c] 5)).drew ⟨w'.heap.size, 0, none⟩ 1 1 [d] rfl (by
      intro j hj
      obtain rfl : j = 0 := by simpa using hj
      simp [Addr.add, hd])
    exact this
  have hk0 : (0 : Int) ≤ (p : Int) := by omega
  have hk1 : (p : Int) ≤ (B.size : Int) := by omega
  have hcv4 := hcv w4
  go_cut [12] from 68 to 78 (fun s w' => ∃ M : ByteArray, s = .string M ∧ M.size ≤ 1000 ∧ Below w4.heap.size w4 w')
  case first =>
    go_region_with (fail)
    all_goals
      go_wp2
      go_meet
      case rel => exact ⟨_, rfl, more_size B p d hp1 hl, ((Below.refl _ _).alloc (Nat.le_refl _) _).drew⟩
  case rest =>
    obtain ⟨M1, rfl, hM1, hb5⟩ := hcut
    have hw1 : IntKind.i64.wrap ((p : Int) + 1) = (p : Int) + 1 := by
      exact IntWalk.i64_in _ (by omega)
    have hk2 : (p : Int) + 1 ≤ (B.size : Int) := by omega
    have hk3 : (0 : Int) ≤ (p : Int) + 1 := by omega
    go_wp2_with fail
    go_quiet (fail)
    have hb6 : Below wc.heap.size wc (wc.drewN nq) := ⟨rfl, rfl, rfl, Nat.le_refl _, fun _ _ => rfl⟩
    have hM2 := less_size B p hp1 hl
    generalize World.drewN wc nq = w6 at *
    generalize B.extract 0 p ++ B.extract (p + 1) B.size = M2 at *
    have hb46 : Below w4.heap.size w4 w6 := hb5.trans (hb6.mono hb5.size)
    have hcv6 := hcv w6
    clear hcv4
    go_wp2_with fail
    go_cut [14] from 87 to 98 (fun s w' => ∃ M : ByteArray, s = .string M ∧ M.size ≤ 1000 ∧ Below w6.heap.size w6 w')
    case first =>
      go_region_with (fail)
      all_goals
        go_wp2
        go_meet
        case rel => exact ⟨_, rfl, other_size B p d hp1 hl, ((Below.refl _ _).alloc (Nat.le_refl _) _).drew⟩
    case rest =>
      obtain ⟨M3, rfl, hM3, hb7⟩ := hcut
      clear hk0 hk1 hk2 hk3 hw1 hcv hcv6
      go_wp2_with fail
      have hbl : Below w4.heap.size w4 (wc.alloc (.cells #[.string M1, .string M2, .string M3] 9)) := (hb46.trans (hb7.mono hb46.size)).alloc (hb46.trans (hb7.mono hb46.size)).size _
      obtain ⟨Mk, hMk⟩ : ∃ Mk : Nat → ByteArray, ∀ j, j < 3 → (wc.alloc (.cells #[.string M1, .string M2, .string M3] 9)).cell? ⟨wc.heap.size, j, none⟩ = some (.string (Mk j)) ∧ (Mk j).size ≤ 1000 := by
        refine ⟨fun j => if j = 0 then M1 else if j = 1 then M2 else M3, fun j hj => ?_⟩
        obtain rfl | rfl | rfl : j = 0 ∨ j = 1 ∨ j = 2 := by omega
        · exact ⟨by simp [go_sem], hM1⟩
        · exact ⟨by simp [go_sem], hM2⟩
        · exact ⟨by simp [go_sem], hM3⟩
      have hsl : wc.heap.size < (wc.alloc (.cells #[.string M1, .string M2, .string M3] 9)).heap.size := by simp
      generalize World.alloc wc _ = wl at *
      have HMk : Hid (∀ j, j < 3 → wl.cell? ⟨wc.heap.size, j, none⟩ = some (.string (Mk j)) ∧ (Mk j).size ≤ 1000) := hMk
      clear hMk hM1 hM2 hM3 hb7 hb46 hb5 hb6
      go_loopw [16] (fun x wr => ∃ k : Nat, k ≤ 3 ∧ x = .int .i64 k ∧ Below wl.heap.size wl wr) (fun x _ => 3 - (intOf x).toNat)
      case atStart => exact ⟨0, by omega, rfl, Below.refl _ _⟩
      case round =>
        obtain ⟨k, hk, rfl, hr⟩ := hrel
        have hr4 : Below w4.heap.size w4 wr := hbl.trans (hr.mono hbl.size)
        have hrw : Below w.heap.size w wr := hbl4.trans (hr4.mono hbl4.size)
        by_cases hlt : k < 3
        · obtain ⟨g0', hMs⟩ := HMk.out k hlt
          have g0 := (hr.cell (p := ⟨wc.heap.size, k, none⟩) hsl).trans g0'
          clear g0'
          generalize Mk k = M at *
          have hK : M = B ∨ ((M.toList == B.toList) = false ∧ ∃ y, Prints A y M ∧ ParsesB A M y 0 ∧ W.same y i = false) ∨ ParsesB A M ⟨0, 0, 0, 0, 0, 0, false, false⟩ 6 := HC.out M hMs
          rcases hK with hMB | ⟨hne, y, hPy, hRy, hsm⟩ | h6
          · rw [hMB] at g0
            clear hMB hMs
            clear M
            have HPy : Hid (Prints A i B) := HP
            have HRy : Hid (ParsesB A B i 0) := HR
            have HSy : Hid (W.same i i = true) := HSm
            go_wp2_with fail
            refine (HRy.out _ (HS.out.below hrw)).mono ?_
            rintro e wp ⟨rfl, hbp⟩
            unfold inV errV
            go_wp2_with fail
            have hIy : InAt wp.heap.size i _ := InAt.start wp i 24
            have hbq : Below wp.heap.size wp (wp.alloc (.cells #[.int .i64 i.op, .int .i64 i.rd, .int .i64 i.rs1, .int .i64 i.rs2, .int .i64 i.csr, .int .u32 i.imm, .bool i.aq, .bool i.rl] 24)) := (Below.refl _ _).alloc (Nat.le_refl _) _
            generalize World.alloc wp _ = wq at *
            have hrq : Below wr.heap.size wr wq := hbp.trans (hbq.mono hbp.size)
            clear hbq hbp
            generalize wp.heap.size = q at *
            have hrwq : Below w.heap.size w wq := hrw.trans (hrq.mono hrw.size)
            refine (HPy.out _ (HS.out.below hrwq)).mono ?_
            rintro e wn ⟨rfl, hbn⟩
            have hrn : Below wr.heap.size wr wn := hrq.trans (hbn.mono hrq.size)
            have K0 : Hid (∀ w', Below wn.heap.size wn w' → w'.cell? ⟨wc.heap.size, k, none⟩ = some (.string B) ∧ w'.cell? ⟨q, 0, none⟩ = some (.int .i64 i.op) ∧ w'.cell? ⟨q, 1, none⟩ = some (.int .i64 i.rd) ∧ w'.cell? ⟨q, 2, none⟩ = some (.int .i64 i.rs1) ∧ w'.cell? ⟨q, 3, none⟩ = some (.int .i64 i.rs2) ∧ w'.cell? ⟨q, 4, none⟩ = some (.int .i64 i.csr) ∧ w'.cell? ⟨q, 5, none⟩ = some (.int .u32 i.imm) ∧ w'.cell? ⟨q, 6, none⟩ = some (.bool i.aq) ∧ w'.cell? ⟨q, 7, none⟩ = some (.bool i.rl) ∧ w'.cell? ⟨w.heap.size, 0, none⟩ = some (.int .i64 i.op) ∧ w'.cell? ⟨w.heap.size, 1, none⟩ = some (.int .i64 i.rd) ∧ w'.cell? ⟨w.heap.size, 2, none⟩ = some (.int .i64 i.rs1) ∧ w'.cell? ⟨w.heap.size, 3, none⟩ = some (.int .i64 i.rs2) ∧ w'.cell? ⟨w.heap.size, 4, none⟩ = some (.int .i64 i.csr) ∧ w'.cell? ⟨w.heap.size, 5, none⟩ = some (.int .u32 i.imm) ∧ w'.cell? ⟨w.heap.size, 6, none⟩ = some (.bool i.aq) ∧ w'.cell? ⟨w.heap.size, 7, none⟩ = some (.bool i.rl)) := fun w' h => by
              have e1 : Below wr.heap.size wr w' := hrn.trans (h.mono hrn.size)
              have e2 : InAt q i w' := hIy.below (hbn.trans (h.mono hbn.size))
              have e3 : InAt w.heap.size i w' := hA4.below (hr4.trans (e1.mono hr4.size))
              have e4 := (e1.cell (p := ⟨wc.heap.size, k, none⟩) (Nat.lt_of_lt_of_le hsl hr.size)).trans g0
              obtain ⟨a0, a1, a2, a3, a4, a5, a6, a7⟩ := e2
              obtain ⟨b0, b1, b2, b3, b4, b5, b6, b7⟩ := e3
              exact ⟨e4, a0, a1, a2, a3, a4, a5, a6, a7, b0, b1, b2, b3, b4, b5, b6, b7⟩
            have hCc : Below wn.heap.size wn wn.drew := (Below.refl _ _).drew
            clear g0
            go_wp2_with fail
            go_region_held3 (fun w' => w'.cell? ⟨wc.heap.size, k, none⟩ = some (.string B) ∧ w'.cell? ⟨q, 0, none⟩ = some (.int .i64 i.op) ∧ w'.cell? ⟨q, 1, none⟩ = some (.int .i64 i.rd) ∧ w'.cell? ⟨q, 2, none⟩ = some (.int .i64 i.rs1) ∧ w'.cell? ⟨q, 3, none⟩ = some (.int .i64 i.rs2) ∧ w'.cell? ⟨q, 4, none⟩ = some (.int .i64 i.csr) ∧ w'.cell? ⟨q, 5, none⟩ = some (.int .u32 i.imm) ∧ w'.cell? ⟨q, 6, none⟩ = some (.bool i.aq) ∧ w'.cell? ⟨q, 7, none⟩ = some (.bool i.rl) ∧ w'.cell? ⟨w.heap.size, 0, none⟩ = some (.int .i64 i.op) ∧ w'.cell? ⟨w.heap.size, 1, none⟩ = some (.int .i64 i.rd) ∧ w'.cell? ⟨w.heap.size, 2, none⟩ = some (.int .i64 i.rs1) ∧ w'.cell? ⟨w.heap.size, 3, none⟩ = some (.int .i64 i.rs2) ∧ w'.cell? ⟨w.heap.size, 4, none⟩ = some (.int .i64 i.csr) ∧ w'.cell? ⟨w.heap.size, 5, none⟩ = some (.int .u32 i.imm) ∧ w'.cell? ⟨w.heap.size, 6, none⟩ = some (.bool i.aq) ∧ w'.cell? ⟨w.heap.size, 7, none⟩ = some (.bool i.rl))
              (exact K0.out _ hCc)
              (first | (go_at_call 15; refine (sameInst_any i i _).mono ?_; rintro e w9 ⟨rfl, hb9⟩; rw [HSy.out]; replace hCc : Below wn.heap.size wn w9 := hCc.trans (hb9.mono hCc.size)))
            all_goals
              go_wp2
              go_roundw
              case rel => exact ⟨k + 1, by omega, by go_num, hr.trans ((hrn.trans (hCc.mono hrn.size)).mono hr.size)⟩
              case measure => simp [intOf]; omega
          · have HPy : Hid (Prints A y M) := hPy
            have HRy : Hid (ParsesB A M y 0) := hRy
            have HSy : Hid (W.same y i = false) := hsm
            clear hPy hRy hsm
            go_wp2_with fail
            refine (HRy.out _ (HS.out.below hrw)).mono ?_
            rintro e wp ⟨rfl, hbp⟩
            unfold inV errV
            go_wp2_with fail
            have hIy : InAt wp.heap.size y _ := InAt.start wp y 24
            have hbq : Below wp.heap.size wp (wp.alloc (.cells #[.int .i64 y.op, .int .i64 y.rd, .int .i64 y.rs1, .int .i64 y.rs2, .int .i64 y.csr, .int .u32 y.imm, .bool y.aq, .bool y.rl] 24)) := (Below.refl _ _).alloc (Nat.le_refl _) _
            generalize World.alloc wp _ = wq at *
            have hrq : Below wr.heap.size wr wq := hbp.trans (hbq.mono hbp.size)
            clear hbq hbp
            generalize wp.heap.size = q at *
            have hrwq : Below w.heap.size w wq := hrw.trans (hrq.mono hrw.size)
            refine (HPy.out _ (HS.out.below hrwq)).mono ?_
            rintro e wn ⟨rfl, hbn⟩
            have hrn : Below wr.heap.size wr wn := hrq.trans (hbn.mono hrq.size)
            have K0 : Hid (∀ w', Below wn.heap.size wn w' → w'.cell? ⟨wc.heap.size, k, none⟩ = some (.string M) ∧ w'.cell? ⟨q, 0, none⟩ = some (.int .i64 y.op) ∧ w'.cell? ⟨q, 1, none⟩ = some (.int .i64 y.rd) ∧ w'.cell? ⟨q, 2, none⟩ = some (.int .i64 y.rs1) ∧ w'.cell? ⟨q, 3, none⟩ = some (.int .i64 y.rs2) ∧ w'.cell? ⟨q, 4, none⟩ = some (.int .i64 y.csr) ∧ w'.cell? ⟨q, 5, none⟩ = some (.int .u32 y.imm) ∧ w'.cell? ⟨q, 6, none⟩ = some (.bool y.aq) ∧ w'.cell? ⟨q, 7, none⟩ = some (.bool y.rl) ∧ w'.cell? ⟨w.heap.size, 0, none⟩ = some (.int .i64 i.op) ∧ w'.cell? ⟨w.heap.size, 1, none⟩ = some (.int .i64 i.rd) ∧ w'.cell? ⟨w.heap.size, 2, none⟩ = some (.int .i64 i.rs1) ∧ w'.cell? ⟨w.heap.size, 3, none⟩ = some (.int .i64 i.rs2) ∧ w'.cell? ⟨w.heap.size, 4, none⟩ = some (.int .i64 i.csr) ∧ w'.cell? ⟨w.heap.size, 5, none⟩ = some (.int .u32 i.imm) ∧ w'.cell? ⟨w.heap.size, 6, none⟩ = some (.bool i.aq) ∧ w'.cell? ⟨w.heap.size, 7, none⟩ = some (.bool i.rl)) := fun w' h => by
              have e1 : Below wr.heap.size wr w' := hrn.trans (h.mono hrn.size)
              have e2 : InAt q y w' := hIy.below (hbn.trans (h.mono hbn.size))
              have e3 : InAt w.heap.size i w' := hA4.below (hr4.trans (e1.mono hr4.size))
              have e4 := (e1.cell (p := ⟨wc.heap.size, k, none⟩) (Nat.lt_of_lt_of_le hsl hr.size)).trans g0
              obtain ⟨a0, a1, a2, a3, a4, a5, a6, a7⟩ := e2
              obtain ⟨b0, b1, b2, b3, b4, b5, b6, b7⟩ := e3
              exact ⟨e4, a0, a1, a2, a3, a4, a5, a6, a7, b0, b1, b2, b3, b4, b5, b6, b7⟩
            have hCc : Below wn.heap.size wn wn.drew := (Below.refl _ _).drew
            clear g0
            go_wp2_with fail
            go_region_held3 (fun w' => w'.cell? ⟨wc.heap.size, k, none⟩ = some (.string M) ∧ w'.cell? ⟨q, 0, none⟩ = some (.int .i64 y.op) ∧ w'.cell? ⟨q, 1, none⟩ = some (.int .i64 y.rd) ∧ w'.cell? ⟨q, 2, none⟩ = some (.int .i64 y.rs1) ∧ w'.cell? ⟨q, 3, none⟩ = some (.int .i64 y.rs2) ∧ w'.cell? ⟨q, 4, none⟩ = some (.int .i64 y.csr) ∧ w'.cell? ⟨q, 5, none⟩ = some (.int .u32 y.imm) ∧ w'.cell? ⟨q, 6, none⟩ = some (.bool y.aq) ∧ w'.cell? ⟨q, 7, none⟩ = some (.bool y.rl) ∧ w'.cell? ⟨w.heap.size, 0, none⟩ = some (.int .i64 i.op) ∧ w'.cell? ⟨w.heap.size, 1, none⟩ = some (.int .i64 i.rd) ∧ w'.cell? ⟨w.heap.size, 2, none⟩ = some (.int .i64 i.rs1) ∧ w'.cell? ⟨w.heap.size, 3, none⟩ = some (.int .i64 i.rs2) ∧ w'.cell? ⟨w.heap.size, 4, none⟩ = some (.int .i64 i.csr) ∧ w'.cell? ⟨w.heap.size, 5, none⟩ = some (.int .u32 i.imm) ∧ w'.cell? ⟨w.heap.size, 6, none⟩ = some (.bool i.aq) ∧ w'.cell? ⟨w.heap.size, 7, none⟩ = some (.bool i.rl))
              (exact K0.out _ hCc)
              (first | (go_at_call 15; refine (sameInst_any y i _).mono ?_; rintro e w9 ⟨rfl, hb9⟩; rw [HSy.out]; replace hCc : Below wn.heap.size wn w9 := hCc.trans (hb9.mono hCc.size)))
            all_goals
              go_wp2
              go_roundw
              case rel => exact ⟨k + 1, by omega, by go_num, hr.trans ((hrn.trans (hCc.mono hrn.size)).mono hr.size)⟩
              case measure => simp [intOf]; omega
          · have H6 : Hid (ParsesB A M ⟨0, 0, 0, 0, 0, 0, false, false⟩ 6) := h6
            clear h6
            go_wp2_with (go_at_call 12; refine (H6.out _ (HS.out.below hrw)).mono ?_; rintro e wp ⟨rfl, hbp⟩; unfold inV errV)
            go_roundw
            case rel => exact ⟨k + 1, by omega, by go_num, (hr.trans (hbp.mono hr.size)).alloc (by have := hr.size; have := hbp.size; omega) _⟩
            case measure => simp [intOf]; omega
        · obtain rfl : k = 3 := by omega
          go_wp2_with fail
          go_ret
          exact ⟨rfl, hrw⟩
end Go.Proofs.YtnejdkadmdelaaaGreatDoor

/- AsmOne: for every instruction. -/
namespace Go.Proofs.YtnejdkadmdelaaaGreatDoor
open Go.ChangeShapes Go.WideShapes Go.ChangeAt Go.RowKit
set_option linter.unusedVariables false
set_option linter.unusedSimpArgs false

theorem text_len9 (i : W.I) (hr : W.InR i) : (W.textL i).length ≤ 999 := by
  have h1 := nm_len i.op
  have hok := W.form_ok i.op
  rw [W.okForm, Bool.and_eq_true, decide_eq_true_eq] at hok
  have h2 := rest_len i hr (W.form i.op) hok.1
  have h3 : (W.aqL i).length ≤ 3 := by unfold W.aqL; cases i.aq <;> decide
  have h4 : (W.rlL i).length ≤ 3 := by unfold W.rlL; cases i.rl <;> decide
  have h5 : (W.spL (W.form i.op)).length ≤ 1 := by unfold W.spL; cases (W.form i.op).isEmpty <;> decide
  have h6 := hok.2
  simp only [W.textL, List.length_append]
  omega

theorem same_eq (a b : W.I) (h : W.same a b = true) : a = b := by
  unfold W.same at h
  simp only [Bool.and_eq_true, beq_iff_eq] at h
  exact eq_inst a b (by simp [h])

theorem cls (A : Nat → Addr) (i : W.I) (B : ByteArray) (hB : B = ⟨(W.textL i).toArray⟩) (M : ByteArray) (hM : M.size ≤ 1000) :
    M = B ∨ ((M.toList == B.toList) = false ∧ ∃ y, Prints A y M ∧ ParsesB A M y 0 ∧ W.same y i = false) ∨ ParsesB A M ⟨0, 0, 0, 0, 0, 0, false, false⟩ 6 := by
  by_cases h : M = B
  · exact Or.inl h
  · refine Or.inr ?_
    have hne : (M.toList == B.toList) = false := by
      rw [beq_eq_false_iff_ne, Lib.toList_data, Lib.toList_data]
      intro hq
      exact h (by cases M; cases B; simp only [ByteArray.mk.injEq]; exact Array.toList_inj.1 hq)
    rcases parse_cls A M.data.toList (by show M.data.toList.length ≤ 1000; rw [Array.length_toList]; exact hM) with ⟨y, h1, h2, h3, h4⟩ | h6
    · refine Or.inl ⟨hne, y, ?_, h4, ?_⟩
      · have := prints_of A y h1
        rw [h3] at this
        exact this
      · cases hs : W.same y i
        · rfl
        · refine absurd ?_ h
          rw [same_eq y i hs] at h3
          rw [hB, h3]
    · exact Or.inr h6

set_option maxRecDepth 100000 in
theorem one_empty (A : Nat → Addr) (i : W.I) (at' c : Int) (hP : Prints A i ⟨#[]⟩) (w : World) (hS : Sg A w) : Calls Tryz.prog 5 #[inV i, .int .i64 at', .int .u8 c] w fun e w' => e = .returned (.bool true) ∧ Below w.heap.size w w' := by
  have HS : Hid (Sg A w) := hS
  have HP : Hid (Prints A i ⟨#[]⟩) := hP
  clear hS hP
  unfold inV
  go_enter Tryz.func5, Tryz.ntmps5
  go_wp2_with fail
  have hb0 : Below w.heap.size w (w.alloc (.cells #[.int .i64 i.op, .int .i64 i.rd, .int .i64 i.rs1, .int .i64 i.rs2, .int .i64 i.csr, .int .u32 i.imm, .bool i.aq, .bool i.rl] 24)) := (Below.refl _ _).alloc (Nat.le_refl _) _
  have hA0 := InAt.start w i 24
  generalize World.alloc w _ = w0 at *
  refine (first5_any A w0 (HS.out.below hb0)).mono ?_
  rintro e w1 ⟨rfl, hb1⟩
  have hbl1 : Below w.heap.size w w1 := hb0.trans (hb1.mono hb0.size)
  obtain ⟨z0, z1, z2, z3, z4, z5, z6, z7⟩ := hA0.below hb1
  go_wp2_with (go_at_call 9; refine (HP.out _ (HS.out.below hbl1)).mono ?_; rintro e w2 ⟨rfl, hb2⟩)
  go_ret
  exact ⟨rfl, hbl1.trans (hb2.mono hbl1.size)⟩

theorem one_any (A : Nat → Addr) (i : W.I) (at' c : Int) (hi : 0 ≤ i.imm ∧ i.imm < 4294967296) (a0 : -9223372036854775808 ≤ at') (a1 : at' ≤ 9223372036854775807) (c0 : 0 ≤ c) (c1 : c ≤ 255) (w : World) (hS : Sg A w) :
    Calls Tryz.prog 5 #[inV i, .int .i64 at', .int .u8 c] w fun e w' => e = .returned (.bool true) ∧ Below w.heap.size w w' := by
  cases he : W.encE i with
  | succ n => exact one_none A i at' c n he w hS
  | zero =>
    have hP := prints_of A i he
    have hR : ParsesB A ⟨(W.textL i).toArray⟩ i 0 := fun w hS => parse_ok A i hi.1 hi.2 he w hS
    have hl := text_len9 i (W.inR_of (W.encE_zero he).2.2.1)
    rcases Nat.eq_zero_or_pos (W.textL i).length with hz | hp
    · rw [List.eq_nil_of_length_eq_zero hz] at hP
      exact one_empty A i at' c hP w hS
    · exact one_walk A i at' c ⟨(W.textL i).toArray⟩ hp hl a0 a1 c0 (by omega) hP hR (cls A i _ rfl) w hS
end Go.Proofs.YtnejdkadmdelaaaGreatDoor
