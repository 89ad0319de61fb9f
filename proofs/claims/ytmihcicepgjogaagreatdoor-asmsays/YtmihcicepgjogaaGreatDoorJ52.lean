/- Texts in one: PaC, AsmSaysWalk. -/
import Derived.Test.YtmihcicepgjogaaGreatDoorJ49
import Derived.Test.YtmihcicepgjogaaGreatDoorJ51
/- The document's Parse finds what an instruction's text says, and nothing else. -/
namespace Go.Proofs.YtmihcicepgjogaaGreatDoor
open Go.ChangeShapes Go.WideShapes Go.ChangeAt Go.RowKit
set_option linter.unusedVariables false
set_option linter.unusedSimpArgs false

namespace W
def aqS (a : Bool) : List UInt8 := bif a then [46, 97, 113] else []
def rlS (r : Bool) : List UInt8 := bif r then [46, 114, 108] else []
def hdL (k : Nat) (a r : Bool) : List UInt8 := nameAt k ++ (aqS a ++ rlS r)
theorem hd_all : ((List.range 70).all fun k => k == 0 || [true, false].all fun a => [true, false].all fun r => ((hdL k a r).all fun c => !(c.toNat == 32)) && (hasSuf [46, 114, 108] (hdL k a r) == r) && (cutS [46, 114, 108] (hdL k a r) == nameAt k ++ aqS a) && (hasSuf [46, 97, 113] (nameAt k ++ aqS a) == a) && (cutS [46, 97, 113] (nameAt k ++ aqS a) == nameAt k)) = true := by decide +kernel
theorem names_apart : ((List.range 70).all fun j => (List.range 70).all fun k => j == k || !(nameAt j == nameAt k)) = true := by decide +kernel
theorem hd_of (k : Nat) (h0 : 1 ≤ k) (h1 : k < 70) (a r : Bool) : (∀ c ∈ hdL k a r, (c.toNat == 32) = false) ∧ hasSuf [46, 114, 108] (hdL k a r) = r ∧ cutS [46, 114, 108] (hdL k a r) = nameAt k ++ aqS a ∧ hasSuf [46, 97, 113] (nameAt k ++ aqS a) = a ∧ cutS [46, 97, 113] (nameAt k ++ aqS a) = nameAt k := by
  have h := List.all_eq_true.1 hd_all k (by simp; exact h1)
  have hk : (k == 0) = false := by simp; omega
  rw [hk, Bool.false_or] at h
  have h2 := List.all_eq_true.1 (List.all_eq_true.1 h a (by cases a <;> simp)) r (by cases r <;> simp)
  simp only [Bool.and_eq_true, beq_iff_eq] at h2
  obtain ⟨⟨⟨⟨h3, h4⟩, h5⟩, h6⟩, h7⟩ := h2
  refine ⟨fun c hc => ?_, h4, h5, h6, h7⟩
  have := List.all_eq_true.1 h3 c hc
  simpa using this
theorem names_ne {j k : Nat} (hj : j < 70) (hk : k < 70) (h : j ≠ k) : (nameAt j == nameAt k) = false := by
  have h1 := List.all_eq_true.1 (List.all_eq_true.1 names_apart j (by simp; exact hj)) k (by simp; exact hk)
  have h2 : (j == k) = false := by simpa using h
  rw [h2, Bool.false_or] at h1
  simpa using h1
theorem first_idx (f : Nat → Bool) : ∀ n, ∃ K, K ≤ n ∧ (∀ j, j < K → f j = false) ∧ (K < n → f K = true) := by
  intro n
  induction n with
  | zero => exact ⟨0, Nat.le_refl _, fun j h => absurd h (by omega), fun h => absurd h (by omega)⟩
  | succ n ih =>
    obtain ⟨K, h1, h2, h3⟩ := ih
    by_cases hK : K < n
    · exact ⟨K, by omega, h2, fun _ => h3 hK⟩
    · obtain rfl : K = n := by omega
      cases hf : f K
      · refine ⟨K + 1, Nat.le_refl _, fun j hj => ?_, fun h => absurd h (by omega)⟩
        by_cases e : j = K
        · subst e; exact hf
        · exact h2 j (by omega)
      · exact ⟨K, by omega, h2, fun _ => hf⟩
/-- The text of an instruction: its head, then what stands behind. -/
theorem text_hd (i : I) (he : encE i = 0) : textL i = hdL i.op.toNat i.aq i.rl ++ (spL (form i.op) ++ restL i (form i.op)) := by
  have hk := (encE_zero he).1
  rw [head_of, headL]
  have hn : nm i.op = nameAt i.op.toNat := by rw [nm, hk]; rfl
  rw [hn]
  unfold hdL aqS rlS
  simp [List.append_assoc]
theorem sp_head (i : I) : ∀ c, (spL (form i.op) ++ restL i (form i.op)).head? = some c → (c.toNat == 32) = true := by
  intro c hc
  cases hf : form i.op with
  | nil => rw [hf, restL_nil] at hc; simp [spL] at hc
  | cons x r => rw [hf] at hc; simp [spL] at hc; subst hc; rfl
end W

theorem rparse_miss (A : Nat → Addr) (L : List UInt8) (hL : L.length ≤ 200) (hno : ∀ i : W.I, W.encE i = 0 → 0 ≤ i.imm → i.imm < 4294967296 → W.textL i ≠ L) (w : World) (hS : Sg A w) :
    Calls Tryz.prog 13 #[.string ⟨L.toArray⟩] w fun e w' => e = .returned (.tuple #[inV ⟨0, 0, 0, 0, 0, 0, false, false⟩, .bool false]) ∧ Below w.heap.size w w' := by
  obtain ⟨sp, h1, h2, h3⟩ := W.first_idx (fun j => if h : j < L.length then ((L[j]'h).toNat == 32) else true) L.length
  obtain ⟨K, k1, k2, k3⟩ := W.first_idx (fun j => W.nameAt (j + 1) == W.cutS [46, 97, 113] (W.cutS [46, 114, 108] (L.take sp))) 69
  refine rp_trial A L _ _ _ _ _ hL sp h1 (fun j h hj => ?_) (fun h => ?_) rfl rfl rfl rfl rfl K k1 k2 k3 (fun _ => ⟨0, 0, 0, 0, 0, 0, false, false⟩) (fun _ => false) ⟨rfl, rfl⟩ _ rfl _ rfl (fun _ h4 h5 => ?_) (fun _ _ => ⟨rfl, rfl⟩) w hS
  · have := h2 j hj
    simpa [h] using this
  · have := h3 h
    simpa [h] using this
  · refine absurd h5 (hno _ h4 ?_ ?_)
    · exact (W.rdI_imm _ _ _ _).1
    · exact (W.rdI_imm _ _ _ _).2
theorem rparse_hit (A : Nat → Addr) (i : W.I) (he : W.encE i = 0) (m0 : 0 ≤ i.imm) (m1 : i.imm < 4294967296) (hL : (W.textL i).length ≤ 200) (w : World) (hS : Sg A w) :
    Calls Tryz.prog 13 #[.string ⟨(W.textL i).toArray⟩] w fun e w' => e = .returned (.tuple #[inV i, .bool true]) ∧ Below w.heap.size w w' := by
  have hk := (W.encE_zero he).1
  simp [W.known, W.fr] at hk
  have hT := W.text_hd i he
  obtain ⟨n1, n2, n3, n4, n5⟩ := W.hd_of i.op.toNat (by omega) (by omega) i.aq i.rl
  obtain ⟨N, hN, hI⟩ := W.bk_any i he m0 m1
  have hsp := W.sp_head i
  generalize hR : W.spL (W.form i.op) ++ W.restL i (W.form i.op) = Rs at *
  generalize hH : W.hdL i.op.toNat i.aq i.rl = H at *
  have hlen : (W.textL i).length = H.length + Rs.length := by rw [hT]; simp
  have ht : (W.textL i).take H.length = H := by rw [hT]; simp
  have hd : (W.textL i).drop H.length = Rs := by rw [hT]; simp
  have hop : ((i.op.toNat - 1 : Nat) : Int) + 1 = i.op := by omega
  have hop2 : i.op.toNat - 1 + 1 = i.op.toNat := by omega
  refine rp_trial A (W.textL i) H (W.nameAt i.op.toNat ++ W.aqS i.aq) (W.nameAt i.op.toNat) i.rl i.aq hL H.length (by omega) (fun j h hj => ?_) (fun h => ?_) ht n2 n3 n4 n5 (i.op.toNat - 1) (by omega) (fun j hj => ?_) (fun _ => ?_) (fun k => if k = 69 then ⟨0, 0, 0, 0, 0, 0, false, false⟩ else i) (fun k => decide (k ≠ 69)) ⟨rfl, rfl⟩ N ?_ i ?_ (fun h _ _ => ?_) (fun h hh => absurd ⟨he, rfl⟩ hh) w hS |>.mono ?_
  · have : (W.textL i)[j]'h = H[j]'hj := by simp only [hT]; rw [List.getElem_append_left hj]
    rw [this]
    exact n1 _ (List.getElem_mem hj)
  · have hr : 0 < Rs.length := by omega
    have : (W.textL i)[H.length]'h = Rs[0]'hr := by simp only [hT]; rw [List.getElem_append_right (Nat.le_refl _)]; simp
    rw [this]
    exact hsp _ (by rw [List.head?_eq_getElem?, List.getElem?_eq_getElem hr])
  · exact W.names_ne (by omega) (by omega) (by omega)
  · rw [hop2]; simp
  · rw [hd, hN]; rfl
  · rw [hop, hI]
  · have : ¬ (i.op.toNat - 1 = 69) := by omega
    simp [this]
  · rintro e w' ⟨rfl, hb⟩
    have : ¬ (i.op.toNat - 1 = 69) := by omega
    exact ⟨by simp [this], hb⟩
end Go.Proofs.YtmihcicepgjogaaGreatDoor

/- AsmSays: the walk. -/
namespace Go.Proofs.YtmihcicepgjogaaGreatDoor
open Go.ChangeShapes Go.WideShapes Go.ChangeAt Go.RowKit
set_option linter.unusedVariables false
set_option linter.unusedSimpArgs false

theorem says_long (A : Nat → Addr) (i : W.I) (s : ByteArray) (hs : 200 < s.size) (hm : s.size ≤ maxLen) (w : World) (hS : Sg A w) :
    Calls Tryz.prog 3 #[inV i, .string s] w fun e w' => e = .returned (.bool true) ∧ Below w.heap.size w w' := by
  have HS : Hid (Sg A w) := hS
  have hm2 : s.size ≤ 9223372036854775807 := by unfold maxLen at hm; omega
  clear hS hm
  unfold inV
  go_enter Tryz.func3, Tryz.ntmps3
  go_wp2_with (go_at_call 8; refine (first5_any A _ (HS.out.below ((Below.refl _ _).alloc (Nat.le_refl _) _))).mono ?_; rintro e w1 ⟨rfl, hb1⟩)
  go_ret
  exact ⟨rfl, ((Below.refl _ _).alloc (Nat.le_refl _) _).trans (hb1.mono (by simp))⟩

set_option maxRecDepth 100000 in
set_option maxHeartbeats 3200000 in
theorem says_fh (A : Nat → Addr) (i : W.I) (m0 : 0 ≤ i.imm) (m1 : i.imm < 4294967296) (L : List UInt8) (hL : L.length ≤ 200) (X : W.I) (fv : Value)
    (hP : ∀ w : World, Sg A w → Calls Tryz.prog 12 #[.string ⟨L.toArray⟩] w fun e w' => e = .returned (.tuple #[inV X, fv]) ∧ Below w.heap.size w w')
    (hRp : ∀ w : World, Sg A w → Calls Tryz.prog 13 #[.string ⟨L.toArray⟩] w fun e w' => e = .returned (.tuple #[inV X, .bool true]) ∧ Below w.heap.size w w')
    (hI2 : ∀ (c : Int) (w : World), Sent A w → Calls Tryz.prog 14 #[fv, .int .i64 c] w fun e w' => e = .returned (.bool ((0 : Int) == c)) ∧ Below w.heap.size w w')
    (hen : W.encE i = 0) (w : World) (hS : Sg A w) :
    Calls Tryz.prog 3 #[inV i, .string ⟨L.toArray⟩] w fun e w' => e = .returned (.bool true) ∧ Below w.heap.size w w' := by
  have HS : Hid (Sg A w) := hS
  have hli : (L.length : Int) ≤ 200 := by omega
  have hpr := fun w h => print_any A i w h
  have hI1 := fun c w h => is_any A (W.encE i) (encE_le i) c w h
  have hec := fun w => renc_any i w m0 m1
  have hsm := fun w => sameInst_any X X w
  have hss : W.same X X = true := by simp [W.same]
  rw [hss] at hsm
  have hrp := fun w h => rprint_any A i hen m0 m1 w h
  have hpt : W.printL i = W.textL i := by rw [W.printL, hen]; rfl
  rw [hpt] at hpr
  rw [hen] at hpr hI1 hec
  have hn0 : num 0 = 0 := rfl
  generalize W.textL i = TL at *
  generalize errV A 0 = fe at hpr hI1
  generalize W.encV i = ev at hec
  clear hS hen hpt hss
  unfold inV at hpr hec hP hRp hsm hrp ⊢

  go_enter Tryz.func3, Tryz.ntmps3
  go_wp2_with fail
  have hb0 : Below w.heap.size w (w.alloc (.cells #[.int .i64 i.op, .int .i64 i.rd, .int .i64 i.rs1, .int .i64 i.rs2, .int .i64 i.csr, .int .u32 i.imm, .bool i.aq, .bool i.rl] 24)) := (Below.refl _ _).alloc (Nat.le_refl _) _
  have hA := InAt.start w i 24
  generalize World.alloc w _ = w0 at *
  refine (first5_any A w0 (HS.out.below hb0)).mono ?_
  rintro e w1 ⟨rfl, hb1⟩
  have hbl : Below w.heap.size w w1 := hb0.trans (hb1.mono hb0.size)
  replace hA := hA.below hb1
  clear hb0 hb1
  obtain ⟨z0, z1, z2, z3, z4, z5, z6, z7⟩ := id hA
  go_wp2_with fail
  refine (hpr _ (HS.out.below hbl)).mono ?_
  rintro e w2 ⟨rfl, hb2⟩
  replace hbl := hbl.trans (hb2.mono hbl.size)
  replace hA := hA.below hb2
  clear hb2 z0 z1 z2 z3 z4 z5 z6 z7 hpr
  obtain ⟨z0, z1, z2, z3, z4, z5, z6, z7⟩ := id hA
  go_wp2_with fail
  refine (hec _).mono ?_
  rintro e w3 ⟨rfl, hb3⟩
  replace hbl := hbl.trans (hb3.mono hbl.size)
  replace hA := hA.below hb3
  clear hb3 z0 z1 z2 z3 z4 z5 z6 z7 hec
  obtain ⟨z0, z1, z2, z3, z4, z5, z6, z7⟩ := id hA
  go_wp2_with fail
  refine (hrp _ (HS.out.below hbl)).mono ?_
  rintro e w4 ⟨rfl, hb4⟩
  replace hbl := hbl.trans (hb4.mono hbl.size)
  clear hb4 hA z0 z1 z2 z3 z4 z5 z6 z7 hrp
  go_wp2_with fail
  refine (hP _ (HS.out.below hbl)).mono ?_
  rintro e w5 ⟨rfl, hb5⟩
  replace hbl := hbl.trans (hb5.mono hbl.size)
  clear hb5 hP
  go_wp2_with fail
  have hX := InAt.start w5 X 24
  replace hbl := hbl.alloc hbl.size (.cells #[.int .i64 X.op, .int .i64 X.rd, .int .i64 X.rs1, .int .i64 X.rs2, .int .i64 X.csr, .int .u32 X.imm, .bool X.aq, .bool X.rl] 24)
  have lx : w5.heap.size < (w5.alloc (.cells #[.int .i64 X.op, .int .i64 X.rd, .int .i64 X.rs1, .int .i64 X.rs2, .int .i64 X.csr, .int .u32 X.imm, .bool X.aq, .bool X.rl] 24)).heap.size := by simp
  generalize World.alloc w5 _ = W6 at *
  refine (hRp _ (HS.out.below hbl)).mono ?_
  rintro e w7 ⟨rfl, hb7⟩
  replace hbl := hbl.trans (hb7.mono hbl.size)
  replace hX := hX.below hb7
  replace lx := Nat.lt_of_lt_of_le lx hb7.size
  clear hb7 hRp
  go_wp2_with fail
  have hY := InAt.start w7 X 24
  replace hX := hX.below ((Below.refl _ _).alloc (Nat.le_refl _) (.cells #[.int .i64 X.op, .int .i64 X.rd, .int .i64 X.rs1, .int .i64 X.rs2, .int .i64 X.csr, .int .u32 X.imm, .bool X.aq, .bool X.rl] 24))
  replace hbl := hbl.alloc hbl.size (.cells #[.int .i64 X.op, .int .i64 X.rd, .int .i64 X.rs1, .int .i64 X.rs2, .int .i64 X.csr, .int .u32 X.imm, .bool X.aq, .bool X.rl] 24)
  generalize World.alloc w7 _ = W8 at *
  refine (hI1 _ _ (HS.out.below hbl).sent).mono ?_
  rintro e w9 ⟨rfl, hb9⟩
  replace hbl := hbl.trans (hb9.mono hbl.size)
  replace hX := hX.below hb9
  replace hY := hY.below hb9
  clear hb9 hI1
  obtain ⟨a0, a1, a2, a3, a4, a5, a6, a7⟩ := id hX
  obtain ⟨b0, b1, b2, b3, b4, b5, b6, b7⟩ := id hY
  go_wp2_with fail
  refine (hsm _).mono ?_
  rintro e w10 ⟨rfl, hb10⟩
  replace hbl := hbl.trans (hb10.mono hbl.size)
  clear hb10 hsm hX hY a0 a1 a2 a3 a4 a5 a6 a7 b0 b1 b2 b3 b4 b5 b6 b7
  go_wp2_with fail
  refine (hI2 _ _ (HS.out.below hbl).sent).mono ?_
  rintro e w11 ⟨rfl, hb11⟩
  replace hbl := hbl.trans (hb11.mono hbl.size)
  clear hb11 hI2
  go_wp2
  go_ret
  exact ⟨rfl, hbl⟩

set_option maxRecDepth 100000 in
set_option maxHeartbeats 3200000 in
theorem says_fm (A : Nat → Addr) (i : W.I) (m0 : 0 ≤ i.imm) (m1 : i.imm < 4294967296) (L : List UInt8) (hL : L.length ≤ 200) (X : W.I) (fv : Value)
    (hP : ∀ w : World, Sg A w → Calls Tryz.prog 12 #[.string ⟨L.toArray⟩] w fun e w' => e = .returned (.tuple #[inV X, fv]) ∧ Below w.heap.size w w')
    (hRp : ∀ w : World, Sg A w → Calls Tryz.prog 13 #[.string ⟨L.toArray⟩] w fun e w' => e = .returned (.tuple #[inV X, .bool false]) ∧ Below w.heap.size w w')
    (hI2 : ∀ (c : Int) (w : World), Sent A w → Calls Tryz.prog 14 #[fv, .int .i64 c] w fun e w' => e = .returned (.bool ((105 : Int) == c)) ∧ Below w.heap.size w w')
    (hen : W.encE i = 0) (w : World) (hS : Sg A w) :
    Calls Tryz.prog 3 #[inV i, .string ⟨L.toArray⟩] w fun e w' => e = .returned (.bool true) ∧ Below w.heap.size w w' := by
  have HS : Hid (Sg A w) := hS
  have hli : (L.length : Int) ≤ 200 := by omega
  have hpr := fun w h => print_any A i w h
  have hI1 := fun c w h => is_any A (W.encE i) (encE_le i) c w h
  have hec := fun w => renc_any i w m0 m1
  have hsm := fun w => sameInst_any X X w
  have hss : W.same X X = true := by simp [W.same]
  rw [hss] at hsm
  have hrp := fun w h => rprint_any A i hen m0 m1 w h
  have hpt : W.printL i = W.textL i := by rw [W.printL, hen]; rfl
  rw [hpt] at hpr
  rw [hen] at hpr hI1 hec
  have hn0 : num 0 = 0 := rfl
  generalize W.textL i = TL at *
  generalize errV A 0 = fe at hpr hI1
  generalize W.encV i = ev at hec
  clear hS hen hpt hss
  unfold inV at hpr hec hP hRp hsm hrp ⊢

  go_enter Tryz.func3, Tryz.ntmps3
  go_wp2_with fail
  have hb0 : Below w.heap.size w (w.alloc (.cells #[.int .i64 i.op, .int .i64 i.rd, .int .i64 i.rs1, .int .i64 i.rs2, .int .i64 i.csr, .int .u32 i.imm, .bool i.aq, .bool i.rl] 24)) := (Below.refl _ _).alloc (Nat.le_refl _) _
  have hA := InAt.start w i 24
  generalize World.alloc w _ = w0 at *
  refine (first5_any A w0 (HS.out.below hb0)).mono ?_
  rintro e w1 ⟨rfl, hb1⟩
  have hbl : Below w.heap.size w w1 := hb0.trans (hb1.mono hb0.size)
  replace hA := hA.below hb1
  clear hb0 hb1
  obtain ⟨z0, z1, z2, z3, z4, z5, z6, z7⟩ := id hA
  go_wp2_with fail
  refine (hpr _ (HS.out.below hbl)).mono ?_
  rintro e w2 ⟨rfl, hb2⟩
  replace hbl := hbl.trans (hb2.mono hbl.size)
  replace hA := hA.below hb2
  clear hb2 z0 z1 z2 z3 z4 z5 z6 z7 hpr
  obtain ⟨z0, z1, z2, z3, z4, z5, z6, z7⟩ := id hA
  go_wp2_with fail
  refine (hec _).mono ?_
  rintro e w3 ⟨rfl, hb3⟩
  replace hbl := hbl.trans (hb3.mono hbl.size)
  replace hA := hA.below hb3
  clear hb3 z0 z1 z2 z3 z4 z5 z6 z7 hec
  obtain ⟨z0, z1, z2, z3, z4, z5, z6, z7⟩ := id hA
  go_wp2_with fail
  refine (hrp _ (HS.out.below hbl)).mono ?_
  rintro e w4 ⟨rfl, hb4⟩
  replace hbl := hbl.trans (hb4.mono hbl.size)
  clear hb4 hA z0 z1 z2 z3 z4 z5 z6 z7 hrp
  go_wp2_with fail
  refine (hP _ (HS.out.below hbl)).mono ?_
  rintro e w5 ⟨rfl, hb5⟩
  replace hbl := hbl.trans (hb5.mono hbl.size)
  clear hb5 hP
  go_wp2_with fail
  have hX := InAt.start w5 X 24
  replace hbl := hbl.alloc hbl.size (.cells #[.int .i64 X.op, .int .i64 X.rd, .int .i64 X.rs1, .int .i64 X.rs2, .int .i64 X.csr, .int .u32 X.imm, .bool X.aq, .bool X.rl] 24)
  have lx : w5.heap.size < (w5.alloc (.cells #[.int .i64 X.op, .int .i64 X.rd, .int .i64 X.rs1, .int .i64 X.rs2, .int .i64 X.csr, .int .u32 X.imm, .bool X.aq, .bool X.rl] 24)).heap.size := by simp
  generalize World.alloc w5 _ = W6 at *
  refine (hRp _ (HS.out.below hbl)).mono ?_
  rintro e w7 ⟨rfl, hb7⟩
  replace hbl := hbl.trans (hb7.mono hbl.size)
  replace hX := hX.below hb7
  replace lx := Nat.lt_of_lt_of_le lx hb7.size
  clear hb7 hRp
  go_wp2_with fail
  have hY := InAt.start w7 X 24
  replace hX := hX.below ((Below.refl _ _).alloc (Nat.le_refl _) (.cells #[.int .i64 X.op, .int .i64 X.rd, .int .i64 X.rs1, .int .i64 X.rs2, .int .i64 X.csr, .int .u32 X.imm, .bool X.aq, .bool X.rl] 24))
  replace hbl := hbl.alloc hbl.size (.cells #[.int .i64 X.op, .int .i64 X.rd, .int .i64 X.rs1, .int .i64 X.rs2, .int .i64 X.csr, .int .u32 X.imm, .bool X.aq, .bool X.rl] 24)
  generalize World.alloc w7 _ = W8 at *
  refine (hI1 _ _ (HS.out.below hbl).sent).mono ?_
  rintro e w9 ⟨rfl, hb9⟩
  replace hbl := hbl.trans (hb9.mono hbl.size)
  replace hX := hX.below hb9
  replace hY := hY.below hb9
  clear hb9 hI1
  obtain ⟨a0, a1, a2, a3, a4, a5, a6, a7⟩ := id hX
  obtain ⟨b0, b1, b2, b3, b4, b5, b6, b7⟩ := id hY
  go_wp2_with fail
  refine (hsm _).mono ?_
  rintro e w10 ⟨rfl, hb10⟩
  replace hbl := hbl.trans (hb10.mono hbl.size)
  clear hb10 hsm hX hY a0 a1 a2 a3 a4 a5 a6 a7 b0 b1 b2 b3 b4 b5 b6 b7
  go_wp2_with fail
  refine (hI2 _ _ (HS.out.below hbl).sent).mono ?_
  rintro e w11 ⟨rfl, hb11⟩
  replace hbl := hbl.trans (hb11.mono hbl.size)
  clear hb11 hI2
  go_wp2
  go_ret
  exact ⟨rfl, hbl⟩

set_option maxRecDepth 100000 in
set_option maxHeartbeats 3200000 in
theorem says_nh (A : Nat → Addr) (i : W.I) (m0 : 0 ≤ i.imm) (m1 : i.imm < 4294967296) (L : List UInt8) (hL : L.length ≤ 200) (X : W.I) (fv : Value)
    (hP : ∀ w : World, Sg A w → Calls Tryz.prog 12 #[.string ⟨L.toArray⟩] w fun e w' => e = .returned (.tuple #[inV X, fv]) ∧ Below w.heap.size w w')
    (hRp : ∀ w : World, Sg A w → Calls Tryz.prog 13 #[.string ⟨L.toArray⟩] w fun e w' => e = .returned (.tuple #[inV X, .bool true]) ∧ Below w.heap.size w w')
    (hI2 : ∀ (c : Int) (w : World), Sent A w → Calls Tryz.prog 14 #[fv, .int .i64 c] w fun e w' => e = .returned (.bool ((0 : Int) == c)) ∧ Below w.heap.size w w')
    (hen : ¬ W.encE i = 0) (w : World) (hS : Sg A w) :
    Calls Tryz.prog 3 #[inV i, .string ⟨L.toArray⟩] w fun e w' => e = .returned (.bool true) ∧ Below w.heap.size w w' := by
  have HS : Hid (Sg A w) := hS
  have hli : (L.length : Int) ≤ 200 := by omega
  have hpr := fun w h => print_any A i w h
  have hI1 := fun c w h => is_any A (W.encE i) (encE_le i) c w h
  have hec := fun w => renc_any i w m0 m1
  have hsm := fun w => sameInst_any X X w
  have hss : W.same X X = true := by simp [W.same]
  rw [hss] at hsm
  have hpt : W.printL i = [] := by rw [W.printL, show (W.encE i == 0) = false by simpa using hen]; rfl
  rw [hpt] at hpr
  have hn0 := num_zero _ hen
  generalize errV A (W.encE i) = fe at hpr hI1
  generalize num (W.encE i) = nn at *
  generalize W.encV i = ev at hec
  clear hS hen hpt hss
  unfold inV at hpr hec hP hRp hsm ⊢

  go_enter Tryz.func3, Tryz.ntmps3
  go_wp2_with fail
  have hb0 : Below w.heap.size w (w.alloc (.cells #[.int .i64 i.op, .int .i64 i.rd, .int .i64 i.rs1, .int .i64 i.rs2, .int .i64 i.csr, .int .u32 i.imm, .bool i.aq, .bool i.rl] 24)) := (Below.refl _ _).alloc (Nat.le_refl _) _
  have hA := InAt.start w i 24
  generalize World.alloc w _ = w0 at *
  refine (first5_any A w0 (HS.out.below hb0)).mono ?_
  rintro e w1 ⟨rfl, hb1⟩
  have hbl : Below w.heap.size w w1 := hb0.trans (hb1.mono hb0.size)
  replace hA := hA.below hb1
  clear hb0 hb1
  obtain ⟨z0, z1, z2, z3, z4, z5, z6, z7⟩ := id hA
  go_wp2_with fail
  refine (hpr _ (HS.out.below hbl)).mono ?_
  rintro e w2 ⟨rfl, hb2⟩
  replace hbl := hbl.trans (hb2.mono hbl.size)
  replace hA := hA.below hb2
  clear hb2 z0 z1 z2 z3 z4 z5 z6 z7 hpr
  obtain ⟨z0, z1, z2, z3, z4, z5, z6, z7⟩ := id hA
  go_wp2_with fail
  refine (hec _).mono ?_
  rintro e w3 ⟨rfl, hb3⟩
  replace hbl := hbl.trans (hb3.mono hbl.size)
  replace hA := hA.below hb3
  clear hb3 z0 z1 z2 z3 z4 z5 z6 z7 hec
  obtain ⟨z0, z1, z2, z3, z4, z5, z6, z7⟩ := id hA
  go_wp2_with fail
  refine (hP _ (HS.out.below hbl)).mono ?_
  rintro e w5 ⟨rfl, hb5⟩
  replace hbl := hbl.trans (hb5.mono hbl.size)
  clear hb5 hP
  go_wp2_with fail
  have hX := InAt.start w5 X 24
  replace hbl := hbl.alloc hbl.size (.cells #[.int .i64 X.op, .int .i64 X.rd, .int .i64 X.rs1, .int .i64 X.rs2, .int .i64 X.csr, .int .u32 X.imm, .bool X.aq, .bool X.rl] 24)
  have lx : w5.heap.size < (w5.alloc (.cells #[.int .i64 X.op, .int .i64 X.rd, .int .i64 X.rs1, .int .i64 X.rs2, .int .i64 X.csr, .int .u32 X.imm, .bool X.aq, .bool X.rl] 24)).heap.size := by simp
  generalize World.alloc w5 _ = W6 at *
  refine (hRp _ (HS.out.below hbl)).mono ?_
  rintro e w7 ⟨rfl, hb7⟩
  replace hbl := hbl.trans (hb7.mono hbl.size)
  replace hX := hX.below hb7
  replace lx := Nat.lt_of_lt_of_le lx hb7.size
  clear hb7 hRp
  go_wp2_with fail
  have hY := InAt.start w7 X 24
  replace hX := hX.below ((Below.refl _ _).alloc (Nat.le_refl _) (.cells #[.int .i64 X.op, .int .i64 X.rd, .int .i64 X.rs1, .int .i64 X.rs2, .int .i64 X.csr, .int .u32 X.imm, .bool X.aq, .bool X.rl] 24))
  replace hbl := hbl.alloc hbl.size (.cells #[.int .i64 X.op, .int .i64 X.rd, .int .i64 X.rs1, .int .i64 X.rs2, .int .i64 X.csr, .int .u32 X.imm, .bool X.aq, .bool X.rl] 24)
  generalize World.alloc w7 _ = W8 at *
  refine (hI1 _ _ (HS.out.below hbl).sent).mono ?_
  rintro e w9 ⟨rfl, hb9⟩
  replace hbl := hbl.trans (hb9.mono hbl.size)
  replace hX := hX.below hb9
  replace hY := hY.below hb9
  clear hb9 hI1
  obtain ⟨a0, a1, a2, a3, a4, a5, a6, a7⟩ := id hX
  obtain ⟨b0, b1, b2, b3, b4, b5, b6, b7⟩ := id hY
  go_wp2_with fail
  refine (hsm _).mono ?_
  rintro e w10 ⟨rfl, hb10⟩
  replace hbl := hbl.trans (hb10.mono hbl.size)
  clear hb10 hsm hX hY a0 a1 a2 a3 a4 a5 a6 a7 b0 b1 b2 b3 b4 b5 b6 b7
  go_wp2_with fail
  refine (hI2 _ _ (HS.out.below hbl).sent).mono ?_
  rintro e w11 ⟨rfl, hb11⟩
  replace hbl := hbl.trans (hb11.mono hbl.size)
  clear hb11 hI2
  go_wp2
  go_ret
  exact ⟨rfl, hbl⟩

set_option maxRecDepth 100000 in
set_option maxHeartbeats 3200000 in
theorem says_nm (A : Nat → Addr) (i : W.I) (m0 : 0 ≤ i.imm) (m1 : i.imm < 4294967296) (L : List UInt8) (hL : L.length ≤ 200) (X : W.I) (fv : Value)
    (hP : ∀ w : World, Sg A w → Calls Tryz.prog 12 #[.string ⟨L.toArray⟩] w fun e w' => e = .returned (.tuple #[inV X, fv]) ∧ Below w.heap.size w w')
    (hRp : ∀ w : World, Sg A w → Calls Tryz.prog 13 #[.string ⟨L.toArray⟩] w fun e w' => e = .returned (.tuple #[inV X, .bool false]) ∧ Below w.heap.size w w')
    (hI2 : ∀ (c : Int) (w : World), Sent A w → Calls Tryz.prog 14 #[fv, .int .i64 c] w fun e w' => e = .returned (.bool ((105 : Int) == c)) ∧ Below w.heap.size w w')
    (hen : ¬ W.encE i = 0) (w : World) (hS : Sg A w) :
    Calls Tryz.prog 3 #[inV i, .string ⟨L.toArray⟩] w fun e w' => e = .returned (.bool true) ∧ Below w.heap.size w w' := by
  have HS : Hid (Sg A w) := hS
  have hli : (L.length : Int) ≤ 200 := by omega
  have hpr := fun w h => print_any A i w h
  have hI1 := fun c w h => is_any A (W.encE i) (encE_le i) c w h
  have hec := fun w => renc_any i w m0 m1
  have hsm := fun w => sameInst_any X X w
  have hss : W.same X X = true := by simp [W.same]
  rw [hss] at hsm
  have hpt : W.printL i = [] := by rw [W.printL, show (W.encE i == 0) = false by simpa using hen]; rfl
  rw [hpt] at hpr
  have hn0 := num_zero _ hen
  generalize errV A (W.encE i) = fe at hpr hI1
  generalize num (W.encE i) = nn at *
  generalize W.encV i = ev at hec
  clear hS hen hpt hss
  unfold inV at hpr hec hP hRp hsm ⊢

  go_enter Tryz.func3, Tryz.ntmps3
  go_wp2_with fail
  have hb0 : Below w.heap.size w (w.alloc (.cells #[.int .i64 i.op, .int .i64 i.rd, .int .i64 i.rs1, .int .i64 i.rs2, .int .i64 i.csr, .int .u32 i.imm, .bool i.aq, .bool i.rl] 24)) := (Below.refl _ _).alloc (Nat.le_refl _) _
  have hA := InAt.start w i 24
  generalize World.alloc w _ = w0 at *
  refine (first5_any A w0 (HS.out.below hb0)).mono ?_
  rintro e w1 ⟨rfl, hb1⟩
  have hbl : Below w.heap.size w w1 := hb0.trans (hb1.mono hb0.size)
  replace hA := hA.below hb1
  clear hb0 hb1
  obtain ⟨z0, z1, z2, z3, z4, z5, z6, z7⟩ := id hA
  go_wp2_with fail
  refine (hpr _ (HS.out.below hbl)).mono ?_
  rintro e w2 ⟨rfl, hb2⟩
  replace hbl := hbl.trans (hb2.mono hbl.size)
  replace hA := hA.below hb2
  clear hb2 z0 z1 z2 z3 z4 z5 z6 z7 hpr
  obtain ⟨z0, z1, z2, z3, z4, z5, z6, z7⟩ := id hA
  go_wp2_with fail
  refine (hec _).mono ?_
  rintro e w3 ⟨rfl, hb3⟩
  replace hbl := hbl.trans (hb3.mono hbl.size)
  replace hA := hA.below hb3
  clear hb3 z0 z1 z2 z3 z4 z5 z6 z7 hec
  obtain ⟨z0, z1, z2, z3, z4, z5, z6, z7⟩ := id hA
  go_wp2_with fail
  refine (hP _ (HS.out.below hbl)).mono ?_
  rintro e w5 ⟨rfl, hb5⟩
  replace hbl := hbl.trans (hb5.mono hbl.size)
  clear hb5 hP
  go_wp2_with fail
  have hX := InAt.start w5 X 24
  replace hbl := hbl.alloc hbl.size (.cells #[.int .i64 X.op, .int .i64 X.rd, .int .i64 X.rs1, .int .i64 X.rs2, .int .i64 X.csr, .int .u32 X.imm, .bool X.aq, .bool X.rl] 24)
  have lx : w5.heap.size < (w5.alloc (.cells #[.int .i64 X.op, .int .i64 X.rd, .int .i64 X.rs1, .int .i64 X.rs2, .int .i64 X.csr, .int .u32 X.imm, .bool X.aq, .bool X.rl] 24)).heap.size := by simp
  generalize World.alloc w5 _ = W6 at *
  refine (hRp _ (HS.out.below hbl)).mono ?_
  rintro e w7 ⟨rfl, hb7⟩
  replace hbl := hbl.trans (hb7.mono hbl.size)
  replace hX := hX.below hb7
  replace lx := Nat.lt_of_lt_of_le lx hb7.size
  clear hb7 hRp
  go_wp2_with fail
  have hY := InAt.start w7 X 24
  replace hX := hX.below ((Below.refl _ _).alloc (Nat.le_refl _) (.cells #[.int .i64 X.op, .int .i64 X.rd, .int .i64 X.rs1, .int .i64 X.rs2, .int .i64 X.csr, .int .u32 X.imm, .bool X.aq, .bool X.rl] 24))
  replace hbl := hbl.alloc hbl.size (.cells #[.int .i64 X.op, .int .i64 X.rd, .int .i64 X.rs1, .int .i64 X.rs2, .int .i64 X.csr, .int .u32 X.imm, .bool X.aq, .bool X.rl] 24)
  generalize World.alloc w7 _ = W8 at *
  refine (hI1 _ _ (HS.out.below hbl).sent).mono ?_
  rintro e w9 ⟨rfl, hb9⟩
  replace hbl := hbl.trans (hb9.mono hbl.size)
  replace hX := hX.below hb9
  replace hY := hY.below hb9
  clear hb9 hI1
  obtain ⟨a0, a1, a2, a3, a4, a5, a6, a7⟩ := id hX
  obtain ⟨b0, b1, b2, b3, b4, b5, b6, b7⟩ := id hY
  go_wp2_with fail
  refine (hsm _).mono ?_
  rintro e w10 ⟨rfl, hb10⟩
  replace hbl := hbl.trans (hb10.mono hbl.size)
  clear hb10 hsm hX hY a0 a1 a2 a3 a4 a5 a6 a7 b0 b1 b2 b3 b4 b5 b6 b7
  go_wp2_with fail
  refine (hI2 _ _ (HS.out.below hbl).sent).mono ?_
  rintro e w11 ⟨rfl, hb11⟩
  replace hbl := hbl.trans (hb11.mono hbl.size)
  clear hb11 hI2
  go_wp2
  go_ret
  exact ⟨rfl, hbl⟩

theorem asmSays_walk (A : Nat → Addr) (i : W.I) (s : ByteArray) (hi : 0 ≤ i.imm ∧ i.imm < 4294967296) (hs : s.size ≤ maxLen) (w : World) (hS : Sg A w) :
    Calls Tryz.prog 3 #[inV i, .string s] w fun e w' => e = .returned (.bool true) ∧ Below w.heap.size w w' := by
  by_cases hl : 200 < s.size
  · exact says_long A i s hl hs w hS
  · obtain ⟨L, rfl⟩ : ∃ L : List UInt8, s = ⟨L.toArray⟩ := ⟨s.data.toList, (ba_list s).symm⟩
    have hL : L.length ≤ 200 := by rw [ba_len] at hl; omega
    by_cases hit : ∃ j : W.I, W.encE j = 0 ∧ (0 ≤ j.imm ∧ j.imm < 4294967296) ∧ W.textL j = L
    · obtain ⟨j, h1, h2, rfl⟩ := hit
      have hP := fun w h => parse_ok A j h2.1 h2.2 h1 w h
      have hR := fun w h => rparse_hit A j h1 h2.1 h2.2 hL w h
      have hI := fun c w h => is_any A 0 (by decide) c w h
      by_cases he : W.encE i = 0
      · exact says_fh A i hi.1 hi.2 _ hL j _ hP hR hI he w hS
      · exact says_nh A i hi.1 hi.2 _ hL j _ hP hR hI he w hS
    · have hR := fun w h => rparse_miss A L hL (fun j h1 h2 h3 h4 => hit ⟨j, h1, ⟨h2, h3⟩, h4⟩) w h
      rcases parse_cls A L (by omega) with ⟨j, h1, h2, h3, _⟩ | hP
      · exact absurd ⟨j, h1, h2, h3⟩ hit
      · have hI := fun c w h => is_word A c w h
        by_cases he : W.encE i = 0
        · exact says_fm A i hi.1 hi.2 _ hL _ _ hP hR hI he w hS
        · exact says_nm A i hi.1 hi.2 _ hL _ _ hP hR hI he w hS
end Go.Proofs.YtmihcicepgjogaaGreatDoor
