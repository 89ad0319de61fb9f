/- Texts in one: AsmNo, AsmDe, AsmNuA. -/
import Derived.Test.YtnejdkadmdelaaaGreatDoorK09
/- No instruction's text has a needless sign, or a needless zero. -/
namespace Go.Proofs.YtnejdkadmdelaaaGreatDoor
open Go.ChangeShapes Go.WideShapes Go.ChangeAt Go.RowKit
set_option linter.unusedVariables false
set_option linter.unusedSimpArgs false

namespace W
/-- An instruction's text up to its parts. -/
def headL (op : Int) (a r : Bool) : List UInt8 := nm op ++ ((bif a then [46, 97, 113] else []) ++ ((bif r then [46, 114, 108] else []) ++ spL (form op)))
theorem head_of (i : I) : textL i = headL i.op i.aq i.rl ++ restL i (form i.op) := by
  unfold textL headL aqL rlL
  simp only [List.append_assoc]
set_option maxRecDepth 100000 in
theorem head_addi : ((List.range 70).all fun k => k == 0 || k == 19 || [true, false].all fun a => [true, false].all fun r => !((headL (k : Int) a r).isPrefixOf [97, 100, 100, 105, 32]) && !([97, 100, 100, 105, 32].isPrefixOf (headL (k : Int) a r))) = true := by decide +kernel
theorem split44 : ∀ (a b u v : List UInt8), (44 : UInt8) ∉ a → (44 : UInt8) ∉ b → a ++ 44 :: u = b ++ 44 :: v → u = v
  | [], [], u, v, _, _, h => by simpa using h
  | [], y :: b, u, v, _, h2, h => by simp at h; exact absurd (by simp [h.1]) h2
  | x :: a, [], u, v, h1, _, h => by simp at h; exact absurd (by simp [h.1]) h1
  | x :: a, y :: b, u, v, h1, h2, h => by
    simp only [List.cons_append, List.cons.injEq] at h
    exact split44 a b u v (fun hh => h1 (List.mem_cons_of_mem _ hh)) (fun hh => h2 (List.mem_cons_of_mem _ hh)) h.2
theorem dec44 (u : Nat) : (44 : UInt8) ∉ Lib.decDigits u := fun h => by
  have := (dec_all u).1 44 h
  unfold dig at this
  revert this
  decide
theorem op_addi (i : I) (hk : known i.op = true) (Y : List UInt8) (h : textL i = [97, 100, 100, 105, 32] ++ Y) : i.op = 19 := by
  simp [known, fr] at hk
  obtain ⟨k, hk'⟩ : ∃ k : Nat, i.op = (k : Int) := ⟨i.op.toNat, by omega⟩
  have hc := List.all_eq_true.1 head_addi k (by simp; omega)
  rw [head_of] at h
  have p1 : [97, 100, 100, 105, 32] <+: headL i.op i.aq i.rl ++ restL i (form i.op) := ⟨Y, h.symm⟩
  have p2 : headL i.op i.aq i.rl <+: headL i.op i.aq i.rl ++ restL i (form i.op) := ⟨_, rfl⟩
  rcases Nat.lt_or_ge 0 k with h0 | h0
  · by_cases h19 : k = 19
    · omega
    · rw [Bool.or_eq_true, Bool.or_eq_true] at hc
      rcases hc with (hc | hc) | hc
      · simp at hc; omega
      · simp at hc; omega
      · have hc1 := List.all_eq_true.1 hc i.aq (by cases i.aq <;> simp)
        have hc2 := List.all_eq_true.1 hc1 i.rl (by cases i.rl <;> simp)
        rw [← hk', Bool.and_eq_true, Bool.not_eq_true', Bool.not_eq_true'] at hc2
        rcases List.prefix_or_prefix_of_prefix p1 p2 with q | q
        · rw [List.isPrefixOf_iff_prefix.2 q] at hc2
          cases hc2.2
        · rw [List.isPrefixOf_iff_prefix.2 q] at hc2
          cases hc2.1
  · omega
theorem restL_nil (i : I) : restL i [] = [] := rfl
theorem rest_btw (i : I) (c : UInt8) (r : List UInt8) (h : btw c.toNat = true) : restL i (c :: r) = c :: restL i r := by
  have e : restL i (c :: r) = (bif btw c.toNat then [c] else partL i c.toNat) ++ restL i r := rfl
  rw [e, h]; rfl
theorem rest_part (i : I) (c : UInt8) (r : List UInt8) (n : Nat) (hn : c.toNat = n) (h : btw n = false) : restL i (c :: r) = partL i n ++ restL i r := by
  have e : restL i (c :: r) = (bif btw c.toNat then [c] else partL i c.toNat) ++ restL i r := rfl
  rw [e, hn, h]; rfl
theorem form19 : form 19 = [100, 44, 32, 49, 44, 32, 105] := by decide +kernel
theorem nm19 : nm 19 = [97, 100, 100, 105] := by decide +kernel
theorem sp19 : spL (form 19) = [32] := by decide +kernel
theorem rest_addi (i : I) (he : encE i = 0) (X : List UInt8) (h : textL i = [97, 100, 100, 105, 32, 120, 51, 49, 44, 32, 120, 49, 48, 44, 32] ++ X) : X = Lib.itoa (wrap32 i.imm) := by
  have hz := encE_zero he
  have ho := op_addi i hz.1 ([120, 51, 49, 44, 32, 120, 49, 48, 44, 32] ++ X) h
  have hf := form19
  have hn := nm19
  have hsp := sp19
  have hrest : restL i (form 19) = regL i.rd.toNat ++ 44 :: (32 :: (regL i.rs1.toNat ++ 44 :: (32 :: Lib.itoa (wrap32 i.imm)))) := by
    rw [hf, rest_part i 100 _ 100 rfl rfl, rest_btw i 44 _ rfl, rest_btw i 32 _ rfl, rest_part i 49 _ 49 rfl rfl, rest_btw i 44 _ rfl, rest_btw i 32 _ rfl, rest_part i 105 _ 105 rfl rfl, partL_100, partL_49, partL_105, restL_nil, List.append_nil]
  unfold textL at h
  rw [ho, hn, hsp, hrest] at h
  have haq : aqL i = [] := by
    unfold aqL at h ⊢
    cases hq : i.aq
    · rfl
    · rw [hq] at h
      simp at h
  have hrl : rlL i = [] := by
    unfold rlL at h ⊢
    rw [haq] at h
    cases hq : i.rl
    · rfl
    · rw [hq] at h
      simp at h
  rw [haq, hrl] at h
  unfold regL at h
  simp only [List.nil_append, List.cons_append, List.cons.injEq, true_and] at h
  have h1 := split44 (Lib.decDigits i.rd.toNat) [51, 49] _ (32 :: 120 :: 49 :: 48 :: 44 :: 32 :: X) (dec44 _) (by decide) h
  simp only [List.cons.injEq, true_and] at h1
  have h2 := split44 (Lib.decDigits i.rs1.toNat) [49, 48] _ (32 :: X) (dec44 _) (by decide) h1
  simp only [List.cons.injEq, true_and] at h2
  exact h2.symm
theorem itoa_head (v : Int) : ∃ c r, Lib.itoa v = c :: r ∧ c ≠ 43 ∧ (c = 48 → r = []) := by
  unfold Lib.itoa
  split
  · exact ⟨45, _, rfl, by decide, fun h => absurd h (by decide)⟩
  · obtain ⟨h1, _, h3, h4⟩ := dec_all v.toNat
    by_cases h0 : v.toNat = 0
    · rw [h0, Lib.decDigits_one (by decide)]
      exact ⟨_, _, rfl, by decide, fun _ => rfl⟩
    · obtain ⟨c, r, e, hc⟩ := h4 h0
      refine ⟨c, r, e, ?_, ?_⟩
      · rintro rfl
        have := h1 43 (by rw [e]; simp)
        unfold dig at this
        revert this
        decide
      · rintro rfl
        exact absurd rfl hc
theorem no_plus (i : I) (he : encE i = 0) (Z : List UInt8) : textL i ≠ [97, 100, 100, 105, 32, 120, 51, 49, 44, 32, 120, 49, 48, 44, 32] ++ 43 :: Z := fun h => by
  obtain ⟨c, r, e, h1, h2⟩ := itoa_head (wrap32 i.imm)
  have := (rest_addi i he _ h).trans e
  simp only [List.cons.injEq] at this
  exact h1 this.1.symm
theorem no_zero (i : I) (he : encE i = 0) (u : Nat) : textL i ≠ [97, 100, 100, 105, 32, 120, 51, 49, 44, 32, 120, 49, 48, 44, 32] ++ 48 :: Lib.decDigits u := fun h => by
  obtain ⟨c, r, e, h1, h2⟩ := itoa_head (wrap32 i.imm)
  have := (rest_addi i he _ h).trans e
  simp only [List.cons.injEq] at this
  exact (dec_all u).2.2.1 (this.2.trans (h2 this.1.symm))
end W
theorem parse_plus (A : Nat → Addr) (Z : List UInt8) (hZ : Z.length ≤ 900) : Parses A ([97, 100, 100, 105, 32, 120, 51, 49, 44, 32, 120, 49, 48, 44, 32] ++ 43 :: Z) ⟨0, 0, 0, 0, 0, 0, false, false⟩ 6 := by
  rcases parse_cls A ([97, 100, 100, 105, 32, 120, 51, 49, 44, 32, 120, 49, 48, 44, 32] ++ 43 :: Z) (by simp; omega) with ⟨i, h1, _, h3, _⟩ | h
  · exact absurd h3 (W.no_plus i h1 Z)
  · exact h
theorem parse_zero (A : Nat → Addr) (u : Nat) (hu : u < 4294967296) : Parses A ([97, 100, 100, 105, 32, 120, 51, 49, 44, 32, 120, 49, 48, 44, 32] ++ 48 :: Lib.decDigits u) ⟨0, 0, 0, 0, 0, 0, false, false⟩ 6 := by
  have := dec_len u (by omega)
  rcases parse_cls A ([97, 100, 100, 105, 32, 120, 51, 49, 44, 32, 120, 49, 48, 44, 32] ++ 48 :: Lib.decDigits u) (by simp; omega) with ⟨i, h1, _, h3, _⟩ | h
  · exact absurd h3 (W.no_zero i h1 u)
  · exact h
end Go.Proofs.YtnejdkadmdelaaaGreatDoor

/- The law's own decimal. -/
namespace Go.Proofs.YtnejdkadmdelaaaGreatDoor
open Go.ChangeShapes Go.WideShapes Go.ChangeAt Go.RowKit
set_option linter.unusedVariables false
set_option linter.unusedSimpArgs false

set_option maxRecDepth 100000 in
theorem decimal_lo (u : Nat) (hu : u < 10) (w : World) : Calls Tryz.prog 23 #[.int .i64 u] w fun e w' => e = .returned (.string ⟨(Lib.decDigits u).toArray⟩) ∧ Below w.heap.size w w' := by
  rw [Lib.decDigits_one hu]
  obtain rfl | rfl | rfl | rfl | rfl | rfl | rfl | rfl | rfl | rfl : u = 0 ∨ u = 1 ∨ u = 2 ∨ u = 3 ∨ u = 4 ∨ u = 5 ∨ u = 6 ∨ u = 7 ∨ u = 8 ∨ u = 9 := by omega
  all_goals
    go_enter Tryz.func23, Tryz.ntmps23
    go_wp2_with fail
  all_goals
    go_ret
    exact ⟨by kernel_rfl, Below.refl _ _⟩

set_option maxRecDepth 100000 in
theorem decimal_hi (u : Nat) (hu : 10 ≤ u) (hl : u < 4294967296) (ih : ∀ v, v < u → ∀ w : World, Calls Tryz.prog 23 #[.int .i64 v] w fun e w' => e = .returned (.string ⟨(Lib.decDigits v).toArray⟩) ∧ Below w.heap.size w w') (w : World) : Calls Tryz.prog 23 #[.int .i64 u] w fun e w' => e = .returned (.string ⟨(Lib.decDigits u).toArray⟩) ∧ Below w.heap.size w w' := by
  have IH : Hid (∀ v, v < u → ∀ w : World, Calls Tryz.prog 23 #[.int .i64 v] w fun e w' => e = .returned (.string ⟨(Lib.decDigits v).toArray⟩) ∧ Below w.heap.size w w') := ih
  clear ih
  have h0 : decide ((u : Int) < 0) = false := by simp
  have h1 : decide ((u : Int) < 10) = false := by simp; omega
  go_enter Tryz.func23, Tryz.ntmps23
  go_wp2_with fail
  rw [show (u : Int) / 10 = ((u / 10 : Nat) : Int) from by omega]
  refine (IH.out (u / 10) (by omega) w).mono ?_
  rintro e w1 ⟨rfl, hb1⟩
  generalize hp : Lib.decDigits (u / 10) = P
  have hP : P.length ≤ 20 := by rw [← hp]; exact dec_len _ (by omega)
  have HP : Hid (Lib.decDigits (u / 10) = P) := hp
  clear hp
  go_wp2_with fail
  rw [show (u : Int) % 10 = ((u % 10 : Nat) : Int) from by omega]
  refine (IH.out (u % 10) (by omega) w1).mono ?_
  rintro e w2 ⟨rfl, hb2⟩
  rw [Lib.decDigits_one (by omega)]
  generalize hc : UInt8.ofNat (48 + u % 10) = c
  have HC : Hid (UInt8.ofNat (48 + u % 10) = c) := hc
  clear hc
  go_wp2_with fail
  go_ret
  refine ⟨?_, hb1.trans (hb2.mono hb1.size)⟩
  show Ending.returned (.string ((⟨P.toArray⟩ : ByteArray) ++ (⟨[c].toArray⟩ : ByteArray))) = _
  rw [ba_append, ← HP.out, ← HC.out]
  have : Lib.decDigits u = Lib.decDigits (u / 10) ++ [UInt8.ofNat (48 + u % 10)] := by
    rw [Lib.decDigits, dif_neg (by omega)]
  rw [this]

theorem lawdec_any (u : Nat) (hl : u < 4294967296) (w : World) : Calls Tryz.prog 23 #[.int .i64 u] w fun e w' => e = .returned (.string ⟨(Lib.decDigits u).toArray⟩) ∧ Below w.heap.size w w' := by
  induction u using Nat.strongRecOn generalizing w with
  | ind u ih =>
    by_cases h : u < 10
    · exact decimal_lo u h w
    · exact decimal_hi u (by omega) hl (fun v hv w => ih v hv (by omega) w) w

set_option maxRecDepth 100000 in
theorem decimal_neg (u : Nat) (h1 : 1 ≤ u) (hl : u < 4294967296) (w : World) : Calls Tryz.prog 23 #[.int .i64 (-(u : Int))] w fun e w' => e = .returned (.string ⟨(45 :: Lib.decDigits u).toArray⟩) ∧ Below w.heap.size w w' := by
  have h0 : decide (-(u : Int) < 0) = true := by simp; omega
  go_enter Tryz.func23, Tryz.ntmps23
  go_wp2_with fail
  refine (lawdec_any u hl w).mono ?_
  rintro e w1 ⟨rfl, hb1⟩
  have hP : (Lib.decDigits u).length ≤ 20 := dec_len _ (by omega)
  generalize hp : Lib.decDigits u = P at hP ⊢
  have HP : Hid (Lib.decDigits u = P) := hp
  clear hp
  go_wp2_with fail
  go_ret
  refine ⟨?_, hb1⟩
  show Ending.returned (.string ((⟨[45].toArray⟩ : ByteArray) ++ (⟨P.toArray⟩ : ByteArray))) = _
  rw [ba_append, HP.out]
  rfl

theorem decimal_int (n : Int) (h0 : -4294967296 < n) (h1 : n < 4294967296) (w : World) : Calls Tryz.prog 23 #[.int .i64 n] w fun e w' => e = .returned (.string ⟨(Lib.itoa n).toArray⟩) ∧ Below w.heap.size w w' := by
  by_cases h : n < 0
  · obtain ⟨u, rfl⟩ : ∃ u : Nat, n = -(u : Int) := ⟨n.natAbs, by omega⟩
    rw [Lib.itoa_neg u (by omega)]
    exact decimal_neg u (by omega) (by omega) w
  · obtain ⟨u, rfl⟩ : ∃ u : Nat, n = (u : Int) := ⟨n.toNat, by omega⟩
    rw [Lib.itoa_nonneg u]
    exact lawdec_any u (by omega) w
end Go.Proofs.YtnejdkadmdelaaaGreatDoor

/- The two instructions of AsmNumbers. -/
namespace Go.Proofs.YtnejdkadmdelaaaGreatDoor
open Go.ChangeShapes Go.WideShapes Go.ChangeAt Go.RowKit
set_option linter.unusedVariables false
set_option linter.unusedSimpArgs false

namespace W
def ia (v : Int) : I := ⟨19, 31, 10, 0, 0, v % 4294967296, false, false⟩
def il (m : Int) : I := ⟨1, 1, 0, 0, 0, m, false, false⟩
def lm (v : Int) : Int := (v % 4294967296 * 4096) % 4294967296
set_option maxRecDepth 100000 in
theorem ia_all : ((List.range 2048).all fun k => encE (ia ((k : Int) - 1024)) == 0) = true := by decide +kernel
set_option maxRecDepth 100000 in
theorem il_all : ((List.range 2048).all fun k => encE (il (lm ((k : Int) - 1024))) == 0 && wrap32 (bitsOf (lm ((k : Int) - 1024)) 12 20) == lm ((k : Int) - 1024) / 4096) = true := by decide +kernel
theorem ia_ok (v : Int) (h0 : -1024 ≤ v) (h1 : v ≤ 1023) : encE (ia v) = 0 := by
  have := List.all_eq_true.1 ia_all (v + 1024).toNat (by simp; omega)
  rw [show (((v + 1024).toNat : Nat) : Int) - 1024 = v from by omega] at this
  simpa using this
theorem il_ok (v : Int) (h0 : -1024 ≤ v) (h1 : v ≤ 1023) : encE (il (lm v)) = 0 ∧ wrap32 (bitsOf (lm v) 12 20) = lm v / 4096 := by
  have := List.all_eq_true.1 il_all (v + 1024).toNat (by simp; omega)
  rw [show (((v + 1024).toNat : Nat) : Int) - 1024 = v from by omega] at this
  simpa using this
theorem form1 : form 1 = [100, 44, 32, 117] := by decide +kernel
theorem nm1 : nm 1 = [108, 117, 105] := by decide +kernel
theorem sp1 : spL (form 1) = [32] := by decide +kernel
theorem reg31 : regL 31 = [120, 51, 49] := by rw [regL, Lib.decDigits_two (by decide) (by decide)]; rfl
theorem reg10 : regL 10 = [120, 49, 48] := by rw [regL, Lib.decDigits_two (by decide) (by decide)]; rfl
theorem reg1 : regL 1 = [120, 49] := by rw [regL, Lib.decDigits_one (by decide)]; rfl
theorem ia_text (v : Int) (h0 : -1024 ≤ v) (h1 : v ≤ 1023) : textL (ia v) = [97, 100, 100, 105, 32, 120, 51, 49, 44, 32, 120, 49, 48, 44, 32] ++ Lib.itoa v := by
  have hw : wrap32 (v % 4294967296) = v := by unfold wrap32; omega
  have e : textL (ia v) = nm 19 ++ ([] ++ ([] ++ (spL (form 19) ++ restL (ia v) (form 19)))) := rfl
  have hr : restL (ia v) (form 19) = regL 31 ++ 44 :: (32 :: (regL 10 ++ 44 :: (32 :: Lib.itoa (wrap32 (v % 4294967296))))) := by
    rw [form19, rest_part _ 100 _ 100 rfl rfl, rest_btw _ 44 _ rfl, rest_btw _ 32 _ rfl, rest_part _ 49 _ 49 rfl rfl, rest_btw _ 44 _ rfl, rest_btw _ 32 _ rfl, rest_part _ 105 _ 105 rfl rfl, partL_100, partL_49, partL_105, restL_nil, List.append_nil]
    rfl
  rw [e, hr, nm19, sp19, hw, reg31, reg10]
  rfl
theorem il_text (v : Int) (h0 : -1024 ≤ v) (h1 : v ≤ 1023) : textL (il (lm v)) = [108, 117, 105, 32, 120, 49, 44, 32] ++ Lib.itoa (lm v / 4096) := by
  have hw := (il_ok v h0 h1).2
  have e : textL (il (lm v)) = nm 1 ++ ([] ++ ([] ++ (spL (form 1) ++ restL (il (lm v)) (form 1)))) := rfl
  have hr : restL (il (lm v)) (form 1) = regL 1 ++ 44 :: (32 :: Lib.itoa (wrap32 (bitsOf (lm v) 12 20))) := by
    rw [form1, rest_part _ 100 _ 100 rfl rfl, rest_btw _ 44 _ rfl, rest_btw _ 32 _ rfl, rest_part _ 117 _ 117 rfl rfl, partL_100, partL_117, restL_nil, List.append_nil]
    rfl
  rw [e, hr, nm1, sp1, hw, reg1]
  rfl
end W

end Go.Proofs.YtnejdkadmdelaaaGreatDoor
