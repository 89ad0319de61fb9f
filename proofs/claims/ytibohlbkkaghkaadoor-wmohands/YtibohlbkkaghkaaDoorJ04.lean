/- Texts in one: WmoN, WmoO, WmoP. -/
import Derived.Test.YtibohlbkkaghkaaDoorJ03
/- wmo: toRead, misread. -/
namespace Go.Proofs.YtibohlbkkaghkaaDoor
open Go.ChangeShapes Go.WideShapes Go.ChangeAt Go.RowKit Go.Maps
set_option linter.unusedVariables false
set_option linter.unusedSimpArgs false

theorem orV (V B : Int) (k : Nat) (hk : k < 4) (v0 : 0 ≤ V) (v1 : V < 2 ^ (8 * k)) (b0 : 0 ≤ B) (b1 : B < 256) : bits .or .u32 V (IntKind.u32.wrap (IntKind.u32.wrap B * 2 ^ (8 * (k : Int)).toNat)) = V + B * 2 ^ (8 * k) := by
  obtain ⟨v, rfl⟩ := Int.eq_ofNat_of_zero_le v0
  obtain ⟨b, rfl⟩ := Int.eq_ofNat_of_zero_le b0
  have ek : (8 * (k : Int)).toNat = 8 * k := by omega
  have hT : 2 ^ (8 * k) ≤ 2 ^ 24 := Nat.pow_le_pow_right (by decide) (by omega)
  have hT' : (2 : Nat) ^ 24 = 16777216 := by decide
  have hv : v < 2 ^ (8 * k) := by exact_mod_cast v1
  have hb : b * 2 ^ (8 * k) ≤ 255 * 2 ^ (8 * k) := Nat.mul_le_mul_right _ (by omega)
  have w1 : IntKind.u32.wrap (b : Int) = (b : Int) := by show (b : Int) % 4294967296 = _; omega
  have eB : ((b : Int) * 2 ^ (8 * k)) = ((b * 2 ^ (8 * k) : Nat) : Int) := by push_cast; rfl
  have w2 : IntKind.u32.wrap ((b * 2 ^ (8 * k) : Nat) : Int) = ((b * 2 ^ (8 * k) : Nat) : Int) := by show ((b * 2 ^ (8 * k) : Nat) : Int) % 4294967296 = _; omega
  rw [ek, w1, eB, w2]
  show IntKind.u32.wrap ((BitVec.ofInt 32 (v : Int) ||| BitVec.ofInt 32 ((b * 2 ^ (8 * k) : Nat) : Int) : BitVec 32).toNat : Int) = _
  rw [BitVec.toNat_or, BitVec.ofInt_natCast, BitVec.ofInt_natCast, BitVec.toNat_ofNat, BitVec.toNat_ofNat, Nat.mod_eq_of_lt (by omega), Nat.mod_eq_of_lt (by omega)]
  have ho : v ||| b * 2 ^ (8 * k) = b * 2 ^ (8 * k) + v := by
    have := Nat.shiftLeft_add_eq_or_of_lt hv b
    rw [Nat.shiftLeft_eq] at this
    rw [Nat.or_comm, ← this]
  rw [ho]
  show ((b * 2 ^ (8 * k) + v : Nat) : Int) % 4294967296 = _
  push_cast
  generalize (2 : Int) ^ (8 * k) = T at *
  omega
abbrev STr (w : World) (sb p k : Nat) (F ad : Int) (w' : World) : Prop := Below w.heap.size w w' ∧ sb < w'.heap.size ∧ w'.cell? ⟨sb, p * 19 + 15 + k, none⟩ = some (.int .i64 F) ∧ w'.cell? ⟨sb, p * 19 + 2, none⟩ = some (.int .u32 ad)
theorem STr.below {w : World} {sb p k : Nat} {F ad : Int} {a b : World} (h : STr w sb p k F ad a) (hb : Below a.heap.size a b) : STr w sb p k F ad b :=
  ⟨h.1.trans (hb.mono h.1.size), Nat.lt_of_lt_of_le h.2.1 hb.size, (hb.cell (p := ⟨sb, _, none⟩) h.2.1).trans h.2.2.1, (hb.cell (p := ⟨sb, _, none⟩) h.2.1).trans h.2.2.2⟩

set_option maxHeartbeats 1600000 in
theorem toRead_any (sb M cb : Nat) (q : Nat → StR) (p : Nat) (w : World) (hS : Sb2 sb M q w) (hM : M ≤ 5000) (hz : Fz cb w) (hp : p < M) (hB : W.Byt (q p).o) (hF : ∀ k, k < (q p).o.sz.toNat → W.FrO q M ((q p).fr k) ((q p).o.ad + k)) :
    Calls Tryd.prog 42 #[.slice (some ⟨sb, 0, none⟩) M M, .pointer (some ⟨sb, p * 19, none⟩), fvZ cb] w fun e w' => e = .returned (.int .u32 (W.rdV q p (q p).o.sz.toNat)) ∧ Below w.heap.size w w' := by
  obtain ⟨s0, s4, ad0, ad1⟩ := hB
  obtain ⟨SZ, hSZ⟩ := Int.eq_ofNat_of_zero_le s0
  have c1 := hS.cell p 1 hp (by decide) (.int .i64 (SZ : Int)) (by rw [← hSZ]; rfl)
  have sl := hS.b.lt
  have ez : (q p).o.sz.toNat = SZ := by omega
  rw [ez] at hF ⊢
  have HH : Hid (_ ∧ _ ∧ _) := ⟨hS, hz, hF⟩
  clear hS hz hF
  generalize hFV : fvZ cb = FV at *
  go_enter Tryd.func42, Tryd.ntmps42
  go_wp2
  go_loopw [7, 14] (fun v i wr => ∃ k : Nat, k ≤ SZ ∧ v = .int .u32 (W.rdV q p k) ∧ i = .int .i64 (k : Int) ∧ Below w.heap.size w wr) (fun _ i _ => SZ - (intOf i).toNat)
  case atStart => exact ⟨0, by omega, rfl, rfl, Below.refl _ _⟩
  case round =>
    obtain ⟨k, hk, rfl, rfl, br⟩ := hrel
    by_cases hlt : k < SZ
    · have hkz : (k : Int) < (SZ : Int) := by omega
      have k4 : k < 4 := by omega
      have hS := HH.out.1.below br
      have d2 := hS.cell p 2 hp (by decide) (.int .u32 (q p).o.ad) rfl
      have df := hS.cell p (15 + k) hp (by omega) (.int .i64 ((q p).fr k)) (stF_fr _ k k4)
      rw [← Nat.add_assoc] at df
      have S0 : STr w sb p k ((q p).fr k) (q p).o.ad wr := ⟨br, hS.b.lt, df, d2⟩
      have S1 := S0.below (Below.refl _ _).drew
      have hc := fun w' (hb : Below w.heap.size w w') => byteToRead_any sb M cb q ((q p).fr k) ((q p).o.ad + k) w' (HH.out.1.below hb) hM (HH.out.2.1.below hb) (by omega) (by omega) (HH.out.2.2 k hlt)
      rw [hFV] at hc
      have eW : IntKind.u32.wrap ((q p).o.ad + IntKind.u32.wrap (k : Int)) = (q p).o.ad + k := by
        show ((q p).o.ad + (k : Int) % 4294967296) % 4294967296 = _
        omega
      have hc2 : ∀ w', Below w.heap.size w w' → Calls Tryd.prog 54 #[.slice (some ⟨sb, 0, none⟩) M M, .int .i64 ((q p).fr k), .int .u32 (IntKind.u32.wrap ((q p).o.ad + IntKind.u32.wrap (k : Int))), FV] w' (fun e w'' => e = .returned (.int .u8 (W.byR q ((q p).fr k) ((q p).o.ad + k))) ∧ Below w'.heap.size w' w'') := fun w' hb => by
        rw [eW]
        exact hc w' hb
      have eV : W.rdV q p (k + 1) = W.rdV q p k + W.byR q ((q p).fr k) ((q p).o.ad + k) * 2 ^ (8 * k) := rfl
      have vb := W.rdV_bd q p k
      have bb := W.byR_bd q ((q p).fr k) ((q p).o.ad + k)
      have HC : Hid (STr w sb p k ((q p).fr k) (q p).o.ad _ ∧ _ ∧ _ ∧ _ ∧ _) := ⟨S1, hc2, eV, vb, bb⟩
      clear S0 S1 hc hc2 eW eV hS d2 df br c1 vb bb
      generalize W.byR q ((q p).fr k) ((q p).o.ad + k) = B at *
      generalize W.rdV q p k = V at *
      generalize (q p).fr k = F at *
      generalize (q p).o.ad = AD at *
      · have k8 : (8 : Int) * (k : Int) < 32 := by omega
        have e8 : IntKind.i64.wrap (8 * (k : Int)) = 8 * (k : Int) := IntWalk.i64_in _ (by omega)
        have kk : (0 : Int) ≤ (k : Int) ∧ (k : Int) < 4 := by omega
        have k80 : 0 ≤ (8 : Int) * (k : Int) := by omega
        go_wp2_with (fail)
        go_region_held3 (fun w' => Below w.heap.size w w' ∧ sb < w'.heap.size ∧ w'.cell? ⟨sb, p * 19 + 15 + k, none⟩ = some (.int .i64 F) ∧ w'.cell? ⟨sb, p * 19 + 2, none⟩ = some (.int .u32 AD))
          (first
            | exact HC.out.1
            | (refine STr.below ?_ b2; assumption)
            | with_reducible assumption)
          (first
            | (go_at_call 54; refine (HC.out.2.1 _ (And.left (by assumption))).mono ?_; rintro e w2 ⟨rfl, b2⟩))
        all_goals
          have b3 := (STr.below HC.out.1 b2).1
          have eo := orV V B k k4 HC.out.2.2.2.1.1 HC.out.2.2.2.1.2 HC.out.2.2.2.2.1 HC.out.2.2.2.2.2
          rw [eo, ← HC.out.2.2.1]
          clear eo b2 HC
          go_wp2
          go_roundw
          case rel => exact ⟨k + 1, by omega, rfl, by go_num, b3⟩
          case measure => simp [intOf]; omega
    · obtain rfl : k = SZ := by omega
      have hkz : ¬ (k : Int) < (k : Int) := by omega
      go_wp2
      go_ret
      exact ⟨rfl, br⟩
end Go.Proofs.YtibohlbkkaghkaaDoor

/- wmo: misread. -/
namespace Go.Proofs.YtibohlbkkaghkaaDoor
open Go.ChangeShapes Go.WideShapes Go.ChangeAt Go.RowKit Go.Maps
set_option linter.unusedVariables false
set_option linter.unusedSimpArgs false

/-- Does step p read what it has to? -/
def W.okR (q : Nat → StR) (p : Nat) : Prop := W.rds (q p).o.k = true → (q p).o.gt = W.rdV q p (q p).o.sz.toNat
/-- What the region of misread reads. -/
abbrev SMr (w : World) (sb p : Nat) (k gt : Int) (w' : World) : Prop := Below w.heap.size w w' ∧ sb < w'.heap.size ∧ w'.cell? ⟨sb, p * 19, none⟩ = some (.int .i64 k) ∧ w'.cell? ⟨sb, p * 19 + 4, none⟩ = some (.int .u32 gt)
theorem SMr.below {w : World} {sb p : Nat} {k gt : Int} {a b : World} (h : SMr w sb p k gt a) (hb : Below a.heap.size a b) : SMr w sb p k gt b :=
  ⟨h.1.trans (hb.mono h.1.size), Nat.lt_of_lt_of_le h.2.1 hb.size, (hb.cell (p := ⟨sb, _, none⟩) h.2.1).trans h.2.2.1, (hb.cell (p := ⟨sb, _, none⟩) h.2.1).trans h.2.2.2⟩
theorem bdn1 (w : World) (n : Nat) : Below w.drew.heap.size w.drew (w.drewN n) := by
  have h := bdN (Below.refl w.heap.size w) n
  exact ⟨h.os, h.tape, h.output, h.size, h.block⟩
set_option maxRecDepth 10000 in
set_option maxHeartbeats 1600000 in
theorem misread_any (sb M cb : Nat) (q : Nat → StR) (m : Nat) (hm : m ≤ M) (w : World) (hS : Sb2 sb M q w) (hM : M ≤ 5000) (hz : Fz cb w) (hB : ∀ p, p < M → W.Byt (q p).o) (hF : ∀ p, p < M → W.rds (q p).o.k = true → ∀ k, k < (q p).o.sz.toNat → W.FrO q M ((q p).fr k) ((q p).o.ad + k)) (hok : ∀ p, p < m → W.okR q p) (hbad : m < M → ¬ W.okR q m) :
    Calls Tryd.prog 29 #[.slice (some ⟨sb, 0, none⟩) M M, fvZ cb] w fun e w' => e = .returned (.int .i64 (if m < M then (m : Int) else 0)) ∧ Below w.heap.size w w' := by
  have sl := hS.b.lt
  obtain ⟨R, hR⟩ : ∃ R : Int, R = if m < M then (m : Int) else 0 := ⟨_, rfl⟩
  rw [← hR]
  have HR : Hid _ := hR
  clear hR
  have HH : Hid (_ ∧ _ ∧ _ ∧ _ ∧ _ ∧ _) := ⟨hS, hz, hB, hF, hok, hbad⟩
  clear hS hz hB hF hok hbad
  generalize hFV : fvZ cb = FV at *
  go_enter Tryd.func29, Tryd.ntmps29
  go_wp2
  go_loopw [9] (fun i wr => ∃ p : Nat, p ≤ m ∧ i = .int .i64 (p : Int) ∧ Below w.heap.size w wr) (fun i _ => M - (intOf i).toNat)
  case atStart => exact ⟨0, by omega, rfl, Below.refl _ _⟩
  case round =>
    obtain ⟨p, hp, rfl, br⟩ := hrel
    by_cases hlt : p < M
    · have hpM : (p : Int) < (M : Int) := by omega
      have hS := HH.out.1.below br
      have d0 := hS.cell p 0 hlt (by decide) (.int .i64 (q p).o.k) rfl
      rw [Nat.add_zero] at d0
      have d4 := hS.cell p 4 hlt (by decide) (.int .u32 (q p).o.gt) rfl
      have S1 := SMr.below (w := w) (a := wr) (b := wr.drew) ⟨br, hS.b.lt, d0, d4⟩ (Below.refl _ _).drew
      have hr := fun w' (h : SMr w sb p (q p).o.k (q p).o.gt w') => reads_any sb (p * 19) (q p).o.k w' h.2.1 h.2.2.1
      have ht := fun (hk : W.rds (q p).o.k = true) w' (hb : Below w.heap.size w w') => toRead_any sb M cb q p w' (HH.out.1.below hb) hM (HH.out.2.1.below hb) hlt (HH.out.2.2.1 p hlt) (HH.out.2.2.2.1 p hlt hk)
      rw [hFV] at ht
      have hd : W.okR q p ∨ ¬ W.okR q p := Classical.em _
      have hok := HH.out.2.2.2.2.1 p
      have hbad := HH.out.2.2.2.2.2
      have HC : Hid (SMr w sb p (q p).o.k (q p).o.gt _ ∧ _ ∧ _ ∧ _ ∧ _) := ⟨S1, hr, ht, hok, hbad⟩
      clear S1 hr ht hS d0 d4 hok hbad
      have hd2 : (W.rds (q p).o.k = true → (q p).o.gt = W.rdV q p (q p).o.sz.toNat) → W.okR q p := fun h => h
      have hd3 : W.okR q p → W.rds (q p).o.k = true → (q p).o.gt = W.rdV q p (q p).o.sz.toNat := fun h => h
      have HD : Hid (_ ∧ _ ∧ _) := ⟨hd, hd2, hd3⟩
      clear hd hd2 hd3
      generalize hV : W.rdV q p (q p).o.sz.toNat = V at *
      generalize hGT : (q p).o.gt = GT at *
      generalize hKK : (q p).o.k = KK at *
      cases hrd : W.rds KK
      · rw [hrd] at HC
        go_wp2_with (fail)
        have hq : ∀ n, Calls Tryd.prog 41 #[.pointer (some ⟨sb, p * 19, none⟩)] (wr.drewN n) fun e w' => e = .returned (.bool false) ∧ w' = wr.drewN n := fun n => (HC.out.2.1 (wr.drewN n) (SMr.below (a := wr.drew) HC.out.1 (bdn1 wr n))).mono fun e w' h => ⟨h.1, h.2.symm⟩
        have HQ : Hid _ := hq
        clear hq
        go_quiet ((go_at_call 41; exact Calls.quiet_of_same (HQ.out _)))
        all_goals
          have b3 := bdN br nq
          have hpm : p < m := by
            by_cases e : p < m
            · exact e
            · obtain rfl : p = m := by omega
              exact absurd (HD.out.2.1 (fun h => by rw [hrd] at h; cases h)) (HC.out.2.2.2.2 hlt)
          clear HC HD
          go_wp2
          go_roundw
          case rel => exact ⟨p + 1, by omega, by go_num, b3⟩
          case measure => simp [intOf]; omega
      · have HK : Hid (W.rds KK = true) := hrd
        have hr2 := HC.out.2.1
        rw [hrd] at hr2
        have HC2 : Hid (SMr w sb p KK GT _ ∧ _ ∧ _ ∧ _ ∧ _) := ⟨HC.out.1, hr2, HC.out.2.2⟩
        clear HC hr2
        by_cases hq : GT = V
        · have rq : (GT != V) = false := by simpa using hq
          have hpm : p < m := by
            by_cases e : p < m
            · exact e
            · obtain rfl : p = m := by omega
              exact absurd (HD.out.2.1 (fun _ => hq)) (HC2.out.2.2.2.2 hlt)
          clear hq
          go_wp2_with (fail)
          go_region_held3 (fun w' => Below w.heap.size w w' ∧ sb < w'.heap.size ∧ w'.cell? ⟨sb, p * 19, none⟩ = some (.int .i64 KK) ∧ w'.cell? ⟨sb, p * 19 + 4, none⟩ = some (.int .u32 GT))
            (first
              | exact HC2.out.1
              | (refine SMr.below ?_ b2; assumption)
              | with_reducible assumption)
            (first
              | (go_at_call 41; refine (HC2.out.2.1 _ (by assumption)).mono ?_; rintro e w1 ⟨rfl, rfl⟩)
              | (go_at_call 42; refine (HC2.out.2.2.1 HK.out _ (And.left (by assumption))).mono ?_; rintro e w2 ⟨rfl, b2⟩))
          all_goals
            have b3 := (SMr.below HC2.out.1 b2).1
            clear HC2 HD b2
            go_wp2
            go_roundw
            case rel => exact ⟨p + 1, by omega, by go_num, b3⟩
            case measure => simp [intOf]; omega
        · have rq : (GT != V) = true := by simpa using hq
          have hpm : Hid (p = m) := by
            show p = m
            by_cases e : p < m
            · exact absurd (HD.out.2.2 (HC2.out.2.2.2.1 e) HK.out) hq
            · omega
          clear hq
          go_wp2_with (fail)
          go_region_held3 (fun w' => Below w.heap.size w w' ∧ sb < w'.heap.size ∧ w'.cell? ⟨sb, p * 19, none⟩ = some (.int .i64 KK) ∧ w'.cell? ⟨sb, p * 19 + 4, none⟩ = some (.int .u32 GT))
            (first
              | exact HC2.out.1
              | (refine SMr.below ?_ b2; assumption)
              | with_reducible assumption)
            (first
              | (go_at_call 41; refine (HC2.out.2.1 _ (by assumption)).mono ?_; rintro e w1 ⟨rfl, rfl⟩)
              | (go_at_call 42; refine (HC2.out.2.2.1 HK.out _ (And.left (by assumption))).mono ?_; rintro e w2 ⟨rfl, b2⟩))
          all_goals
            have b3 := (SMr.below HC2.out.1 b2).1
            clear HC2 HD b2
            go_wp2
            go_ret
            refine ⟨?_, b3⟩
            rw [HR.out, if_pos (by have := hpm.out; omega), ← hpm.out]
            rfl
    · have hpM : ¬ (p : Int) < (M : Int) := by omega
      have e : ¬ m < M := by omega
      go_wp2
      go_ret
      refine ⟨?_, br⟩
      rw [HR.out, if_neg e]
      rfl
end Go.Proofs.YtibohlbkkaghkaaDoor

/- wmo: the last writes of a byte. -/
namespace Go.Proofs.YtibohlbkkaghkaaDoor
open Go.ChangeShapes Go.WideShapes Go.ChangeAt Go.RowKit Go.Maps
set_option linter.unusedVariables false
set_option linter.unusedSimpArgs false

namespace W
structure Rc where
  h : Int
  l : Int
  o : Int
def Rc.with' (r : Rc) (h p : Int) : Rc := ⟨h, p, bif h != r.h then r.l else r.o⟩
def Rc.notOf (r : Rc) (h : Int) : Int := bif h != r.h then r.l else r.o
end W
def rcV (r : W.Rc) : Value := .agg #[.int .i64 r.h, .int .i64 r.l, .int .i64 r.o]
theorem with_any (r : W.Rc) (h p : Int) (w : World) : Calls Tryd.prog 45 #[rcV r, .int .i64 h, .int .i64 p] w fun e w' => e = .returned (rcV (r.with' h p)) ∧ Below w.heap.size w w' := by
  obtain ⟨rh, rl, ro⟩ := r
  unfold rcV W.Rc.with'
  dsimp only
  cases hq : (h != rh)
  · go_enter Tryd.func45, Tryd.ntmps45
    go_wp2
    refine bodyPost_ret (v := .agg #[.int .i64 h, .int .i64 p, .int .i64 ro]) (by simp [results, Tryd.results45, go_sem]) rfl ⟨rfl, ?_⟩
    exact ((Below.refl _ _).alloc (Nat.le_refl _) _).alloc (by simp) _
  · go_enter Tryd.func45, Tryd.ntmps45
    go_wp2
    refine bodyPost_ret (v := .agg #[.int .i64 h, .int .i64 p, .int .i64 rl]) (by simp [results, Tryd.results45, go_sem]) rfl ⟨rfl, ?_⟩
    exact ((Below.refl _ _).alloc (Nat.le_refl _) _).alloc (by simp) _
theorem notOf_any (r : W.Rc) (h : Int) (w : World) : Calls Tryd.prog 55 #[rcV r, .int .i64 h] w fun e w' => e = .returned (.int .i64 (r.notOf h)) ∧ Below w.heap.size w w' := by
  obtain ⟨rh, rl, ro⟩ := r
  unfold rcV W.Rc.notOf
  dsimp only
  cases hq : (h != rh)
  · go_enter Tryd.func55, Tryd.ntmps55
    go_wp2
    go_ret
    exact ⟨rfl, (Below.refl _ _).alloc (Nat.le_refl _) _⟩
  · go_enter Tryd.func55, Tryd.ntmps55
    go_wp2
    go_ret
    exact ⟨rfl, (Below.refl _ _).alloc (Nat.le_refl _) _⟩
/-- How a map's element reads. -/
def rcD (r : W.Rc) : DataW Unit := .agg [.lit (.int .i64 r.h), .lit (.int .i64 r.l), .lit (.int .i64 r.o)]
def rcL (l : List Value) : Option W.Rc := match l with
  | [.int k a, .int k2 b, .int k3 c] => if k = .i64 ∧ k2 = .i64 ∧ k3 = .i64 then some ⟨a, b, c⟩ else none
  | _ => none
def rcE (v : Value) : Option (DataW Unit × List MemPlace) := match v with
  | .agg cs => (rcL cs.toList).map fun r => (rcD r, [])
  | _ => none
theorem rcE_mk (r : W.Rc) : rcE (rcV r) = some (rcD r, []) := rfl
theorem rcD_inj {r s : W.Rc} (h : rcD r = rcD s) : r = s := by
  obtain ⟨a, b, c⟩ := r
  obtain ⟨d, e, f⟩ := s
  simp [rcD] at h
  obtain ⟨h1, h2, h3⟩ := h
  subst h1 h2 h3
  rfl
theorem rcL_inv {l : List Value} {r : W.Rc} (h : rcL l = some r) : l = [.int .i64 r.h, .int .i64 r.l, .int .i64 r.o] := by
  unfold rcL at h
  split at h
  · rename_i k a k2 b k3 c
    split at h
    · rename_i e
      obtain ⟨rfl, rfl, rfl⟩ := e
      cases h
      rfl
    · cases h
  · cases h
theorem rcE_inv {v : Value} {r : W.Rc} {ps : List MemPlace} (h : rcE v = some (rcD r, ps)) : v = rcV r := by
  unfold rcE at h
  split at h
  · rename_i cs
    obtain ⟨s, hs, he⟩ := Option.map_eq_some_iff.1 h
    simp only [Prod.mk.injEq] at he
    rw [rcD_inj he.1] at hs
    have := rcL_inv hs
    unfold rcV
    congr 1
    rw [← Array.toArray_toList (xs := cs), this]
  · cases h
/-- A map of the last writes. -/
def Mr (B c : Nat) (L : Int → W.Rc) (w : World) : Prop := ∃ D : DataW Unit, w.ownsMap Tryd.prog 36 rcE B c D ∧ ∀ a, 0 ≤ a → a < 4294967296 → D.atKey (.int .u32 a) (rcD ⟨0, 0, 0⟩) = rcD (L a)
theorem zeroR (w : World) : (zeroValue 93).run Tryd.prog w = .ok (rcV ⟨0, 0, 0⟩) w := by kernel_rfl
theorem Mr.made (w : World) : Mr w.heap.size 0 (fun _ => ⟨0, 0, 0⟩) (w.alloc (.map #[] 0)) := ⟨.map [], World.ownsMap_made _ _ _ _, fun a _ _ => rfl⟩
theorem Mr.look {B c : Nat} {L : Int → W.Rc} {w : World} (h : Mr B c L w) (a : Int) (h0 : 0 ≤ a) (h1 : a < 4294967296) : (Instr.lookup 90 (.map (some B)) (.int .u32 a) false).run Tryd.prog w = .ok (rcV (L a)) w := by
  obtain ⟨D, hD, hL⟩ := h
  obtain ⟨v, ps, hr, hv⟩ := hD.lookup keyU Tryd.underlying90 (zeroR w) (rcE_mk ⟨0, 0, 0⟩) (keyOf_int_mk Tryd.underlying36 (wfU a h0 h1))
  rw [hL a h0 h1] at hv
  rw [hr, rcE_inv hv]
def updR (f : Int → W.Rc) (k : Int) (v : W.Rc) : Int → W.Rc := fun i => if i = k then v else f i
theorem Mr.put {B c : Nat} {L : Int → W.Rc} {w : World} (h : Mr B c L w) (hc : c < 100000) (a : Int) (v : W.Rc) (h0 : 0 ≤ a) (h1 : a < 4294967296) : ∃ w', (Instr.mapUpdate 90 (.map (some B)) (.int .u32 a) (rcV v)).run Tryd.prog w = .ok () w' ∧ Mr B (c + 1) (updR L a v) w' ∧ w.grownBy w' (some B) := by
  obtain ⟨D, hD, hL⟩ := h
  obtain ⟨w', hr, ho, hg⟩ := hD.update keyU Tryd.underlying90 (by unfold maxLen; omega) (keyOf_int_mk Tryd.underlying36 (wfU a h0 h1)) (rcE_mk v)
  refine ⟨w', hr, ⟨_, ho, fun b hb0 hb1 => ?_⟩, hg⟩
  unfold updR
  by_cases e : b = a
  · subst e
    rw [if_pos rfl, atKey_put_same hD.isMap (by simp [WideAt.IsKeyLit])]
  · rw [if_neg e, atKey_put_other (by simpa using e)]
    exact hL b hb0 hb1
theorem Mr.kept {B c : Nat} {L : Int → W.Rc} {w w' : World} {r : Option Nat} (h : Mr B c L w) (hg : w.grownBy w' r) (hne : some B ≠ r) : Mr B c L w' := by
  obtain ⟨D, hD, hL⟩ := h
  exact ⟨D, hD.kept hg hne, hL⟩
theorem gbelow {w w' : World} (h : Below w.heap.size w w') : w.grownBy w' none := ⟨h.os, h.tape, h.output, h.size, fun k hk _ => h.block k hk⟩
theorem Mr.below {B c : Nat} {L : Int → W.Rc} {w w' : World} (h : Mr B c L w) (hb : Below w.heap.size w w') : Mr B c L w' := h.kept (gbelow hb) (by simp)
end Go.Proofs.YtibohlbkkaghkaaDoor
