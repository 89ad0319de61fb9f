/- wmo: toRead, misread. -/
import Derived.Test.YtibohlbkkaghkaaDoorWmoL
namespace Go.Proofs.YtibohlbkkaghkaaDoor
open Go.ChangeShapes Go.WideShapes Go.ChangeAt Go.RowKit Go.Maps
set_option linter.unusedVariables false
set_option linter.unusedSimpArgs false

theorem orV (V B : Int) (k : Nat) (hk : k < 4) (v0 : 0 ≤ V) (v1 : V < 2 ^ (8 * k)) (b0 : 0 ≤ B) (b1 : B < 256) : bits .or .u32 V (IntKind.u32.wrap (IntKind.u32.wrap B * 2 ^ (8 * (k : Int)).toNat)) = V + B * 2 ^ (8 * k) := by
  obtain ⟨v, rfl⟩ := Int.eq_ofNat_of_zero_le v0
  obtain ⟨b, rfl⟩ := Int.eq_ofNat_of_zero_le b0
  have ek : (8 * (k : Int)).toNat = 8 * k := by omega
  have hT : 2 ^ (8 * k) ≤ 2 ^ 24 := Nat.pow_le_pow_right (by decide) (by omega)
  have hT' : (2 : Nat) ^ 24 = 16777216 := by decide
  have hv : v < 2 ^ (8 * k) := by exact_mod_cast v1
  have hb : b * 2 ^ (8 * k) ≤ 255 * 2 ^ (8 * k) := Nat.mul_le_mul_right _ (by omega)
  have w1 : IntKind.u32.wrap (b : Int) = (b : Int) := by show (b : Int) % 4294967296 = _; omega
  have eB : ((b : Int) * 2 ^ (8 * k)) = ((b * 2 ^ (8 * k) : Nat) : Int) := by push_cast; rfl
  have w2 : IntKind.u32.wrap ((b * 2 ^ (8 * k) : Nat) : Int) = ((b * 2 ^ (8 * k) : Nat) : Int) := by show ((b * 2 ^ (8 * k) : Nat) : Int) % 4294967296 = _; omega
  rw [ek, w1, eB, w2]
  show IntKind.u32.wrap ((BitVec.ofInt 32 (v : Int) ||| BitVec.ofInt 32 ((b * 2 ^ (8 * k) : Nat) : Int) : BitVec 32).toNat : Int) = _
  rw [BitVec.toNat_or, BitVec.ofInt_natCast, BitVec.ofInt_natCast, BitVec.toNat_ofNat, BitVec.toNat_ofNat, Nat.mod_eq_of_lt (by omega), Nat.mod_eq_of_lt (by omega)]
  have ho : v ||| b * 2 ^ (8 * k) = b * 2 ^ (8 * k) + v := by
    have := Nat.shiftLeft_add_eq_or_of_lt hv b
    rw [Nat.shiftLeft_eq] at this
    rw [Nat.or_comm, ← this]
  rw [ho]
  show ((b * 2 ^ (8 * k) + v : Nat) : Int) % 4294967296 = _
  push_cast
  generalize (2 : Int) ^ (8 * k) = T at *
  omega
abbrev STr (w : World) (sb p k : Nat) (F ad : Int) (w' : World) : Prop := Below w.heap.size w w' ∧ sb < w'.heap.size ∧ w'.cell? ⟨sb, p * 19 + 15 + k, none⟩ = some (.int .i64 F) ∧ w'.cell? ⟨sb, p * 19 + 2, none⟩ = some (.int .u32 ad)
theorem STr.below {w : World} {sb p k : Nat} {F ad : Int} {a b : World} (h : STr w sb p k F ad a) (hb : Below a.heap.size a b) : STr w sb p k F ad b :=
  ⟨h.1.trans (hb.mono h.1.size), Nat.lt_of_lt_of_le h.2.1 hb.size, (hb.cell (p := ⟨sb, _, none⟩) h.2.1).trans h.2.2.1, (hb.cell (p := ⟨sb, _, none⟩) h.2.1).trans h.2.2.2⟩

set_option maxHeartbeats 1600000 in
theorem toRead_any (sb M cb : Nat) (q : Nat → StR) (p : Nat) (w : World) (hS : Sb2 sb M q w) (hM : M ≤ 5000) (hz : Fz cb w) (hp : p < M) (hB : W.Byt (q p).o) (hF : ∀ k, k < (q p).o.sz.toNat → W.FrO q M ((q p).fr k) ((q p).o.ad + k)) :
    Calls Tryd.prog 42 #[.slice (some ⟨sb, 0, none⟩) M M, .pointer (some ⟨sb, p * 19, none⟩), fvZ cb] w fun e w' => e = .returned (.int .u32 (W.rdV q p (q p).o.sz.toNat)) ∧ Below w.heap.size w w' := by
  obtain ⟨s0, s4, ad0, ad1⟩ := hB
  obtain ⟨SZ, hSZ⟩ := Int.eq_ofNat_of_zero_le s0
  have c1 := hS.cell p 1 hp (by decide) (.int .i64 (SZ : Int)) (by rw [← hSZ]; rfl)
  have sl := hS.b.lt
  have ez : (q p).o.sz.toNat = SZ := by omega
  rw [ez] at hF ⊢
  have HH : Hid (_ ∧ _ ∧ _) := ⟨hS, hz, hF⟩
  clear hS hz hF
  generalize hFV : fvZ cb = FV at *
  go_enter Tryd.func42, Tryd.ntmps42
  go_wp2
  go_loopw [7, 14] (fun v i wr => ∃ k : Nat, k ≤ SZ ∧ v = .int .u32 (W.rdV q p k) ∧ i = .int .i64 (k : Int) ∧ Below w.heap.size w wr) (fun _ i _ => SZ - (intOf i).toNat)
  case atStart => exact ⟨0, by omega, rfl, rfl, Below.refl _ _⟩
  case round =>
    obtain ⟨k, hk, rfl, rfl, br⟩ := hrel
    by_cases hlt : k < SZ
    · have hkz : (k : Int) < (SZ : Int) := by omega
      have k4 : k < 4 := by omega
      have hS := HH.out.1.below br
      have d2 := hS.cell p 2 hp (by decide) (.int .u32 (q p).o.ad) rfl
      have df := hS.cell p (15 + k) hp (by omega) (.int .i64 ((q p).fr k)) (stF_fr _ k k4)
      rw [← Nat.add_assoc] at df
      have S0 : STr w sb p k ((q p).fr k) (q p).o.ad wr := ⟨br, hS.b.lt, df, d2⟩
      have S1 := S0.below (Below.refl _ _).drew
      have hc := fun w' (hb : Below w.heap.size w w') => byteToRead_any sb M cb q ((q p).fr k) ((q p).o.ad + k) w' (HH.out.1.below hb) hM (HH.out.2.1.below hb) (by omega) (by omega) (HH.out.2.2 k hlt)
      rw [hFV] at hc
      have eW : IntKind.u32.wrap ((q p).o.ad + IntKind.u32.wrap (k : Int)) = (q p).o.ad + k := by
        show ((q p).o.ad + (k : Int) % 4294967296) % 4294967296 = _
        omega
      have hc2 : ∀ w', Below w.heap.size w w' → Calls Tryd.prog 54 #[.slice (some ⟨sb, 0, none⟩) M M, .int .i64 ((q p).fr k), .int .u32 (IntKind.u32.wrap ((q p).o.ad + IntKind.u32.wrap (k : Int))), FV] w' (fun e w'' => e = .returned (.int .u8 (W.byR q ((q p).fr k) ((q p).o.ad + k))) ∧ Below w'.heap.size w' w'') := fun w' hb => by
        rw [eW]
        exact hc w' hb
      have eV : W.rdV q p (k + 1) = W.rdV q p k + W.byR q ((q p).fr k) ((q p).o.ad + k) * 2 ^ (8 * k) := rfl
      have vb := W.rdV_bd q p k
      have bb := W.byR_bd q ((q p).fr k) ((q p).o.ad + k)
      have HC : Hid (STr w sb p k ((q p).fr k) (q p).o.ad _ ∧ _ ∧ _ ∧ _ ∧ _) := ⟨S1, hc2, eV, vb, bb⟩
      clear S0 S1 hc hc2 eW eV hS d2 df br c1 vb bb
      generalize W.byR q ((q p).fr k) ((q p).o.ad + k) = B at *
      generalize W.rdV q p k = V at *
      generalize (q p).fr k = F at *
      generalize (q p).o.ad = AD at *
      · have k8 : (8 : Int) * (k : Int) < 32 := by omega
        have e8 : IntKind.i64.wrap (8 * (k : Int)) = 8 * (k : Int) := IntWalk.i64_in _ (by omega)
        have kk : (0 : Int) ≤ (k : Int) ∧ (k : Int) < 4 := by omega
        have k80 : 0 ≤ (8 : Int) * (k : Int) := by omega
        go_wp2_with (fail)
        go_region_held3 (fun w' => Below w.heap.size w w' ∧ sb < w'.heap.size ∧ w'.cell? ⟨sb, p * 19 + 15 + k, none⟩ = some (.int .i64 F) ∧ w'.cell? ⟨sb, p * 19 + 2, none⟩ = some (.int .u32 AD))
          (first
            | exact HC.out.1
            | (refine STr.below ?_ b2; assumption)
            | with_reducible assumption)
          (first
            | (go_at_call 54; refine (HC.out.2.1 _ (And.left (by assumption))).mono ?_; rintro e w2 ⟨rfl, b2⟩))
        all_goals
          have b3 := (STr.below HC.out.1 b2).1
          have eo := orV V B k k4 HC.out.2.2.2.1.1 HC.out.2.2.2.1.2 HC.out.2.2.2.2.1 HC.out.2.2.2.2.2
          rw [eo, ← HC.out.2.2.1]
          clear eo b2 HC
          go_wp2
          go_roundw
          case rel => exact ⟨k + 1, by omega, rfl, by go_num, b3⟩
          case measure => simp [intOf]; omega
    · obtain rfl : k = SZ := by omega
      have hkz : ¬ (k : Int) < (k : Int) := by omega
      go_wp2
      go_ret
      exact ⟨rfl, br⟩
end Go.Proofs.YtibohlbkkaghkaaDoor
