/- wmo: what memory has first; a byte that was written. -/
import Derived.Test.YtibohlbkkaghkaaDoorWmoK
import Derived.Defers
import Derived.Recover
import Derived.Laws.Pointers
namespace Go.Proofs.YtibohlbkkaghkaaDoor
open Go.ChangeShapes Go.WideShapes Go.ChangeAt Go.RowKit Go.Maps
set_option linter.unusedVariables false
set_option linter.unusedSimpArgs false

/-- A memory that is 0 at first: the law's closure. -/
def fvZ (cb : Nat) : Value := .func (.func 23) #[] #[.pointer (some ⟨cb, 0, none⟩)]
structure Fz (cb : Nat) (w : World) : Prop where
  lt : cb < w.heap.size
  c : ∃ a c, w.cell? ⟨cb, 0, none⟩ = some (.slice a 0 c)
theorem Fz.below {cb : Nat} {w w' : World} (h : Fz cb w) (hb : Below w.heap.size w w') : Fz cb w' :=
  ⟨Nat.lt_of_lt_of_le h.lt hb.size, by obtain ⟨a, c, e⟩ := h.c; exact ⟨a, c, (hb.cell (p := ⟨cb, 0, none⟩) h.lt).trans e⟩⟩
theorem first0_any (cb : Nat) (a : Int) (a0 : 0 ≤ a) (a1 : a < 4294967296) (w : World) (h : Fz cb w) :
    Calls Tryd.prog 23 #[.int .u32 a, .pointer (some ⟨cb, 0, none⟩)] w fun e w' => e = .returned (.int .u8 0) ∧ w = w' := by
  obtain ⟨sa, sc, c0⟩ := h.c
  have lt := h.lt
  have e : ¬ a < 0 := by omega
  clear h
  go_enter Tryd.func23, Tryd.ntmps23
  go_wp2
  go_ret
  exact ⟨rfl, rfl⟩
theorem catch_idle (p : Addr) (w : World) :
    CallsD Tryd.prog 71 #[.pointer (some p)] .returning w fun e u' w' => e = .returned (.tuple #[]) ∧ u' = .returning ∧ w' = w := by
  refine callsD_of_wpS Tryd.func71 rfl fun c₀ cs hu => ?_
  apply wpS_seq
  apply wpS_region
  simp [wpOpsS, go_sem, recoverD, hu, Tryd.ntmps71, Exit.thenS]
  refine wpS_cond (t := false) (by simp [Act.eval, Array.replicate]) ?_
  simp only [Bool.false_eq_true, if_false]
  refine wpS_of_wp (wp_skip ?_)
  cases c₀
  simp_all [bodyPostS, results, Tryd.results71]
theorem firstAt_any (cb : Nat) (a : Int) (a0 : 0 ≤ a) (a1 : a < 4294967296) (w : World) (h : Fz cb w) :
    Calls Tryd.prog 61 #[fvZ cb, .int .u32 a] w fun e w' => e = .returned (.int .u8 0) ∧ Below w.heap.size w w' := by
  have hmf : ∀ (fn : Fn) (first cap : Array Value) (w : World), (Instr.makeFunc fn first cap).run Tryd.prog w = .ok (.func fn first cap) w := fun _ _ _ _ => rfl
  have hc := fun w' (hb : Below w.heap.size w w') => first0_any cb a a0 a1 w' (h.below hb)
  have HC : Hid _ := hc
  clear hc h
  unfold fvZ
  go_enter_defers Tryd.func61, Tryd.ntmps61
  go_wp2_with (fail)
  refine (HC.out _ ((Below.refl _ _).alloc (Nat.le_refl _) _)).mono ?_
  rintro e w1 ⟨rfl, rfl⟩
  go_wp2
  refine leaves_cons (f := 71) (args := #[.pointer (some ⟨w.heap.size, 0, none⟩)]) (by simp) (by simp [go_sem]) ?_
  refine (catch_idle ⟨w.heap.size, 0, none⟩ _).mono ?_
  rintro e u' w'' ⟨rfl, rfl, rfl⟩
  simp [Leaves, settle, results, Tryd.results61, go_sem]
  exact (Below.refl _ _).alloc (Nat.le_refl _) _
namespace W
/-- The byte of v at d. -/
def bta (v : Int) (d : Nat) : Int := (v / 2 ^ (8 * d)) % 256
end W
set_option maxHeartbeats 800000 in
theorem byteAt_any (g off : Nat) (v ad : Int) (d : Nat) (w : World) (gl : g < w.heap.size) (c2 : w.cell? ⟨g, off + 2, none⟩ = some (.int .u32 ad)) (c3 : w.cell? ⟨g, off + 3, none⟩ = some (.int .u32 v)) (hd : d < 4) (v0 : 0 ≤ v) (v1 : v < 4294967296) (a0 : 0 ≤ ad) (a1 : ad + d < 4294967296) :
    Calls Tryd.prog 62 #[.pointer (some ⟨g, off, none⟩), .int .u32 (ad + d)] w fun e w' => e = .returned (.int .u8 (W.bta v d)) ∧ Below w.heap.size w w' := by
  have es : ad + (d : Int) - ad = (d : Int) := by omega
  match d, hd with
  | 0, _ =>
    go_enter Tryd.func62, Tryd.ntmps62
    go_wp2
    go_region
    go_wp2
    go_ret
    refine ⟨?_, (Below.refl _ _).drew⟩
    unfold W.bta
    first
      | rfl
      | (simp only [Array.getD, Nat.reduceMul]; simp)
  | 1, _ =>
    go_enter Tryd.func62, Tryd.ntmps62
    go_wp2
    go_region
    go_wp2
    go_ret
    refine ⟨?_, (Below.refl _ _).drew⟩
    unfold W.bta
    first
      | rfl
      | (simp only [Array.getD, Nat.reduceMul]; simp; rw [show 8 * (ad + 1 - ad) = 8 by omega]; rfl)
  | 2, _ =>
    go_enter Tryd.func62, Tryd.ntmps62
    go_wp2
    go_region
    go_wp2
    go_ret
    refine ⟨?_, (Below.refl _ _).drew⟩
    unfold W.bta
    first
      | rfl
      | (simp only [Array.getD, Nat.reduceMul]; simp; rw [show 8 * (ad + 2 - ad) = 16 by omega]; rfl)
  | 3, _ =>
    go_enter Tryd.func62, Tryd.ntmps62
    go_wp2
    go_region
    go_wp2
    go_ret
    refine ⟨?_, (Below.refl _ _).drew⟩
    unfold W.bta
    first
      | rfl
      | (simp only [Array.getD, Nat.reduceMul]; simp; rw [show 8 * (ad + 3 - ad) = 24 by omega]; rfl)
namespace W
/-- The byte at A as the write at F left it. -/
def byR (q : Nat → StR) (F A : Int) : Int := if F = 0 then 0 else bta (q F.toNat).o.vl (A - (q F.toNat).o.ad).toNat
/-- What step p has to read of its first k bytes. -/
def rdV (q : Nat → StR) (p : Nat) : Nat → Int
  | 0 => 0
  | k + 1 => rdV q p k + byR q ((q p).fr k) ((q p).o.ad + k) * 2 ^ (8 * k)
/-- A place that a byte may come from. -/
def FrO (q : Nat → StR) (M : Nat) (F A : Int) : Prop := F = 0 ∨ (0 < F ∧ F < (M : Int) ∧ 0 ≤ (q F.toNat).o.ad ∧ (q F.toNat).o.ad ≤ A ∧ A < (q F.toNat).o.ad + 4 ∧ 0 ≤ (q F.toNat).o.vl ∧ (q F.toNat).o.vl < 4294967296)
theorem bta_bd (v : Int) (d : Nat) : 0 ≤ bta v d ∧ bta v d < 256 := by
  unfold bta
  omega
theorem byR_bd (q : Nat → StR) (F A : Int) : 0 ≤ byR q F A ∧ byR q F A < 256 := by
  unfold byR
  split
  · omega
  · exact bta_bd _ _
theorem rdV_bd (q : Nat → StR) (p : Nat) : ∀ k, 0 ≤ rdV q p k ∧ rdV q p k < 2 ^ (8 * k)
  | 0 => ⟨Int.le_refl _, by show (0 : Int) < 2 ^ 0; decide⟩
  | k + 1 => by
    have h := rdV_bd q p k
    have b := byR_bd q ((q p).fr k) ((q p).o.ad + k)
    have e : (2 : Int) ^ (8 * (k + 1)) = 256 * 2 ^ (8 * k) := by rw [Nat.mul_add, Int.pow_add]; omega
    unfold rdV
    rw [e]
    generalize byR q ((q p).fr k) ((q p).o.ad + k) = B at *
    generalize (2 : Int) ^ (8 * k) = T at *
    have h1 : B * T ≤ 255 * T := Int.mul_le_mul_of_nonneg_right (by omega) (by omega)
    have h2 : 0 ≤ B * T := Int.mul_nonneg b.1 (by omega)
    omega
end W
set_option maxHeartbeats 800000 in
theorem byteToRead_any (sb M cb : Nat) (q : Nat → StR) (F A : Int) (w : World) (hS : Sb2 sb M q w) (hM : M ≤ 5000) (hz : Fz cb w) (a0 : 0 ≤ A) (a1 : A < 4294967296) (hF : W.FrO q M F A) :
    Calls Tryd.prog 54 #[.slice (some ⟨sb, 0, none⟩) M M, .int .i64 F, .int .u32 A, fvZ cb] w fun e w' => e = .returned (.int .u8 (W.byR q F A)) ∧ Below w.heap.size w w' := by
  unfold W.byR
  by_cases f0 : F = 0
  · subst f0
    rw [if_pos rfl]
    have HC : Hid (Calls _ _ _ _ _) := firstAt_any cb A a0 a1 w hz
    clear hS hF hz
    generalize fvZ cb = FV at *
    go_enter Tryd.func54, Tryd.ntmps54
    go_wp2_with (fail)
    refine HC.out.mono ?_
    rintro e w1 ⟨rfl, b1⟩
    go_wp2
    go_ret
    exact ⟨rfl, b1⟩
  · rw [if_neg f0]
    rcases hF with h | ⟨h1, h2, h3, h4, h5, h6, h7⟩
    · exact absurd h f0
    · obtain ⟨P, rfl⟩ := Int.eq_ofNat_of_zero_le (show 0 ≤ F by omega)
      rw [Int.toNat_natCast] at *
      obtain ⟨d, hd⟩ := Int.eq_ofNat_of_zero_le (show 0 ≤ A - (q P).o.ad by omega)
      have eA : A = (q P).o.ad + d := by omega
      subst eA
      have ed : ((q P).o.ad + (d : Int) - (q P).o.ad).toNat = d := by omega
      rw [ed]
      have c2 := hS.cell P 2 (by omega) (by decide) (.int .u32 (q P).o.ad) rfl
      have c3 := hS.cell P 3 (by omega) (by decide) (.int .u32 (q P).o.vl) rfl
      have HC : Hid (Calls _ _ _ _ _) := byteAt_any sb (P * 19) (q P).o.vl (q P).o.ad d w hS.b.lt c2 c3 (by omega) h6 h7 h3 a1
      have f1 : ((P : Int) == 0) = false := by simpa using f0
      have sl := hS.b.lt
      have hPM : (P : Int) < (M : Int) := h2
      clear hS hz c2 c3 hd ed
      generalize fvZ cb = FV at *
      generalize (q P).o.ad + (d : Int) = A at *
      go_enter Tryd.func54, Tryd.ntmps54
      go_wp2_with (fail)
      refine HC.out.mono ?_
      rintro e w1 ⟨rfl, b1⟩
      go_wp2
      go_ret
      exact ⟨rfl, b1⟩
end Go.Proofs.YtibohlbkkaghkaaDoor
