/- Texts in one: RefW, Math12. -/
import Derived.Test.YtopehmpjfndgjaaJ27
import Derived.Test.YtopehmpjfndgjaaJ32
/- What the document's word returns. -/
namespace Go.Proofs.Ytopehmpjfndgjaa
open Go.ChangeShapes Go.WideShapes Go.ChangeAt Go.RowKit
set_option linter.unusedVariables false
set_option linter.unusedSimpArgs false

namespace W
def rtail (r : Rw) (i : I) (h : Int) : Int := bits .or .u32 (bits .or .u32 (bits .or .u32 (bits .or .u32 (bits .or .u32 h (rlayV r.fm i.imm)) (i.rd % 4294967296 * 128 % 4294967296)) (i.rs1 % 4294967296 * 32768 % 4294967296)) (i.rs2 % 4294967296 * 1048576 % 4294967296)) (i.csr % 4294967296 * 1048576 % 4294967296)
def rhead (r : Rw) : Int := bits .or .u32 r.oc (r.f3 * 4096 % 4294967296)
def raq (b : Bool) (h : Int) : Int := bif b then bits .or .u32 h 67108864 else h
def rrl (b : Bool) (h : Int) : Int := bif b then bits .or .u32 h 33554432 else h
def rword (r : Rw) (i : I) : Int := bif r.wh != 0 then r.wh else rtail r i (bif r.pair then rrl i.rl (raq i.aq (bits .or .u32 (rhead r) (r.f7 * 134217728 % 4294967296))) else bits .or .u32 (rhead r) (r.f7 * 33554432 % 4294967296))
end W

set_option maxRecDepth 100000 in
set_option maxHeartbeats 3200000 in
theorem word_any (r : W.Rw) (i : W.I) (w : World) (m0 : 0 ≤ i.imm) (m1 : i.imm < 4294967296) : Calls Try.prog 34 #[rwV r, inV i] w fun e w' => e = .returned (.int .u32 (W.rword r i)) ∧ Below w.heap.size w w' := by
  have hb : Hid (Below w.heap.size w w) := Below.refl _ _
  unfold rwV rwA inV
  cases h : (r.wh != 0)
  case true =>
    have hv : Hid (W.rword r i = r.wh) := (by rw [W.rword, h]; rfl : W.rword r i = r.wh)
    go_enter Try.func34, Try.ntmps34
    go_wp2
    go_ret
    exact ⟨ret_int hv.out.symm, (hb.out.alloc hb.out.size _).alloc (by simp) _⟩
  cases hp : r.pair
  case false =>
    have hv : Hid (W.rword r i = W.rtail r i (bits .or .u32 (W.rhead r) (r.f7 * 33554432 % 4294967296))) := (by rw [W.rword, h, hp]; rfl : W.rword r i = _)
    go_enter Try.func34, Try.ntmps34
    go_wp2_with (go_at_call 32; refine (layl_any _ _ _ m0 m1).mono ?_; rintro e w' ⟨rfl, rfl⟩)
    go_ret
    exact ⟨ret_int hv.out.symm, (hb.out.alloc hb.out.size _).alloc (by simp) _⟩
  cases ha : i.aq <;> cases hl : i.rl
  all_goals
    have hv : Hid (W.rword r i = W.rtail r i (W.rrl i.rl (W.raq i.aq (bits .or .u32 (W.rhead r) (r.f7 * 134217728 % 4294967296))))) := (by rw [W.rword, h, hp]; rfl : W.rword r i = _)
    go_enter Try.func34, Try.ntmps34
    go_wp2_with (go_at_call 32; refine (layl_any _ _ _ m0 m1).mono ?_; rintro e w' ⟨rfl, rfl⟩)
    go_ret
    refine ⟨ret_int ?_, (hb.out.alloc hb.out.size _).alloc (by simp) _⟩
    rw [hv.out, ha, hl]
    rfl
end Go.Proofs.Ytopehmpjfndgjaa

/- The document's rows against the shapes. -/
namespace Go.Proofs.Ytopehmpjfndgjaa.W
open Go.RowKit
set_option linter.unusedVariables false
set_option linter.unusedSimpArgs false

def fmOk (fm : Int) (s : Sh) : Bool := (fm == 0 && !hasImm s) || (fm == 90 && s.fmt == 0 && s.low == 20 && s.size == 5) || (fm == 67 && s.fmt == 0 && s.low == 15 && s.size == 5) || (fm == 70 && s.fmt == 0 && s.low == 20 && s.size == 8) || ((fm == 73 || fm == 83 || fm == 66 || fm == 85 || fm == 74) && s.fmt == fm && s.size == 0)
def rwOk (k : Nat) : Bool :=
  fmOk (rw k).fm (shp ((k + 1 : Nat) : Int)) && (bif (rw k).wh != 0 then ((rw k).wh == code (k + 1)) && ((shp ((k + 1 : Nat) : Int)).fixed == 4294967295) else
   (bits .or .u32 (rhead (rw k)) (bif (rw k).pair then (rw k).f7 * 134217728 % 4294967296 else (rw k).f7 * 33554432 % 4294967296) == code (k + 1)))
theorem rwOkAll : ((List.range 69).all rwOk) = true := by decide +kernel
theorem fmOk_cases {fm : Int} {s : Sh} (h : fmOk fm s = true) : (fm = 0 ∧ hasImm s = false) ∨ (fm = 90 ∧ s.fmt = 0 ∧ s.low = 20 ∧ s.size = 5) ∨ (fm = 67 ∧ s.fmt = 0 ∧ s.low = 15 ∧ s.size = 5) ∨ (fm = 70 ∧ s.fmt = 0 ∧ s.low = 20 ∧ s.size = 8) ∨ (isF fm ∧ s.fmt = fm ∧ s.size = 0) := by
  unfold fmOk at h
  simp only [Bool.or_eq_true, Bool.and_eq_true, beq_iff_eq, Bool.not_eq_true'] at h
  unfold isF
  rcases h with (((h | h) | h) | h) | h
  · exact Or.inl h
  · exact Or.inr (Or.inl ⟨h.1.1.1, h.1.1.2, h.1.2, h.2⟩)
  · exact Or.inr (Or.inr (Or.inl ⟨h.1.1.1, h.1.1.2, h.1.2, h.2⟩))
  · exact Or.inr (Or.inr (Or.inr (Or.inl ⟨h.1.1.1, h.1.1.2, h.1.2, h.2⟩)))
  · exact Or.inr (Or.inr (Or.inr (Or.inr ⟨by omega, h.1.2, h.2⟩)))

theorem pow_le_w (n : Nat) (h : n ≤ 32) : (2 : Int) ^ n ≤ 4294967296 := by
  have := Nat.pow_le_pow_right (show 0 < 2 by omega) h
  have h2 : ((2 ^ n : Nat) : Int) ≤ ((2 ^ 32 : Nat) : Int) := by exact_mod_cast this
  simpa using h2
theorem placed_small (v : Int) (l n : Nat) (v0 : 0 ≤ v) (v1 : v < 2 ^ n) (hn : 1 ≤ n) (hl : l + n ≤ 32) : v % 4294967296 * 2 ^ l % 4294967296 = placed v l n := by
  have hp := pow_le_w n (by omega)
  have hw : within (l : Int) (n : Int) = true := by simp [within]; omega
  rw [← placed_ref v l n v0 (by omega) hw, bitsOf_eq v 0 n v0 (by omega) (by omega) (by omega) (by omega)]
  simp only [Int.toNat_natCast, show min n 32 = n by omega, Int.toNat_zero, Int.pow_zero, Int.ediv_one]
  rw [Int.emod_eq_of_lt v0 (show v < 4294967296 by omega), Int.emod_eq_of_lt v0 v1]

theorem small_back (v : Int) (l n : Nat) (v0 : 0 ≤ v) (v1 : v < 4294967296) (hn : 1 ≤ n) (hn2 : n ≤ 12) (hl : l + n ≤ 32) : (bitsOf (placed v l n) l n == v) = decide (v < 2 ^ n) := by
  have hp := placed_lt v l n
  by_cases h : v < 2 ^ n
  · rw [field_back (placed v l n) v l n hp.1 hp.2 v0 h hn hl fun _ _ _ => rfl]
    simp [h]
  · have := bits_le (placed v l n) l n hp.1 hp.2 (by omega) hn hn2
    have : ¬ bitsOf (placed v l n) l n = v := by omega
    simp [h, this]

theorem immS_field {s : Sh} {l n : Int} (h1 : s.low = l) (h2 : s.size = n) (h3 : 0 < n) (y : Int) : immS s y = bitsOf y l n := by
  unfold immS
  rw [h1, h2, decide_eq_true h3]; rfl
theorem hasImm_size {s : Sh} {n : Int} (h2 : s.size = n) (h3 : 0 < n) : hasImm s = true := by
  unfold hasImm hasI
  rw [h2, decide_eq_true h3, Bool.or_true]
theorem layIB_field {s : Sh} {l n : Nat} (h1 : s.low = l) (h2 : s.size = n) (hn : 1 ≤ n) (hn2 : n ≤ 12) (hl : l + n ≤ 32) (v : Int) (v0 : 0 ≤ v) (v1 : v < 4294967296) : layIB s v = decide (v < 2 ^ n) := by
  unfold layIB
  have hz : decide (0 < s.size) = true := by rw [h2]; simp; omega
  rw [hasImm_size h2 (by omega), hz, cond_true, cond_true, lone_placed, immS_field h1 h2 (by omega), h1, h2]
  exact small_back v l n v0 v1 hn hn2 hl
theorem layIV_field {s : Sh} {l n : Nat} (h1 : s.low = l) (h2 : s.size = n) (hn : 1 ≤ n) (hl : l + n ≤ 32) (v : Int) (v0 : 0 ≤ v) (v1 : v < 2 ^ n) : layIV s v = v * 2 ^ l % 4294967296 := by
  unfold layIV
  have hz : decide (0 < s.size) = true := by rw [h2]; simp; omega
  have hp := pow_le_w n (by omega)
  rw [hasImm_size h2 (by omega), hz, cond_true, cond_true, lone_placed, h1, h2, ← placed_small v l n v0 v1 hn hl, Int.emod_eq_of_lt v0 (show v < 4294967296 by omega)]

theorem layIB_f {s : Sh} {fm : Int} (hf : isF fm) (h1 : s.fmt = fm) (h2 : s.size = 0) : hasImm s = true ∧ (∀ v, layIB s v = layB fm v) ∧ (∀ v, layIV s v = layV fm v) ∧ ∀ x, immS s x = imm fm x := by
  have hne : (s.fmt != 0) = true := by rw [h1]; simpa using isF_ne hf
  have hz : decide (0 < s.size) = false := by rw [h2]; rfl
  have hi : hasImm s = true := by unfold hasImm hasI; rw [hne, Bool.true_or]
  refine ⟨hi, fun v => ?_, fun v => ?_, fun v => ?_⟩
  · unfold layIB; rw [hi, hz, h1]; rfl
  · unfold layIV; rw [hi, hz, h1]; rfl
  · unfold immS; rw [hz, h1]; rfl
theorem isF_odd {f : Int} (h : isF f) : (f == 0) = false ∧ (f == 90) = false ∧ (f == 67) = false ∧ (f == 70) = false := by
  rcases h with rfl | rfl | rfl | rfl | rfl <;> decide

theorem rlayB_eq {fm : Int} {s : Sh} (h : fmOk fm s = true) (v : Int) (v0 : 0 ≤ v) (v1 : v < 4294967296) : layIB s v = (fm == 0 || rlayB fm v) := by
  rcases fmOk_cases h with ⟨rfl, hi⟩ | ⟨rfl, a, b, c⟩ | ⟨rfl, a, b, c⟩ | ⟨rfl, a, b, c⟩ | ⟨hf, a, b⟩
  · unfold layIB; rw [hi]; rfl
  · exact layIB_field (l := 20) (n := 5) b c (by omega) (by omega) (by omega) v v0 v1
  · exact layIB_field (l := 15) (n := 5) b c (by omega) (by omega) (by omega) v v0 v1
  · exact layIB_field (l := 20) (n := 8) b c (by omega) (by omega) (by omega) v v0 v1
  · obtain ⟨o1, o2, o3, o4⟩ := isF_odd hf
    rw [(layIB_f hf a b).2.1, rlayB, o1, o2, o3, o4]; rfl
theorem rlayV_eq {fm : Int} {s : Sh} (h : fmOk fm s = true) (v : Int) (v0 : 0 ≤ v) (v1 : v < 4294967296) (hb : layIB s v = true) : rlayV fm v = layIV s v := by
  rcases fmOk_cases h with ⟨rfl, hi⟩ | ⟨rfl, a, b, c⟩ | ⟨rfl, a, b, c⟩ | ⟨rfl, a, b, c⟩ | ⟨hf, a, b⟩
  · unfold layIV; rw [hi]; rfl
  · rw [layIB_field (l := 20) (n := 5) b c (by omega) (by omega) (by omega) v v0 v1] at hb
    exact (layIV_field (l := 20) (n := 5) b c (by omega) (by omega) v v0 (of_decide_eq_true hb)).symm
  · rw [layIB_field (l := 15) (n := 5) b c (by omega) (by omega) (by omega) v v0 v1] at hb
    exact (layIV_field (l := 15) (n := 5) b c (by omega) (by omega) v v0 (of_decide_eq_true hb)).symm
  · rw [layIB_field (l := 20) (n := 8) b c (by omega) (by omega) (by omega) v v0 v1] at hb
    exact (layIV_field (l := 20) (n := 8) b c (by omega) (by omega) v v0 (of_decide_eq_true hb)).symm
  · obtain ⟨o1, o2, o3, o4⟩ := isF_odd hf
    rw [(layIB_f hf a b).2.2.1, rlayV, o1, o2, o3, o4]; rfl
theorem rimm_eq {fm : Int} {s : Sh} (h : fmOk fm s = true) (x : Int) : rimm fm x = bif hasImm s then immS s x else 0 := by
  rcases fmOk_cases h with ⟨rfl, hi⟩ | ⟨rfl, a, b, c⟩ | ⟨rfl, a, b, c⟩ | ⟨rfl, a, b, c⟩ | ⟨hf, a, b⟩
  · rw [hi]; simp [rimm, imm, wid, sgn]
  · rw [hasImm_size c (by omega), cond_true, immS_field b c (by omega)]; rfl
  · rw [hasImm_size c (by omega), cond_true, immS_field b c (by omega)]; rfl
  · rw [hasImm_size c (by omega), cond_true, immS_field b c (by omega)]; rfl
  · obtain ⟨o1, o2, o3, o4⟩ := isF_odd hf
    rw [(layIB_f hf a b).1, cond_true, (layIB_f hf a b).2.2.2, rimm, o2, o3, o4]; rfl

theorem tb_aq (b : Bool) (h : Int) (h0 : 0 ≤ h) (h1 : h < 4294967296) (p : Nat) (hp : p < 32) : (0 ≤ raq b h ∧ raq b h < 4294967296) ∧ tb (raq b h) p = (tb h p || tb (placed (one b) 26 1) p) := by
  cases b
  · exact ⟨⟨h0, h1⟩, by rw [show one false = 0 from rfl, tb_placed0 _ _ _ hp, Bool.or_false]; rfl⟩
  · refine ⟨or_lt _ _, ?_⟩
    show tb (bits .or .u32 h 67108864) p = _
    rw [tb_or _ _ p h0 h1 (by decide) (by decide), show placed (one true) 26 1 = 67108864 from by decide +kernel]
theorem tb_rl (b : Bool) (h : Int) (h0 : 0 ≤ h) (h1 : h < 4294967296) (p : Nat) (hp : p < 32) : (0 ≤ rrl b h ∧ rrl b h < 4294967296) ∧ tb (rrl b h) p = (tb h p || tb (placed (one b) 25 1) p) := by
  cases b
  · exact ⟨⟨h0, h1⟩, by rw [show one false = 0 from rfl, tb_placed0 _ _ _ hp, Bool.or_false]; rfl⟩
  · refine ⟨or_lt _ _, ?_⟩
    show tb (bits .or .u32 h 33554432) p = _
    rw [tb_or _ _ p h0 h1 (by decide) (by decide), show placed (one true) 25 1 = 33554432 from by decide +kernel]

theorem rword_enc {k : Nat} (hk : k < 69) {i : I} (ho : i.op = ((k + 1 : Nat) : Int)) (m0 : 0 ≤ i.imm) (m1 : i.imm < 4294967296) (he : encE i = 0) : rword (rw k) i = encV i := by
  obtain ⟨h1, h2, h3, h4⟩ := encE_zero he
  rw [ho] at h2 h4
  have hr := inR_of h3
  have hK := ok_at (k + 1) (by omega) (by omega)
  have hv : encV i = encW (code (k + 1)) (shp ((k + 1 : Nat) : Int)) i := by
    unfold encV encW
    rw [he, ho]; rfl
  have hl := encW_lt (code (k + 1)) (shp ((k + 1 : Nat) : Int)) i
  have hrw := List.all_eq_true.1 rwOkAll k (List.mem_range.2 hk)
  rw [rwOk, Bool.and_eq_true] at hrw
  obtain ⟨hfm, hw⟩ := hrw
  rw [hv]
  unfold rword
  cases hwh : ((rw k).wh != 0)
  case true =>
    rw [hwh, cond_true, Bool.and_eq_true] at hw
    rw [cond_true, beq_iff_eq.1 hw.1]
    refine eq_of_tb _ _ hK.c0 hK.c1 hl.1 hl.2 fun p hp => (encW_fixed hK hr h4 h2 p hp ?_).symm
    rw [beq_iff_eq.1 hw.2]
    have : ((List.range 32).all fun p => tb 4294967295 p) = true := by decide +kernel
    exact List.all_eq_true.1 this p (List.mem_range.2 hp)
  case false =>
    rw [hwh, cond_false] at hw
    rw [cond_false]
    have hw := beq_iff_eq.1 hw
    have hs' : (bif (shp ((k + 1 : Nat) : Int)).rd then i.rd else 0) = i.rd ∧ (bif (shp ((k + 1 : Nat) : Int)).rs1 then i.rs1 else 0) = i.rs1 ∧ (bif (shp ((k + 1 : Nat) : Int)).rs2 then i.rs2 else 0) = i.rs2 ∧ (bif (shp ((k + 1 : Nat) : Int)).csr then i.csr else 0) = i.csr ∧ (bif hasImm (shp ((k + 1 : Nat) : Int)) then i.imm else 0) = i.imm ∧ ((shp ((k + 1 : Nat) : Int)).ord && i.aq) = i.aq ∧ ((shp ((k + 1 : Nat) : Int)).ord && i.rl) = i.rl := by
      simpa only [same, only, Bool.and_eq_true, beq_iff_eq, true_and] using h4
    obtain ⟨q0, q1, q2, q3, q4, q5, q6⟩ := hs'
    have H : ∀ p, p < 32 → ∃ h, (bif (rw k).pair then rrl i.rl (raq i.aq (bits .or .u32 (rhead (rw k)) ((rw k).f7 * 134217728 % 4294967296))) else bits .or .u32 (rhead (rw k)) ((rw k).f7 * 33554432 % 4294967296)) = h ∧ (0 ≤ h ∧ h < 4294967296) ∧ tb h p = (tb (code (k + 1)) p || tb (placed (one i.aq) 26 1) p || tb (placed (one i.rl) 25 1) p) := by
      intro p hp
      refine ⟨_, rfl, ?_⟩
      cases hpr : (rw k).pair
      · rw [hpr, cond_false] at hw
        have hor : (shp ((k + 1 : Nat) : Int)).ord = false := hpr
        rw [hor, Bool.false_and] at q5 q6
        rw [cond_false, hw, ← q5, ← q6, show one false = 0 from rfl, tb_placed0 _ _ _ hp, tb_placed0 _ _ _ hp, Bool.or_false, Bool.or_false]
        exact ⟨⟨hK.c0, hK.c1⟩, rfl⟩
      · rw [hpr, cond_true] at hw
        rw [cond_true, hw]
        obtain ⟨a1, a2⟩ := tb_aq i.aq _ hK.c0 hK.c1 p hp
        obtain ⟨b1, b2⟩ := tb_rl i.rl _ a1.1 a1.2 p hp
        exact ⟨b1, by rw [b2, a2]⟩
    unfold rtail
    refine eq_of_tb _ _ (or_lt _ _).1 (or_lt _ _).2 hl.1 hl.2 fun p hp => ?_
    obtain ⟨h, e, hb, ht⟩ := H p hp
    rw [e]
    have iv := layIV_lt (shp ((k + 1 : Nat) : Int)) i.imm
    have f1 : i.rd % 4294967296 * 128 % 4294967296 = placed i.rd 7 5 := placed_small i.rd 7 5 hr.rd0 (by have := hr.rd1; show i.rd < 32; omega) (by omega) (by omega)
    have f2 : i.rs1 % 4294967296 * 32768 % 4294967296 = placed i.rs1 15 5 := placed_small i.rs1 15 5 hr.rs10 (by have := hr.rs11; show i.rs1 < 32; omega) (by omega) (by omega)
    have f3 : i.rs2 % 4294967296 * 1048576 % 4294967296 = placed i.rs2 20 5 := placed_small i.rs2 20 5 hr.rs20 (by have := hr.rs21; show i.rs2 < 32; omega) (by omega) (by omega)
    have f4 : i.csr % 4294967296 * 1048576 % 4294967296 = placed i.csr 20 12 := placed_small i.csr 20 12 hr.csr0 (by have := hr.csr1; show i.csr < 4096; omega) (by omega) (by omega)
    rw [f1, f2, f3, f4, rlayV_eq hfm i.imm m0 m1 h2]
    rw [tb_or _ _ p (or_lt _ _).1 (or_lt _ _).2 (placed_lt _ _ _).1 (placed_lt _ _ _).2, tb_or _ _ p (or_lt _ _).1 (or_lt _ _).2 (placed_lt _ _ _).1 (placed_lt _ _ _).2, tb_or _ _ p (or_lt _ _).1 (or_lt _ _).2 (placed_lt _ _ _).1 (placed_lt _ _ _).2, tb_or _ _ p (or_lt _ _).1 (or_lt _ _).2 (placed_lt _ _ _).1 (placed_lt _ _ _).2, tb_or _ _ p hb.1 hb.2 iv.1 iv.2, ht, tb_encW _ _ _ hK.c0 hK.c1 hr p hp]
    have hl : List.range 7 = [0, 1, 2, 3, 4, 5, 6] := by decide
    rw [hl]
    simp only [List.any_cons, List.any_nil, Bool.or_false, part]
    generalize tb (code (k + 1)) p = b0
    generalize tb (layIV (shp ((k + 1 : Nat) : Int)) i.imm) p = b1
    generalize tb (placed i.rd 7 5) p = b2
    generalize tb (placed i.rs1 15 5) p = b3
    generalize tb (placed i.rs2 20 5) p = b4
    generalize tb (placed i.csr 20 12) p = b5
    generalize tb (placed (one i.aq) 26 1) p = b6
    generalize tb (placed (one i.rl) 25 1) p = b7
    cases b0 <;> cases b1 <;> cases b2 <;> cases b3 <;> cases b4 <;> cases b5 <;> cases b6 <;> cases b7 <;> rfl

/-- What Decode reads by row k. -/
def rread (r : Rw) (x : Int) : I := ⟨r.op, bif r.rd then bitsOf x 7 5 else 0, bif r.rs1 then bitsOf x 15 5 else 0, bif r.rs2 then bitsOf x 20 5 else 0, bif r.csr then bitsOf x 20 12 else 0, rimm r.fm x, r.pair && (bitsOf x 26 1 == 1), r.pair && (bitsOf x 25 1 == 1)⟩
theorem rread_eq {k : Nat} (hk : k < 69) (x : Int) : rread (rw k) x = read (shp ((k + 1 : Nat) : Int)) ((k + 1 : Nat) : Int) x := by
  have hrw := List.all_eq_true.1 rwOkAll k (List.mem_range.2 hk)
  rw [rwOk, Bool.and_eq_true] at hrw
  unfold rread read only readAll
  rw [rimm_eq hrw.1]
  rfl
theorem rread_hit {k : Nat} (hk : k < 69) {x : Int} (x0 : 0 ≤ x) (x1 : x < 4294967296) : (rword (rw k) (rread (rw k) x) == x) = hit x (k + 1) := by
  have hK := ok_at (k + 1) (by omega) (by omega)
  obtain ⟨he, hr⟩ := read_ok (k := k + 1) (by omega) (by omega) x0 x1
  rw [rread_eq hk]
  have hm : 0 ≤ (read (shp ((k + 1 : Nat) : Int)) ((k + 1 : Nat) : Int) x).imm ∧ (read (shp ((k + 1 : Nat) : Int)) ((k + 1 : Nat) : Int) x).imm < 4294967296 := by
    show 0 ≤ (bif hasImm (shp ((k + 1 : Nat) : Int)) then immS (shp ((k + 1 : Nat) : Int)) x else 0) ∧ (bif hasImm (shp ((k + 1 : Nat) : Int)) then immS (shp ((k + 1 : Nat) : Int)) x else 0) < 4294967296
    cases hasImm (shp ((k + 1 : Nat) : Int))
    · rw [cond_false]; decide
    · unfold immS
      cases decide (0 < (shp ((k + 1 : Nat) : Int)).size)
      · exact imm_lt _ _
      · exact bitsOf_lt _ _ _
  rw [rword_enc hk rfl hm.1 hm.2 he]
  cases hh : hit x (k + 1)
  · rw [beq_eq_false_iff_ne]
    intro e
    obtain ⟨h1, h2, h3, h4⟩ := encE_zero he
    have hv : encV (read (shp ((k + 1 : Nat) : Int)) ((k + 1 : Nat) : Int) x) = encW (code (k + 1)) (shp ((k + 1 : Nat) : Int)) (read (shp ((k + 1 : Nat) : Int)) ((k + 1 : Nat) : Int) x) := by
      unfold encV encW
      rw [he]; rfl
    have := encW_hit hK hr h4 h2
    rw [← hv, e, hh] at this
    cases this
  · rw [beq_iff_eq]
    exact (enc_read (by omega) (by omega) x0 x1 hh).2
theorem whole_hit {k : Nat} (hk : k < 69) {x : Int} (x0 : 0 ≤ x) (x1 : x < 4294967296) (hw : ((rw k).wh != 0) = true) : (x == (rw k).wh) = hit x (k + 1) := by
  have := rread_hit hk x0 x1
  rw [rword, hw, cond_true] at this
  rw [← this, Bool.eq_iff_iff, beq_iff_eq, beq_iff_eq]
  exact eq_comm
theorem whole_read {k : Nat} (hk : k < 69) (x : Int) (hw : ((rw k).wh != 0) = true) : read (shp ((k + 1 : Nat) : Int)) ((k + 1 : Nat) : Int) x = ⟨((k + 1 : Nat) : Int), 0, 0, 0, 0, 0, false, false⟩ := by
  have : ((List.range 69).all fun k => !((rw k).wh != 0) || (!(shp ((k + 1 : Nat) : Int)).rd && !(shp ((k + 1 : Nat) : Int)).rs1 && !(shp ((k + 1 : Nat) : Int)).rs2 && !(shp ((k + 1 : Nat) : Int)).csr && !(shp ((k + 1 : Nat) : Int)).ord && !hasImm (shp ((k + 1 : Nat) : Int)))) = true := by decide +kernel
  have := List.all_eq_true.1 this k (List.mem_range.2 hk)
  rw [hw, Bool.not_true, Bool.false_or] at this
  simp only [Bool.and_eq_true, Bool.not_eq_true'] at this
  obtain ⟨⟨⟨⟨⟨a, b⟩, c⟩, d⟩, e⟩, f⟩ := this
  unfold read only readAll
  rw [a, b, c, d, e, f]
  rfl
end Go.Proofs.Ytopehmpjfndgjaa.W
