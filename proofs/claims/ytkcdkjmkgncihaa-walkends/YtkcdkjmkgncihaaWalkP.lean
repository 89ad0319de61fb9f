/- Leaves of two levels, and the entries that WalkMarks makes. -/
import Derived.Test.YtkcdkjmkgncihaaWalkN
namespace Go.Proofs.Ytkcdkjmkgncihaa.W
open Go.RowKit
set_option linter.unusedVariables false
set_option linter.unusedSimpArgs false

def two {α : Type} (x y : α) (j : Nat) : α := if j = 0 then x else y

theorem two_leaf (va acc a1 a0 e : Int) (h0 : 0 ≤ va) (h1 : va < 4294967296) (ha1 : a1 = 4096 + 4 * (va / 4194304)) (ha0 : a0 = 8192 + 4 * (va / 4096 % 1024)) (hb : bad e = false) (hl : leaf e = true) (A V : Nat → Int) (A0 : A 0 = a1) (A1 : A 1 = a0) (V0 : V 0 = 2049) (V1 : V 1 = e) :
    nextS 2147483649 0 va acc 65536 2 A V = leafS a0 e va acc 0 false := by
  have e1 := ent_1 va h0 h1
  have e2 := ent_2 va h0 h1
  have e : stepS 2147483649 0 va acc 65536 2 A V = (leafS a0 e va acc 0 false, 2) := by
    unfold stepS downS
    rw [on_1, show ((2147483649 : Int) % 4194304) = 1 from rfl, e1.1, e1.2, A0, V0, bad_2049, leaf_2049]
    unfold downL
    rw [show ((2049 : Int) / 1024) = 2 from rfl, e2.1, e2.2, A1, V1, hb, hl]
    simp [ha0, ha1]
  unfold nextS
  rw [e]
  rfl
theorem two_bad (va acc a1 a0 e : Int) (h0 : 0 ≤ va) (h1 : va < 4294967296) (ha1 : a1 = 4096 + 4 * (va / 4194304)) (ha0 : a0 = 8192 + 4 * (va / 4096 % 1024)) (hb : bad e = true) (A V : Nat → Int) (A0 : A 0 = a1) (A1 : A 1 = a0) (V0 : V 0 = 2049) (V1 : V 1 = e) :
    nextS 2147483649 0 va acc 65536 2 A V = fltS acc true := by
  have e1 := ent_1 va h0 h1
  have e2 := ent_2 va h0 h1
  have e : stepS 2147483649 0 va acc 65536 2 A V = (fltS acc true, 2) := by
    unfold stepS downS
    rw [on_1, show ((2147483649 : Int) % 4194304) = 1 from rfl, e1.1, e1.2, A0, V0, bad_2049, leaf_2049]
    unfold downL
    rw [show ((2049 : Int) / 1024) = 2 from rfl, e2.1, e2.2, A1, V1, hb]
    simp [ha0, ha1]
  unfold nextS
  rw [e]
  rfl
theorem one_leaf (va acc a1 e : Int) (h0 : 0 ≤ va) (h1 : va < 4294967296) (ha1 : a1 = 4096 + 4 * (va / 4194304)) (hb : bad e = false) (hl : leaf e = true) :
    nextS 2147483649 0 va acc 65536 1 (fun _ => a1) (fun _ => e) = leafS a1 e va acc 0 true := by
  have e1 := ent_1 va h0 h1
  have e : stepS 2147483649 0 va acc 65536 1 (fun _ => a1) (fun _ => e) = (leafS a1 e va acc 0 true, 1) := by
    unfold stepS downS
    rw [on_1, show ((2147483649 : Int) % 4194304) = 1 from rfl, e1.1, e1.2, hb, hl]
    simp [ha1]
  unfold nextS
  rw [e]
  rfl
theorem one_bad (va acc a1 e : Int) (h0 : 0 ≤ va) (h1 : va < 4294967296) (ha1 : a1 = 4096 + 4 * (va / 4194304)) (hb : bad e = true) :
    nextS 2147483649 0 va acc 65536 1 (fun _ => a1) (fun _ => e) = fltS acc true := by
  have e1 := ent_1 va h0 h1
  have e : stepS 2147483649 0 va acc 65536 1 (fun _ => a1) (fun _ => e) = (fltS acc true, 1) := by
    unfold stepS downS
    rw [on_1, show ((2147483649 : Int) % 4194304) = 1 from rfl, e1.1, e1.2, hb]
    simp [ha1]
  unfold nextS
  rw [e]
  rfl

/-- What the entry of WalkMarks is: a page 7, with V, R, W, U. -/
def mkOk (acc m : Int) (f : Nat) : Bool :=
  let e : Int := 7168 + f
  let n := needs e acc
  (bad e == false) && (leaf e == true) && (may e acc 0 == true) && ((bits .and .u32 e m == m) == !(n != e)) && (bits .or .u32 e m == n) && (bad n == false) && (leaf n == true) && (may n acc 0 == true) && (needs n acc == n) && (e / 1024 == 7) && (n / 1024 == 7)
theorem marks_2 : ((List.range 256).all fun f => !(f &&& 23 == 23) || mkOk 2 64 f) = true := by decide +kernel
theorem marks_3 : ((List.range 256).all fun f => !(f &&& 23 == 23) || mkOk 3 192 f) = true := by decide +kernel

structure MkOk (acc m e n : Int) : Prop where
  hn : needs e acc = n
  b : bad e = false
  l : leaf e = true
  my : may e acc 0 = true
  q : (bits .and .u32 e m == m) = !(n != e)
  o : bits .or .u32 e m = n
  b2 : bad n = false
  l2 : leaf n = true
  my2 : may n acc 0 = true
  n2 : needs n acc = n
  p : e / 1024 = 7
  p2 : n / 1024 = 7
theorem mkOk_of {acc m : Int} {f : Nat} (h : mkOk acc m f = true) : MkOk acc m (7168 + f) (needs (7168 + f) acc) := by
  unfold mkOk at h
  simp only [Bool.and_eq_true, beq_iff_eq] at h
  obtain ⟨⟨⟨⟨⟨⟨⟨⟨⟨⟨h1, h2⟩, h3⟩, h4⟩, h5⟩, h6⟩, h7⟩, h8⟩, h9⟩, h10⟩, h11⟩ := h
  exact ⟨rfl, h1, h2, h3, h4, h5, h6, h7, h8, h9, h10, h11⟩
theorem mk_2 (f : Nat) (hf : f < 256) (h : f &&& 23 = 23) : MkOk 2 64 (7168 + f) (needs (7168 + f) 2) := by
  have h1 := List.all_eq_true.mp marks_2 f (by simp; exact hf)
  rw [h] at h1
  exact mkOk_of (by simpa using h1)
theorem mk_3 (f : Nat) (hf : f < 256) (h : f &&& 23 = 23) : MkOk 3 192 (7168 + f) (needs (7168 + f) 3) := by
  have h1 := List.all_eq_true.mp marks_3 f (by simp; exact hf)
  rw [h] at h1
  exact mkOk_of (by simpa using h1)

theorem leaf_here (a e va acc mode : Int) (g : Bool) (hm : may e acc mode = true) (hf : fitsB e g = true) (hn : needs e acc = e) (hp : e / 1024 * 4096 + offv va g ≤ 4294967295) : leafS a e va acc mode g = hereS (e / 1024 * 4096 + offv va g) := by
  unfold leafS
  rw [hm, hf, hn, show decide (4294967295 < e / 1024 * 4096 + offv va g) = false by simp; omega]
  simp
theorem leaf_mark (a e va acc mode : Int) (g : Bool) (hm : may e acc mode = true) (hf : fitsB e g = true) (hn : (needs e acc != e) = true) : leafS a e va acc mode g = markS a (needs e acc) := by
  unfold leafS
  rw [hm, hf, hn]
  rfl
theorem leaf_no (a e va acc mode : Int) (g : Bool) (hm : may e acc mode = false) : leafS a e va acc mode g = fltS acc true := by
  unfold leafS
  rw [hm]
  rfl

def five (a b c d e : Int) (j : Nat) : Int := if j = 0 then a else if j = 1 then b else if j = 2 then c else if j = 3 then d else e
theorem flags_five (flags : Int) (h0 : 0 ≤ flags) (h1 : flags < 4294967296) : ∃ f : Nat, f < 256 ∧ f &&& 23 = 23 ∧ orAll (five 1 2 4 16 (bits .and .u32 flags 232)) 5 = f := by
  refine ⟨23 ||| (flags.toNat &&& 232), ?_, ?_, ?_⟩
  · exact Nat.or_lt_two_pow (n := 8) (by decide) (Nat.lt_of_le_of_lt Nat.and_le_right (by decide))
  · rw [Nat.and_or_distrib_right, Nat.and_assoc, show (232 &&& 23 : Nat) = 0 from rfl, Nat.and_zero]
    rfl
  · show bits .or .u32 (bits .or .u32 (bits .or .u32 (bits .or .u32 (bits .or .u32 0 1) 2) 4) 16) (bits .and .u32 flags 232) = _
    rw [show bits .or .u32 (bits .or .u32 (bits .or .u32 (bits .or .u32 0 1) 2) 4) 16 = 23 by decide +kernel, u32_and flags 232 h0 h1 (by decide) (by decide)]
    have hle : flags.toNat &&& (232 : Int).toNat ≤ (232 : Int).toNat := Nat.and_le_right
    rw [u32_or 23 _ (by decide) (by decide) (by omega) (by omega), Int.toNat_natCast]
    rfl
theorem or_28672 (va : Int) (h0 : 0 ≤ va) (h1 : va < 4294967296) : bits .or .u32 28672 (bits .and .u32 va 4095) = 28672 + va % 4096 := by
  rw [and_4095 va h0 h1, u32_or 28672 _ (by decide) (by decide) (by omega) (by omega), Nat.or_comm]
  have := or_join 28672 (va % 4096) 12 (by decide) (by decide) (by omega) (by omega) (by decide) (by decide)
  rw [u32_or _ 28672 (by omega) (by omega) (by decide) (by decide)] at this
  exact this
end Go.Proofs.Ytkcdkjmkgncihaa.W
