/- Texts in one: MathF, PlainI, PlainA, Word, Pack. -/
import Derived.Test.YtnejdkadmdelaaaGreatDoorRows
import Derived.WalkKit
import Derived.ProofKit
import Derived.OpenShut
import Derived.Deep.QuietTactic
import Derived.BigQuiet
import Derived.WalkSmall
import Derived.Test.YtnejdkadmdelaaaGreatDoorJ01
/- The immediates and their words, spelled format by format. -/
namespace Go.Proofs.YtnejdkadmdelaaaGreatDoor.W
open Go.RowKit
set_option linter.unusedVariables false

theorem bitsOf_low (x low n : Int) (x0 : 0 ≤ x) (x1 : x < 4294967296) (l0 : 0 ≤ low) (l1 : low ≤ 31) (n0 : 1 ≤ n) : bits .and .u32 (bitsOf x low n) (lowest n) = bitsOf x low n := by
  have h := bitsOf_lt x low n
  rw [lowest_eq n n0, low_and _ _ (by omega) h.1 h.2, bitsOf_eq x low n x0 x1 l0 l1 n0]
  exact Int.emod_emod_of_dvd _ (Int.dvd_refl _)
theorem moved_eq (x low to n : Int) (x0 : 0 ≤ x) (x1 : x < 4294967296) (l0 : 0 ≤ low) (l1 : low ≤ 31) (t0 : 0 ≤ to) (t1 : to ≤ 31) (n0 : 1 ≤ n) :
    moved x low to n = bitsOf x low n * 2 ^ to.toNat % 4294967296 := by
  have hw : within to n = true := by simp [within, t0, t1, n0]
  rw [moved_placed]
  unfold placed
  rw [hw, cond_true, place, bitsOf_low x low n x0 x1 l0 l1 n0]
theorem moved_shift (x low to n : Int) (x0 : 0 ≤ x) (x1 : x < 4294967296) (l0 : 0 ≤ low) (l1 : low ≤ 31) (t0 : 0 ≤ to) (t1 : to ≤ 31) (n0 : 1 ≤ n) :
    moved x low to n = placed (x / 2 ^ low.toNat) to n := by
  have hw : within to n = true := by simp [within, t0, t1, n0]
  have hw2 : within low n = true := by simp [within, l0, l1, n0]
  rw [moved_eq x low to n x0 x1 l0 l1 t0 t1 n0]
  unfold placed
  rw [hw, cond_true, place, bitsOf, hw2, cond_true]
theorem moved_nil (x low to : Int) : moved x low to 0 = 0 := by
  have hw : within to 0 = false := by simp [within]
  rw [moved_placed]
  unfold placed
  rw [hw, cond_false]
theorem moved_low (x low n : Int) (x0 : 0 ≤ x) (x1 : x < 4294967296) (l0 : 0 ≤ low) (l1 : low ≤ 31) (n0 : 1 ≤ n) : moved x low 0 n = bitsOf x low n := by
  have h := bitsOf_lt x low n
  rw [moved_eq x low 0 n x0 x1 l0 l1 (by decide) (by decide) n0]
  simp
  omega
theorem or1 (a : Int) (h : 0 ≤ a ∧ a < 4294967296) : bits .or .u32 (bits .or .u32 (bits .or .u32 (bits .or .u32 0 a) 0) 0) 0 = a := by
  rw [zero_or a h.1 h.2, or_zero a h.1 h.2, or_zero a h.1 h.2, or_zero a h.1 h.2]
theorem or2 (a b : Int) (h : 0 ≤ a ∧ a < 4294967296) : bits .or .u32 (bits .or .u32 (bits .or .u32 (bits .or .u32 0 a) b) 0) 0 = bits .or .u32 a b := by
  have g := or_lt a b
  rw [zero_or a h.1 h.2, or_zero _ g.1 g.2, or_zero _ g.1 g.2]
theorem or4 (a b c d : Int) (h : 0 ≤ a ∧ a < 4294967296) : bits .or .u32 (bits .or .u32 (bits .or .u32 (bits .or .u32 0 a) b) c) d = bits .or .u32 (bits .or .u32 (bits .or .u32 a b) c) d := by
  rw [zero_or a h.1 h.2]

theorem imm_I (x : Int) (x0 : 0 ≤ x) (x1 : x < 4294967296) : sgn (bitsOf x 20 12) 12 = imm 73 x := by
  have e : imm 73 x = sgn (bits .or .u32 (bits .or .u32 (bits .or .u32 (bits .or .u32 0 (moved x 20 0 12)) (moved x 0 0 0)) (moved x 0 0 0)) (moved x 0 0 0)) 12 := rfl
  rw [e, moved_nil, or1 _ (moved_lt _ _ _ _), moved_low x 20 12 x0 x1 (by decide) (by decide) (by decide)]
theorem imm_S (x : Int) (x0 : 0 ≤ x) (x1 : x < 4294967296) : sgn (bits .or .u32 (bitsOf x 25 7 * 32 % 4294967296) (bitsOf x 7 5)) 12 = imm 83 x := by
  have e : imm 83 x = sgn (bits .or .u32 (bits .or .u32 (bits .or .u32 (bits .or .u32 0 (moved x 25 5 7)) (moved x 7 0 5)) (moved x 0 0 0)) (moved x 0 0 0)) 12 := rfl
  rw [e, moved_nil, or2 _ _ (moved_lt _ _ _ _), moved_low x 7 5 x0 x1 (by decide) (by decide) (by decide), moved_eq x 25 5 7 x0 x1 (by decide) (by decide) (by decide) (by decide) (by decide)]
  rfl
theorem imm_B (x : Int) (x0 : 0 ≤ x) (x1 : x < 4294967296) : sgn (bits .or .u32 (bits .or .u32 (bits .or .u32 (bitsOf x 31 1 * 4096 % 4294967296) (bitsOf x 7 1 * 2048 % 4294967296)) (bitsOf x 25 6 * 32 % 4294967296)) (bitsOf x 8 4 * 2 % 4294967296)) 13 = imm 66 x := by
  have e : imm 66 x = sgn (bits .or .u32 (bits .or .u32 (bits .or .u32 (bits .or .u32 0 (moved x 31 12 1)) (moved x 7 11 1)) (moved x 25 5 6)) (moved x 8 1 4)) 13 := rfl
  rw [e, or4 _ _ _ _ (moved_lt _ _ _ _), moved_eq x 31 12 1 x0 x1 (by decide) (by decide) (by decide) (by decide) (by decide), moved_eq x 7 11 1 x0 x1 (by decide) (by decide) (by decide) (by decide) (by decide), moved_eq x 25 5 6 x0 x1 (by decide) (by decide) (by decide) (by decide) (by decide), moved_eq x 8 1 4 x0 x1 (by decide) (by decide) (by decide) (by decide) (by decide)]
  rfl
theorem imm_U (x : Int) (x0 : 0 ≤ x) (x1 : x < 4294967296) : bitsOf x 12 20 * 4096 % 4294967296 = imm 85 x := by
  have e : imm 85 x = sgn (bits .or .u32 (bits .or .u32 (bits .or .u32 (bits .or .u32 0 (moved x 12 12 20)) (moved x 0 0 0)) (moved x 0 0 0)) (moved x 0 0 0)) 32 := rfl
  rw [e, moved_nil, or1 _ (moved_lt _ _ _ _), sgn, if_neg (by decide), if_pos (by decide), moved_eq x 12 12 20 x0 x1 (by decide) (by decide) (by decide) (by decide) (by decide)]
  rfl
theorem imm_J (x : Int) (x0 : 0 ≤ x) (x1 : x < 4294967296) : sgn (bits .or .u32 (bits .or .u32 (bits .or .u32 (bitsOf x 31 1 * 1048576 % 4294967296) (bitsOf x 12 8 * 4096 % 4294967296)) (bitsOf x 20 1 * 2048 % 4294967296)) (bitsOf x 21 10 * 2 % 4294967296)) 21 = imm 74 x := by
  have e : imm 74 x = sgn (bits .or .u32 (bits .or .u32 (bits .or .u32 (bits .or .u32 0 (moved x 31 20 1)) (moved x 12 12 8)) (moved x 20 11 1)) (moved x 21 1 10)) 21 := rfl
  rw [e, or4 _ _ _ _ (moved_lt _ _ _ _), moved_eq x 31 20 1 x0 x1 (by decide) (by decide) (by decide) (by decide) (by decide), moved_eq x 12 12 8 x0 x1 (by decide) (by decide) (by decide) (by decide) (by decide), moved_eq x 20 11 1 x0 x1 (by decide) (by decide) (by decide) (by decide) (by decide), moved_eq x 21 1 10 x0 x1 (by decide) (by decide) (by decide) (by decide) (by decide)]
  rfl

theorem lay_I (x : Int) (x0 : 0 ≤ x) (x1 : x < 4294967296) : placed x 20 12 = layw 73 x := by
  have e : layw 73 x = bits .or .u32 (bits .or .u32 (bits .or .u32 (bits .or .u32 0 (moved x 0 20 12)) (moved x 0 0 0)) (moved x 0 0 0)) (moved x 0 0 0) := rfl
  rw [e, moved_nil, or1 _ (moved_lt _ _ _ _), moved_shift x 0 20 12 x0 x1 (by decide) (by decide) (by decide) (by decide) (by decide)]
  simp
theorem lay_S (x : Int) (x0 : 0 ≤ x) (x1 : x < 4294967296) : bits .or .u32 (placed (x / 32) 25 7) (placed x 7 5) = layw 83 x := by
  have e : layw 83 x = bits .or .u32 (bits .or .u32 (bits .or .u32 (bits .or .u32 0 (moved x 5 25 7)) (moved x 0 7 5)) (moved x 0 0 0)) (moved x 0 0 0) := rfl
  rw [e, moved_nil, or2 _ _ (moved_lt _ _ _ _), moved_shift x 5 25 7 x0 x1 (by decide) (by decide) (by decide) (by decide) (by decide), moved_shift x 0 7 5 x0 x1 (by decide) (by decide) (by decide) (by decide) (by decide)]
  simp
theorem lay_B (x : Int) (x0 : 0 ≤ x) (x1 : x < 4294967296) : bits .or .u32 (bits .or .u32 (bits .or .u32 (placed (x / 4096) 31 1) (placed (x / 2048) 7 1)) (placed (x / 32) 25 6)) (placed (x / 2) 8 4) = layw 66 x := by
  have e : layw 66 x = bits .or .u32 (bits .or .u32 (bits .or .u32 (bits .or .u32 0 (moved x 12 31 1)) (moved x 11 7 1)) (moved x 5 25 6)) (moved x 1 8 4) := rfl
  rw [e, or4 _ _ _ _ (moved_lt _ _ _ _), moved_shift x 12 31 1 x0 x1 (by decide) (by decide) (by decide) (by decide) (by decide), moved_shift x 11 7 1 x0 x1 (by decide) (by decide) (by decide) (by decide) (by decide), moved_shift x 5 25 6 x0 x1 (by decide) (by decide) (by decide) (by decide) (by decide), moved_shift x 1 8 4 x0 x1 (by decide) (by decide) (by decide) (by decide) (by decide)]
  simp
theorem lay_U (x : Int) (x0 : 0 ≤ x) (x1 : x < 4294967296) : placed (x / 4096) 12 20 = layw 85 x := by
  have e : layw 85 x = bits .or .u32 (bits .or .u32 (bits .or .u32 (bits .or .u32 0 (moved x 12 12 20)) (moved x 0 0 0)) (moved x 0 0 0)) (moved x 0 0 0) := rfl
  rw [e, moved_nil, or1 _ (moved_lt _ _ _ _), moved_shift x 12 12 20 x0 x1 (by decide) (by decide) (by decide) (by decide) (by decide)]
  simp
theorem lay_J (x : Int) (x0 : 0 ≤ x) (x1 : x < 4294967296) : bits .or .u32 (bits .or .u32 (bits .or .u32 (placed (x / 1048576) 31 1) (placed (x / 4096) 12 8)) (placed (x / 2048) 20 1)) (placed (x / 2) 21 10) = layw 74 x := by
  have e : layw 74 x = bits .or .u32 (bits .or .u32 (bits .or .u32 (bits .or .u32 0 (moved x 20 31 1)) (moved x 12 12 8)) (moved x 11 20 1)) (moved x 1 21 10) := rfl
  rw [e, or4 _ _ _ _ (moved_lt _ _ _ _), moved_shift x 20 31 1 x0 x1 (by decide) (by decide) (by decide) (by decide) (by decide), moved_shift x 12 12 8 x0 x1 (by decide) (by decide) (by decide) (by decide) (by decide), moved_shift x 11 20 1 x0 x1 (by decide) (by decide) (by decide) (by decide) (by decide), moved_shift x 1 21 10 x0 x1 (by decide) (by decide) (by decide) (by decide) (by decide)]
  simp

theorem heads (x : Int) (x0 : 0 ≤ x) (x1 : x < 4294967296) : (bitsOf x 0 7 != bits .and .u32 x 127) = false ∧ (bitsOf x 7 5 != bits .and .u32 (x / 128) 31) = false ∧ (bitsOf x 12 3 != bits .and .u32 (x / 4096) 7) = false
    ∧ (bitsOf x 15 5 != bits .and .u32 (x / 32768) 31) = false ∧ (bitsOf x 20 5 != bits .and .u32 (x / 1048576) 31) = false ∧ (bitsOf x 25 7 != x / 33554432) = false := by
  have h : ∀ (l n : Int) (c d : Int), 0 ≤ l → l ≤ 31 → 1 ≤ n → (2 : Int) ^ l.toNat = c → lowest n = d → bitsOf x l n = bits .and .u32 (x / c) d := by
    intro l n c d l0 l1 n0 hc hd
    have hw : within l n = true := by simp [within, l0, l1, n0]
    rw [bitsOf, hw, cond_true, hc, hd]
  have e0 := h 0 7 1 127 (by decide) (by decide) (by decide) (by decide) (by decide)
  rw [Int.ediv_one] at e0
  have e5 : bitsOf x 25 7 = x / 33554432 := by
    rw [bitsOf_eq x 25 7 x0 x1 (by decide) (by decide) (by decide)]
    simp only [Int.reduceToNat, Int.reducePow, Nat.reduceLeDiff, Nat.min_eq_left]
    omega
  rw [e0, h 7 5 128 31 (by decide) (by decide) (by decide) (by decide) (by decide), h 12 3 4096 7 (by decide) (by decide) (by decide) (by decide) (by decide), h 15 5 32768 31 (by decide) (by decide) (by decide) (by decide) (by decide), h 20 5 1048576 31 (by decide) (by decide) (by decide) (by decide) (by decide), e5]
  simp
end Go.Proofs.YtnejdkadmdelaaaGreatDoor.W

/- Mirrors of package isa on numbers: shapes, fields, reading and laying instructions; without any Go. -/
namespace Go.Proofs.YtnejdkadmdelaaaGreatDoor.W
open Go.RowKit
set_option linter.unusedVariables false

/-- What the words of like instructions have in common. -/
structure Sh where
  fixed : Int
  rd : Bool
  rs1 : Bool
  rs2 : Bool
  csr : Bool
  ord : Bool
  fmt : Int
  low : Int
  size : Int
/-- An instruction. -/
structure I where
  op : Int
  rd : Int
  rs1 : Int
  rs2 : Int
  csr : Int
  imm : Int
  aq : Bool
  rl : Bool
def fr (a b c : Int) : Bool := decide (a ≤ b) && decide (b ≤ c)
def known (op : Int) : Bool := fr 1 op 69

def shp (op : Int) : Sh :=
  bif op == 1 then ⟨127, true, false, false, false, false, 85, 0, 0⟩ else
  bif op == 2 then ⟨127, true, false, false, false, false, 85, 0, 0⟩ else
  bif op == 3 then ⟨127, true, false, false, false, false, 74, 0, 0⟩ else
  bif op == 4 then ⟨28799, true, true, false, false, false, 73, 0, 0⟩ else
  bif fr 11 op 15 then ⟨28799, true, true, false, false, false, 73, 0, 0⟩ else
  bif fr 19 op 24 then ⟨28799, true, true, false, false, false, 73, 0, 0⟩ else
  bif fr 5 op 10 then ⟨28799, false, true, true, false, false, 66, 0, 0⟩ else
  bif fr 16 op 18 then ⟨28799, false, true, true, false, false, 83, 0, 0⟩ else
  bif fr 25 op 27 then ⟨4261441663, true, true, false, false, false, 0, 20, 5⟩ else
  bif fr 28 op 37 then ⟨4261441663, true, true, true, false, false, 0, 0, 0⟩ else
  bif fr 51 op 58 then ⟨4261441663, true, true, true, false, false, 0, 0, 0⟩ else
  bif op == 38 then ⟨4027580415, false, false, false, false, false, 0, 20, 8⟩ else
  bif fr 39 op 43 then ⟨4294967295, false, false, false, false, false, 0, 0, 0⟩ else
  bif op == 44 then ⟨4261445631, false, true, true, false, false, 0, 0, 0⟩ else
  bif fr 45 op 47 then ⟨28799, true, true, false, true, false, 0, 0, 0⟩ else
  bif fr 48 op 50 then ⟨28799, true, false, false, true, false, 0, 15, 5⟩ else
  bif op == 59 then ⟨4193284223, true, true, false, false, true, 0, 0, 0⟩ else
  bif fr 60 op 69 then ⟨4160778367, true, true, true, false, true, 0, 0, 0⟩ else
  ⟨0, false, false, false, false, false, 0, 0, 0⟩
def codes : List Int := [0, 55, 23, 111, 103, 99, 4195, 16483, 20579, 24675, 28771, 3, 4099, 8195, 16387, 20483, 35, 4131, 8227, 19, 8211, 12307, 16403, 24595, 28691, 4115, 20499, 1073762323, 51, 1073741875, 4147, 8243, 12339, 16435, 20531, 1073762355, 24627, 28723, 15, 4111, 115, 1048691, 807403635, 273678451, 301990003, 4211, 8307, 12403, 20595, 24691, 28787, 33554483, 33558579, 33562675, 33566771, 33570867, 33574963, 33579059, 33583155, 268443695, 402661423, 134225967, 8239, 536879151, 1610620975, 1073750063, 2147491887, 2684362799, 3221233711, 3758104623]
def code (k : Nat) : Int := codes.getD k 0
def hasI (fmt size : Int) : Bool := (fmt != 0) || decide (0 < size)
def hasImm (s : Sh) : Bool := hasI s.fmt s.size
def immS (s : Sh) (x : Int) : Int := bif decide (0 < s.size) then bitsOf x s.low s.size else imm s.fmt x
def only (s : Sh) (i : I) : I :=
  ⟨i.op, bif s.rd then i.rd else 0, bif s.rs1 then i.rs1 else 0, bif s.rs2 then i.rs2 else 0, bif s.csr then i.csr else 0, bif hasImm s then i.imm else 0, s.ord && i.aq, s.ord && i.rl⟩
def readAll (s : Sh) (op x : Int) : I := ⟨op, bitsOf x 7 5, bitsOf x 15 5, bitsOf x 20 5, bitsOf x 20 12, immS s x, bitsOf x 26 1 == 1, bitsOf x 25 1 == 1⟩
def read (s : Sh) (op x : Int) : I := only s (readAll s op x)
def one (b : Bool) : Int := bif b then 1 else 0
/-- A field alone. -/
def lone (v low n : Int) : Int := pack (fun _ => low) (fun _ => n) (fun _ => v) 1
def layIV (s : Sh) (v : Int) : Int := bif hasImm s then (bif decide (0 < s.size) then lone v s.low s.size else layV s.fmt v) else 0
def layIB (s : Sh) (v : Int) : Bool := bif hasImm s then (bif decide (0 < s.size) then immS s (lone v s.low s.size) == v else layB s.fmt v) else true
def inRange (i : I) : Bool := fr 0 i.rd 31 && (fr 0 i.rs1 31 && (fr 0 i.rs2 31 && fr 0 i.csr 4095))
def same (a b : I) : Bool := (a.op == b.op) && ((a.rd == b.rd) && ((a.rs1 == b.rs1) && ((a.rs2 == b.rs2) && ((a.csr == b.csr) && ((a.imm == b.imm) && ((a.aq == b.aq) && (a.rl == b.rl)))))))
def gL (j : Nat) : Int := [20, 26, 25].getD j 0
def gN (j : Nat) : Int := [12, 1, 1].getD j 0
def three (a b c : Int) (j : Nat) : Int := [a, b, c].getD j 0
def six (a b c d e f : Int) (j : Nat) : Int := [a, b, c, d, e, f].getD j 0
def u32 (z : Int) : Int := z % 4294967296
def layF (i : I) : Int := bits .or .u32 (pack hL hN (six 0 (u32 i.rd) 0 (u32 i.rs1) (u32 i.rs2) 0) 6) (pack gL gN (three (u32 i.csr) (one i.aq) (one i.rl)) 3)
/-- Has the word x what op's words have in common? -/
def hit (x : Int) (k : Nat) : Bool := !(bits .and .u32 (bits .xor .u32 x (code k)) 127 != 0) && (bits .and .u32 x (shp k).fixed == code k)
def decFrom (x : Int) : Nat → Nat → Nat
  | _, 0 => 0
  | k, n + 1 => bif hit x k then k else decFrom x (k + 1) n
/-- The instruction whose word x is; 0: there is none. -/
def dec (x : Int) : Nat := decFrom x 1 69
def decI (x : Int) : I := read (shp (dec x)) (dec x) x
def decB (x : Int) : Bool := dec x != 0
/-- Why i has no word: 0: it has one. -/
def encE (i : I) : Nat := bif known i.op then (bif layIB (shp i.op) i.imm && inRange i then (bif same (only (shp i.op) i) i then 0 else 3) else 2) else 1
def encV (i : I) : Int := bif encE i == 0 then bits .or .u32 (bits .or .u32 (code i.op.toNat) (layIV (shp i.op) i.imm)) (layF i) else 0
def kind (op : Int) : Int :=
  bif !known op then 0 else bif fr 1 op 2 then 1 else bif fr 19 op 37 then 1 else bif fr 51 op 58 then 1 else bif fr 3 op 4 then 2 else bif fr 5 op 10 then 3 else bif fr 11 op 15 then 4 else bif op == 59 then 4 else
  bif fr 16 op 18 then 5 else bif fr 60 op 69 then 6 else 7
/-- The shapes that there are, by which fields they use. -/
def okSh (s : Sh) : Bool := [(true, false, false, false, false, true), (true, true, false, false, false, true), (false, true, true, false, false, true), (true, true, true, false, false, false), (false, false, false, false, false, true),
  (false, false, false, false, false, false), (false, true, true, false, false, false), (true, true, false, true, false, false), (true, false, false, true, false, true), (true, true, false, false, true, false), (true, true, true, false, true, false)].contains (s.rd, s.rs1, s.rs2, s.csr, s.ord, hasImm s)
theorem okSh_shp (op : Int) : okSh (shp op) = true := by
  unfold shp
  cases (op == 1); case true => rfl
  cases (op == 2); case true => rfl
  cases (op == 3); case true => rfl
  cases (op == 4); case true => rfl
  cases (fr 11 op 15); case true => rfl
  cases (fr 19 op 24); case true => rfl
  cases (fr 5 op 10); case true => rfl
  cases (fr 16 op 18); case true => rfl
  cases (fr 25 op 27); case true => rfl
  cases (fr 28 op 37); case true => rfl
  cases (fr 51 op 58); case true => rfl
  cases (op == 38); case true => rfl
  cases (fr 39 op 43); case true => rfl
  cases (op == 44); case true => rfl
  cases (fr 45 op 47); case true => rfl
  cases (fr 48 op 50); case true => rfl
  cases (op == 59); case true => rfl
  cases (fr 60 op 69); case true => rfl
  rfl
end Go.Proofs.YtnejdkadmdelaaaGreatDoor.W

/- Mirrors of package alu on numbers; without any Go. -/
namespace Go.Proofs.YtnejdkadmdelaaaGreatDoor.W
open Go.RowKit
set_option linter.unusedVariables false

/-- The instruction without an immediate that reckons the same. -/
def pl (op : Int) : Int :=
  bif op == 19 then 28 else bif op == 20 then 31 else bif op == 21 then 32 else bif op == 22 then 33 else bif op == 23 then 36 else bif op == 24 then 37 else bif op == 25 then 30 else bif op == 26 then 34 else bif op == 27 then 35 else op
def doP (p a b : Int) : Int :=
  bif p == 28 then (a + b) % 4294967296 else
  bif p == 29 then (a - b) % 4294967296 else
  bif p == 30 then left a b else
  bif p == 31 then one (less a b true) else
  bif p == 32 then one (less a b false) else
  bif p == 33 then bits .xor .u32 a b else
  bif p == 34 then right a b false else
  bif p == 35 then right a b true else
  bif p == 36 then bits .or .u32 a b else
  bif p == 37 then bits .and .u32 a b else
  bif p == 51 then a * b % 4294967296 else
  bif p == 52 then high a b true true else
  bif p == 53 then high a b true false else
  bif p == 54 then high a b false false else
  bif p == 55 then div a b true else
  bif p == 56 then div a b false else
  bif p == 57 then rem a b true else
  bif p == 58 then rem a b false else 0
def doV (op a b : Int) : Int := doP (pl op) a b
def doB (op : Int) : Bool := fr 19 op 37 || fr 51 op 58
theorem doB_cases {op : Int} (h : doB op = true) : op = 19 ∨ op = 20 ∨ op = 21 ∨ op = 22 ∨ op = 23 ∨ op = 24 ∨ op = 25 ∨ op = 26 ∨ op = 27 ∨ op = 28 ∨ op = 29 ∨ op = 30 ∨ op = 31 ∨ op = 32 ∨ op = 33 ∨ op = 34 ∨ op = 35 ∨ op = 36 ∨ op = 37 ∨ op = 51 ∨ op = 52 ∨ op = 53 ∨ op = 54 ∨ op = 55 ∨ op = 56 ∨ op = 57 ∨ op = 58 := by
  simp [doB, fr] at h; omega
theorem doB_none {op : Int} (h : doB op = false) : (op == 19) = false ∧ (op == 20) = false ∧ (op == 21) = false ∧ (op == 22) = false ∧ (op == 23) = false ∧ (op == 24) = false ∧ (op == 25) = false ∧ (op == 26) = false ∧ (op == 27) = false ∧ (op == 28) = false ∧ (op == 29) = false ∧ (op == 30) = false ∧ (op == 31) = false ∧ (op == 32) = false ∧ (op == 33) = false ∧ (op == 34) = false ∧ (op == 35) = false ∧ (op == 36) = false ∧ (op == 37) = false ∧ (op == 51) = false ∧ (op == 52) = false ∧ (op == 53) = false ∧ (op == 54) = false ∧ (op == 55) = false ∧ (op == 56) = false ∧ (op == 57) = false ∧ (op == 58) = false := by
  simp [doB, fr] at h; simp; omega
theorem doV_none {op : Int} (a b : Int) (h : doB op = false) : doV op a b = 0 := by
  obtain ⟨h19, h20, h21, h22, h23, h24, h25, h26, h27, h28, h29, h30, h31, h32, h33, h34, h35, h36, h37, h51, h52, h53, h54, h55, h56, h57, h58⟩ := doB_none h
  simp only [doV, doP, pl, cond_false, *]

def takB (op : Int) : Bool := fr 5 op 10
def takV (op a b : Int) : Bool :=
  bif op == 5 then a == b else bif op == 6 then a != b else bif op == 7 then less a b true else bif op == 8 then !less a b true else bif op == 9 then less a b false else bif op == 10 then !less a b false else false
theorem takB_cases {op : Int} (h : takB op = true) : op = 5 ∨ op = 6 ∨ op = 7 ∨ op = 8 ∨ op = 9 ∨ op = 10 := by
  simp [takB, fr] at h; omega
theorem takB_none {op : Int} (h : takB op = false) : (op == 5) = false ∧ (op == 6) = false ∧ (op == 7) = false ∧ (op == 8) = false ∧ (op == 9) = false ∧ (op == 10) = false := by
  simp [takB, fr] at h; simp; omega
theorem takV_none {op : Int} (a b : Int) (h : takB op = false) : takV op a b = false := by
  obtain ⟨h5, h6, h7, h8, h9, h10⟩ := takB_none h
  simp only [takV, cond_false, *]

def least (a b : Int) (s : Bool) : Int := bif less b a s then b else a
def most (a b : Int) (s : Bool) : Int := bif less a b s then b else a
def amoB (op : Int) : Bool := fr 61 op 69
def amoV (op a b : Int) : Int :=
  bif op == 61 then b else bif op == 62 then (a + b) % 4294967296 else bif op == 63 then bits .xor .u32 a b else bif op == 64 then bits .and .u32 a b else bif op == 65 then bits .or .u32 a b else
  bif op == 66 then least a b true else bif op == 67 then most a b true else bif op == 68 then least a b false else bif op == 69 then most a b false else 0
theorem amoB_cases {op : Int} (h : amoB op = true) : op = 61 ∨ op = 62 ∨ op = 63 ∨ op = 64 ∨ op = 65 ∨ op = 66 ∨ op = 67 ∨ op = 68 ∨ op = 69 := by
  simp [amoB, fr] at h; omega
theorem amoB_none {op : Int} (h : amoB op = false) : (op == 61) = false ∧ (op == 62) = false ∧ (op == 63) = false ∧ (op == 64) = false ∧ (op == 65) = false ∧ (op == 66) = false ∧ (op == 67) = false ∧ (op == 68) = false ∧ (op == 69) = false := by
  simp [amoB, fr] at h; simp; omega
theorem amoV_none {op : Int} (a b : Int) (h : amoB op = false) : amoV op a b = 0 := by
  obtain ⟨h61, h62, h63, h64, h65, h66, h67, h68, h69⟩ := amoB_none h
  simp only [amoV, cond_false, *]

def sz (op : Int) : Int := bif (op == 11) || ((op == 14) || (op == 16)) then 1 else bif (op == 12) || ((op == 15) || (op == 17)) then 2 else bif (op == 13) || ((op == 18) || fr 59 op 69) then 4 else 0
/-- What has to do with memory. -/
def memB (op : Int) : Bool := fr 11 op 18 || fr 59 op 69
theorem memB_cases {op : Int} (h : memB op = true) : op = 11 ∨ op = 12 ∨ op = 13 ∨ op = 14 ∨ op = 15 ∨ op = 16 ∨ op = 17 ∨ op = 18 ∨ op = 59 ∨ op = 60 ∨ op = 61 ∨ op = 62 ∨ op = 63 ∨ op = 64 ∨ op = 65 ∨ op = 66 ∨ op = 67 ∨ op = 68 ∨ op = 69 := by
  simp [memB, fr] at h; omega
theorem memB_none {op : Int} (h : memB op = false) : (op == 11) = false ∧ (op == 12) = false ∧ (op == 13) = false ∧ (op == 14) = false ∧ (op == 15) = false ∧ (op == 16) = false ∧ (op == 17) = false ∧ (op == 18) = false ∧ (op == 59) = false ∧ (op == 60) = false ∧ (kind op == 4) = false ∧ (kind op == 5) = false ∧ (kind op == 6) = false ∧ sz op = 0 ∧ (decide (59 ≤ op) && decide (op ≤ 69)) = false ∧ (decide (61 ≤ op) && decide (op ≤ 69)) = false := by
  have h' := h
  simp [memB, fr] at h
  have a1 : fr 11 op 15 = false := by simp [fr]; omega
  have a2 : (op == 59) = false := by simp; omega
  have a3 : fr 16 op 18 = false := by simp [fr]; omega
  have a4 : fr 60 op 69 = false := by simp [fr]; omega
  have a5 : fr 59 op 69 = false := by simp [fr]; omega
  have e : ∀ k, (11 ≤ k ∧ k ≤ 18) ∨ k = 60 → (op == k) = false := fun k hk => by simp; omega
  refine ⟨e _ (by omega), e _ (by omega), e _ (by omega), e _ (by omega), e _ (by omega), e _ (by omega), e _ (by omega), e _ (by omega), a2, e _ (by omega), ?_, ?_, ?_, ?_, ?_, ?_⟩
  · simp only [kind, a1, a2, a3, a4, cond_false]; cases known op <;> cases fr 1 op 2 <;> cases fr 19 op 37 <;> cases fr 51 op 58 <;> cases fr 3 op 4 <;> cases fr 5 op 10 <;> decide
  · simp only [kind, a1, a2, a3, a4, cond_false]; cases known op <;> cases fr 1 op 2 <;> cases fr 19 op 37 <;> cases fr 51 op 58 <;> cases fr 3 op 4 <;> cases fr 5 op 10 <;> decide
  · simp only [kind, a1, a2, a3, a4, cond_false]; cases known op <;> cases fr 1 op 2 <;> cases fr 19 op 37 <;> cases fr 51 op 58 <;> cases fr 3 op 4 <;> cases fr 5 op 10 <;> decide
  · simp only [sz, a5, e 11 (by omega), e 12 (by omega), e 13 (by omega), e 14 (by omega), e 15 (by omega), e 16 (by omega), e 17 (by omega), e 18 (by omega), Bool.or_false, cond_false]
  · simp; omega
  · simp; omega
def ext (op x : Int) : Int :=
  bif op == 11 then sgn x 8 else bif op == 12 then sgn x 16 else bif fr 13 op 15 || ((op == 59) || fr 61 op 69) then bitsOf x 0 (8 * sz op) else 0
def cut (op x : Int) : Int := bif fr 16 op 18 || (op == 60) then bitsOf x 0 (8 * sz op) else 0
theorem ext_none {op : Int} (x : Int) (h : memB op = false) : ext op x = 0 := by
  obtain ⟨h11, h12, h13, h14, h15, h16, h17, h18, h59, h60, _⟩ := memB_none h
  simp [memB, fr] at h
  have a1 : fr 13 op 15 = false := by simp [fr]; omega
  have a2 : fr 61 op 69 = false := by simp [fr]; omega
  simp only [ext, h11, h12, h59, a1, a2, Bool.or_false, cond_false]
theorem cut_none {op : Int} (x : Int) (h : memB op = false) : cut op x = 0 := by
  obtain ⟨h11, h12, h13, h14, h15, h16, h17, h18, h59, h60, _⟩ := memB_none h
  simp [memB, fr] at h
  have a1 : fr 16 op 18 = false := by simp [fr]; omega
  simp only [cut, h60, a1, Bool.or_false, cond_false]
end Go.Proofs.YtnejdkadmdelaaaGreatDoor.W

/- What each function of package word returns, as a plain function of its numbers: a contract a function. -/
namespace Go.Proofs.YtnejdkadmdelaaaGreatDoor
open Go.ChangeShapes Go.WideShapes Go.ChangeAt Go.RowKit

theorem ret_int {k : IntKind} {a b : Int} (h : a = b) : Ending.returned (.int k a) = .returned (.int k b) := by rw [h]

theorem left_any (a n : Int) (w : World) :
    Calls Tryz.prog 100 #[.int .u32 a, .int .i64 n] w fun e w' => e = .returned (.int .u32 (W.left a n)) ∧ w = w' := by
  have hb := W.and31 n
  go_enter Tryz.func100, Tryz.ntmps100
  go_wp2
  go_ret
  exact ⟨rfl, rfl⟩

theorem sgn_any (a n : Int) (w : World) :
    Calls Tryz.prog 130 #[.int .u32 a, .int .i64 n] w fun e w' => e = .returned (.int .u32 (W.sgn a n)) ∧ w = w' := by
  by_cases h1 : n < 1
  · go_enter Tryz.func130, Tryz.ntmps130
    go_wp2
    go_ret
    exact ⟨ret_int (by rw [W.sgn, if_pos h1]), rfl⟩
  · by_cases h2 : 31 < n
    · go_enter Tryz.func130, Tryz.ntmps130
      go_wp2
      go_ret
      exact ⟨ret_int (by rw [W.sgn, if_neg (by omega), if_pos (by omega)]), rfl⟩
    · go_enter Tryz.func130, Tryz.ntmps130
      go_wp2
      go_ret
      exact ⟨ret_int (by rw [W.sgn, if_neg (by omega), if_neg (by omega)]), rfl⟩

theorem within_any (low n : Int) (w : World) :
    Calls Tryz.prog 106 #[.int .i64 low, .int .i64 n] w fun e w' => e = .returned (.bool (W.within low n)) ∧ w' = w := by
  by_cases h1 : 0 ≤ low
  · by_cases h2 : low ≤ 31
    · go_enter Tryz.func106, Tryz.ntmps106
      go_wp2
      go_ret
      exact ⟨by simp [W.within, h1, h2], rfl⟩
    · go_enter Tryz.func106, Tryz.ntmps106
      go_wp2
      go_ret
      exact ⟨by simp [W.within]; omega, rfl⟩
  · go_enter Tryz.func106, Tryz.ntmps106
    go_wp2
    go_ret
    exact ⟨by simp [W.within]; omega, rfl⟩

theorem lowest_any (n : Int) (h : 1 ≤ n) (w : World) :
    Calls Tryz.prog 107 #[.int .i64 n] w fun e w' => e = .returned (.int .u32 (W.lowest n)) ∧ w' = w := by
  by_cases h2 : 31 < n
  · go_enter Tryz.func107, Tryz.ntmps107
    go_wp2
    go_ret
    exact ⟨ret_int (by rw [W.lowest, if_pos h2]), rfl⟩
  · go_enter Tryz.func107, Tryz.ntmps107
    go_wp2
    go_ret
    exact ⟨ret_int (by rw [W.lowest, if_neg (by omega)]; simp), rfl⟩

theorem bits_any (x low n : Int) (w : World) :
    Calls Tryz.prog 92 #[.int .u32 x, .int .i64 low, .int .i64 n] w fun e w' => e = .returned (.int .u32 (W.bitsOf x low n)) ∧ ∃ k, w' = w.drewN k := by
  cases hw : W.within low n
  · have hb : W.bitsOf x low n = 0 := by rw [W.bitsOf, hw]; rfl
    go_enter Tryz.func92, Tryz.ntmps92
    go_wp2_with (go_at_call 106; refine (within_any _ _ _).mono ?_; rintro e w' ⟨rfl, rfl⟩)
    go_ret
    exact ⟨ret_int hb.symm, 0, rfl⟩
  · have h1 : 0 ≤ low ∧ low ≤ 31 ∧ 1 ≤ n := by simpa [W.within] using hw
    obtain ⟨h1, h2, h3⟩ := h1
    have hb : Hid (W.bitsOf x low n = bits .and .u32 (x / 2 ^ low.toNat) (W.lowest n)) := by
      have : W.bitsOf x low n = bits .and .u32 (x / 2 ^ low.toNat) (W.lowest n) := by rw [W.bitsOf, hw]; rfl
      exact this
    go_enter Tryz.func92, Tryz.ntmps92
    go_wp2_with (go_at_call 106; refine (within_any _ _ _).mono ?_; rintro e w' ⟨rfl, rfl⟩)
    go_quiet ((go_at_call 107; exact Calls.quiet_of_same (lowest_any _ h3 _)))
    go_wp2
    go_ret
    exact ⟨ret_int hb.out.symm, _, rfl⟩

end Go.Proofs.YtnejdkadmdelaaaGreatDoor

/- What word.Pack returns for whatever fields lie in memory. -/
namespace Go.Proofs.YtnejdkadmdelaaaGreatDoor
open Go.ChangeShapes Go.WideShapes Go.ChangeAt Go.RowKit

theorem pack_any (b off len cap : Nat) (L N V : Nat → Int) (w : World) (hl : len ≤ 4611686018427387904) (hbB : b < w.heap.size)
    (hc0 : ∀ j, j < len → w.cell? ⟨b, off + j * 3, none⟩ = some (.int .i64 (L j)))
    (hc1 : ∀ j, j < len → w.cell? ⟨b, off + j * 3 + 1, none⟩ = some (.int .i64 (N j)))
    (hc2 : ∀ j, j < len → w.cell? ⟨b, off + j * 3 + 2, none⟩ = some (.int .u32 (V j))) :
    Calls Tryz.prog 80 #[.slice (some ⟨b, off, none⟩) len cap] w fun e w' => e = .returned (.int .u32 (W.pack L N V len)) ∧ Below w.heap.size w w' := by
  go_enter Tryz.func80, Tryz.ntmps80
  go_wp2
  go_loopw [3, 8] (fun t i wr => ∃ k : Nat, k ≤ len ∧ i = .int .i64 k ∧ t = .int .u32 (W.pack L N V k) ∧ Below w.heap.size w wr) (fun _ i _ => len - (intOf i).toNat)
  case atStart => exact ⟨0, Nat.zero_le _, rfl, rfl, Below.refl _ _⟩
  case round =>
    obtain ⟨k, hk, rfl, rfl, hbl⟩ := hrel
    by_cases hlt : k < len
    · have g0 : wr.cell? ⟨b, off + k * 3, none⟩ = some (.int .i64 (L k)) := (hbl.cell (by exact hbB)).trans (hc0 k hlt)
      have g1 : wr.cell? ⟨b, off + k * 3 + 1, none⟩ = some (.int .i64 (N k)) := (hbl.cell (by exact hbB)).trans (hc1 k hlt)
      have g2 : wr.cell? ⟨b, off + k * 3 + 2, none⟩ = some (.int .u32 (V k)) := (hbl.cell (by exact hbB)).trans (hc2 k hlt)
      clear hc0 hc1 hc2
      cases hw : W.within (L k) (N k)
      · have hp : Hid (W.pack L N V (k + 1) = W.pack L N V k) := by
          have : W.pack L N V (k + 1) = W.pack L N V k := by rw [W.pack, hw]; rfl
          exact this
        go_wp2_with (go_at_call 106; refine (within_any _ _ _).mono ?_; rintro e w' ⟨rfl, rfl⟩)
        go_roundw
        case rel => exact ⟨k + 1, by omega, by go_num, by rw [hp.out], hbl.alloc (by have := hbl.size; omega) _⟩
        case measure => simp [intOf]; omega
      · have hp : Hid (W.pack L N V (k + 1) = bits .or .u32 (W.pack L N V k) (W.place (V k) (L k) (N k))) := by
          have : W.pack L N V (k + 1) = bits .or .u32 (W.pack L N V k) (W.place (V k) (L k) (N k)) := by rw [W.pack, hw]; rfl
          exact this
        have h1 : 0 ≤ L k ∧ L k ≤ 31 ∧ 1 ≤ N k := by simpa [W.within] using hw
        obtain ⟨h1, h2, h3⟩ := h1
        go_wp2_with (go_at_call 106; refine (within_any _ _ _).mono ?_; rintro e w' ⟨rfl, rfl⟩)
        go_quiet ((go_at_call 107; exact Calls.quiet_of_same (lowest_any _ h3 _)))
        go_wp2
        go_roundw
        case rel => exact ⟨k + 1, by omega, by go_num, by rw [hp.out]; rfl, below_drewN (hbl.alloc (by have := hbl.size; omega) _) _⟩
        case measure => simp [intOf]; omega
    · go_wp2
      go_ret
      have : k = len := by omega
      subst this
      exact ⟨rfl, hbl⟩

theorem ex_cells (w : World) : (∀ j, j < 2 → (w.alloc (.cells #[.int .i64 0, .int .i64 7, .int .u32 19, .int .i64 7, .int .i64 5, .int .u32 1] 122)).cell? ⟨w.heap.size, 0 + j * 3, none⟩ = some (.int .i64 (W.exL j)))
    ∧ (∀ j, j < 2 → (w.alloc (.cells #[.int .i64 0, .int .i64 7, .int .u32 19, .int .i64 7, .int .i64 5, .int .u32 1] 122)).cell? ⟨w.heap.size, 0 + j * 3 + 1, none⟩ = some (.int .i64 (W.exN j)))
    ∧ (∀ j, j < 2 → (w.alloc (.cells #[.int .i64 0, .int .i64 7, .int .u32 19, .int .i64 7, .int .i64 5, .int .u32 1] 122)).cell? ⟨w.heap.size, 0 + j * 3 + 2, none⟩ = some (.int .u32 (W.exV j))) := by
  refine ⟨?_, ?_, ?_⟩
  all_goals
    intro j hj
    match j, hj with
    | 0, _ => simp [go_sem, W.exL, W.exN, W.exV]
    | 1, _ => simp [go_sem, W.exL, W.exN, W.exV]

end Go.Proofs.YtnejdkadmdelaaaGreatDoor
