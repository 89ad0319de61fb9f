/- Mirrors of package isa on numbers: shapes, fields, reading and laying instructions; without any Go. -/
import Derived.Test.YtjdiepklgcdamaaDoorMathF
namespace Go.Proofs.YtjdiepklgcdamaaDoor.W
open Go.RowKit
set_option linter.unusedVariables false

/-- What the words of like instructions have in common. -/
structure Sh where
  fixed : Int
  rd : Bool
  rs1 : Bool
  rs2 : Bool
  csr : Bool
  ord : Bool
  fmt : Int
  low : Int
  size : Int
/-- An instruction. -/
structure I where
  op : Int
  rd : Int
  rs1 : Int
  rs2 : Int
  csr : Int
  imm : Int
  aq : Bool
  rl : Bool
def fr (a b c : Int) : Bool := decide (a ≤ b) && decide (b ≤ c)
def known (op : Int) : Bool := fr 1 op 69

def shp (op : Int) : Sh :=
  bif op == 1 then ⟨127, true, false, false, false, false, 85, 0, 0⟩ else
  bif op == 2 then ⟨127, true, false, false, false, false, 85, 0, 0⟩ else
  bif op == 3 then ⟨127, true, false, false, false, false, 74, 0, 0⟩ else
  bif op == 4 then ⟨28799, true, true, false, false, false, 73, 0, 0⟩ else
  bif fr 11 op 15 then ⟨28799, true, true, false, false, false, 73, 0, 0⟩ else
  bif fr 19 op 24 then ⟨28799, true, true, false, false, false, 73, 0, 0⟩ else
  bif fr 5 op 10 then ⟨28799, false, true, true, false, false, 66, 0, 0⟩ else
  bif fr 16 op 18 then ⟨28799, false, true, true, false, false, 83, 0, 0⟩ else
  bif fr 25 op 27 then ⟨4261441663, true, true, false, false, false, 0, 20, 5⟩ else
  bif fr 28 op 37 then ⟨4261441663, true, true, true, false, false, 0, 0, 0⟩ else
  bif fr 51 op 58 then ⟨4261441663, true, true, true, false, false, 0, 0, 0⟩ else
  bif op == 38 then ⟨4027580415, false, false, false, false, false, 0, 20, 8⟩ else
  bif fr 39 op 43 then ⟨4294967295, false, false, false, false, false, 0, 0, 0⟩ else
  bif op == 44 then ⟨4261445631, false, true, true, false, false, 0, 0, 0⟩ else
  bif fr 45 op 47 then ⟨28799, true, true, false, true, false, 0, 0, 0⟩ else
  bif fr 48 op 50 then ⟨28799, true, false, false, true, false, 0, 15, 5⟩ else
  bif op == 59 then ⟨4193284223, true, true, false, false, true, 0, 0, 0⟩ else
  bif fr 60 op 69 then ⟨4160778367, true, true, true, false, true, 0, 0, 0⟩ else
  ⟨0, false, false, false, false, false, 0, 0, 0⟩
def codes : List Int := [0, 55, 23, 111, 103, 99, 4195, 16483, 20579, 24675, 28771, 3, 4099, 8195, 16387, 20483, 35, 4131, 8227, 19, 8211, 12307, 16403, 24595, 28691, 4115, 20499, 1073762323, 51, 1073741875, 4147, 8243, 12339, 16435, 20531, 1073762355, 24627, 28723, 15, 4111, 115, 1048691, 807403635, 273678451, 301990003, 4211, 8307, 12403, 20595, 24691, 28787, 33554483, 33558579, 33562675, 33566771, 33570867, 33574963, 33579059, 33583155, 268443695, 402661423, 134225967, 8239, 536879151, 1610620975, 1073750063, 2147491887, 2684362799, 3221233711, 3758104623]
def code (k : Nat) : Int := codes.getD k 0
def hasI (fmt size : Int) : Bool := (fmt != 0) || decide (0 < size)
def hasImm (s : Sh) : Bool := hasI s.fmt s.size
def immS (s : Sh) (x : Int) : Int := bif decide (0 < s.size) then bitsOf x s.low s.size else imm s.fmt x
def only (s : Sh) (i : I) : I :=
  ⟨i.op, bif s.rd then i.rd else 0, bif s.rs1 then i.rs1 else 0, bif s.rs2 then i.rs2 else 0, bif s.csr then i.csr else 0, bif hasImm s then i.imm else 0, s.ord && i.aq, s.ord && i.rl⟩
def readAll (s : Sh) (op x : Int) : I := ⟨op, bitsOf x 7 5, bitsOf x 15 5, bitsOf x 20 5, bitsOf x 20 12, immS s x, bitsOf x 26 1 == 1, bitsOf x 25 1 == 1⟩
def read (s : Sh) (op x : Int) : I := only s (readAll s op x)
def one (b : Bool) : Int := bif b then 1 else 0
/-- A field alone. -/
def lone (v low n : Int) : Int := pack (fun _ => low) (fun _ => n) (fun _ => v) 1
def layIV (s : Sh) (v : Int) : Int := bif hasImm s then (bif decide (0 < s.size) then lone v s.low s.size else layV s.fmt v) else 0
def layIB (s : Sh) (v : Int) : Bool := bif hasImm s then (bif decide (0 < s.size) then immS s (lone v s.low s.size) == v else layB s.fmt v) else true
def inRange (i : I) : Bool := fr 0 i.rd 31 && (fr 0 i.rs1 31 && (fr 0 i.rs2 31 && fr 0 i.csr 4095))
def same (a b : I) : Bool := (a.op == b.op) && ((a.rd == b.rd) && ((a.rs1 == b.rs1) && ((a.rs2 == b.rs2) && ((a.csr == b.csr) && ((a.imm == b.imm) && ((a.aq == b.aq) && (a.rl == b.rl)))))))
def gL (j : Nat) : Int := [20, 26, 25].getD j 0
def gN (j : Nat) : Int := [12, 1, 1].getD j 0
def three (a b c : Int) (j : Nat) : Int := [a, b, c].getD j 0
def six (a b c d e f : Int) (j : Nat) : Int := [a, b, c, d, e, f].getD j 0
def u32 (z : Int) : Int := z % 4294967296
def layF (i : I) : Int := bits .or .u32 (pack hL hN (six 0 (u32 i.rd) 0 (u32 i.rs1) (u32 i.rs2) 0) 6) (pack gL gN (three (u32 i.csr) (one i.aq) (one i.rl)) 3)
/-- Has the word x what op's words have in common? -/
def hit (x : Int) (k : Nat) : Bool := !(bits .and .u32 (bits .xor .u32 x (code k)) 127 != 0) && (bits .and .u32 x (shp k).fixed == code k)
def decFrom (x : Int) : Nat → Nat → Nat
  | _, 0 => 0
  | k, n + 1 => bif hit x k then k else decFrom x (k + 1) n
/-- The instruction whose word x is; 0: there is none. -/
def dec (x : Int) : Nat := decFrom x 1 69
def decI (x : Int) : I := read (shp (dec x)) (dec x) x
def decB (x : Int) : Bool := dec x != 0
/-- Why i has no word: 0: it has one. -/
def encE (i : I) : Nat := bif known i.op then (bif layIB (shp i.op) i.imm && inRange i then (bif same (only (shp i.op) i) i then 0 else 3) else 2) else 1
def encV (i : I) : Int := bif encE i == 0 then bits .or .u32 (bits .or .u32 (code i.op.toNat) (layIV (shp i.op) i.imm)) (layF i) else 0
def kind (op : Int) : Int :=
  bif !known op then 0 else bif fr 1 op 2 then 1 else bif fr 19 op 37 then 1 else bif fr 51 op 58 then 1 else bif fr 3 op 4 then 2 else bif fr 5 op 10 then 3 else bif fr 11 op 15 then 4 else bif op == 59 then 4 else
  bif fr 16 op 18 then 5 else bif fr 60 op 69 then 6 else 7
/-- The shapes that there are, by which fields they use. -/
def okSh (s : Sh) : Bool := [(true, false, false, false, false, true), (true, true, false, false, false, true), (false, true, true, false, false, true), (true, true, true, false, false, false), (false, false, false, false, false, true),
  (false, false, false, false, false, false), (false, true, true, false, false, false), (true, true, false, true, false, false), (true, false, false, true, false, true), (true, true, false, false, true, false), (true, true, true, false, true, false)].contains (s.rd, s.rs1, s.rs2, s.csr, s.ord, hasImm s)
theorem okSh_shp (op : Int) : okSh (shp op) = true := by
  unfold shp
  cases (op == 1); case true => rfl
  cases (op == 2); case true => rfl
  cases (op == 3); case true => rfl
  cases (op == 4); case true => rfl
  cases (fr 11 op 15); case true => rfl
  cases (fr 19 op 24); case true => rfl
  cases (fr 5 op 10); case true => rfl
  cases (fr 16 op 18); case true => rfl
  cases (fr 25 op 27); case true => rfl
  cases (fr 28 op 37); case true => rfl
  cases (fr 51 op 58); case true => rfl
  cases (op == 38); case true => rfl
  cases (fr 39 op 43); case true => rfl
  cases (op == 44); case true => rfl
  cases (fr 45 op 47); case true => rfl
  cases (fr 48 op 50); case true => rfl
  cases (op == 59); case true => rfl
  cases (fr 60 op 69); case true => rfl
  rfl
end Go.Proofs.YtjdiepklgcdamaaDoor.W
