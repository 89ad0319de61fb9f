/- What has to stay in order: mirrors, without any Go. -/
import Derived.Test.YtibohlbkkaghkaaDoorDepM
namespace Go.Proofs.YtibohlbkkaghkaaDoor.W
open Go.RowKit
set_option linter.unusedVariables false
set_option linter.unusedSimpArgs false

structure Opr where
  k : Int
  sz : Int
  ad : Int
  vl : Int
  gt : Int
  pr : Bool
  aq : Bool
  rl : Bool
  pd : Int
  sc : Int
/-- An operation, with what it hangs on. -/
structure Oz where
  o : Opr
  a : List Int
  d : List Int
  c : List Int
structure Sp where
  f : Int
  s : Int
structure Act where
  p : Sp
  t : Int
def has (s : Sp) (x : Int) : Bool := decide ((x - s.f) % 4294967296 < s.s)
def meets (s o : Sp) : Bool := (has s o.f && decide (0 < o.s)) || (has o s.f && decide (0 < s.s))
def inn (a b c : Sp) (x : Int) : Bool := has a x && has b x && has c x
def share (a b c : Sp) : Bool := inn a b c a.f || inn a b c b.f || inn a b c c.f
def inside (s o : Sp) : Bool := (o.s == 4294967296) || decide ((s.f - o.f) % 4294967296 + s.s ≤ o.s)
/-- The bytes of an operation. -/
def spn (o : Opr) : Sp := ⟨o.ad, min (max o.sz 0) 4294967296⟩
/-- Its traits. -/
def trt (o : Opr) : Int := 8 + (bif o.k == 1 then 1 else bif o.k == 2 then 2 + (bif o.pr then 16 else 0) else bif o.k == 3 then 19 else 0) + (bif o.aq then 32 else 0) + (bif o.rl then 64 else 0)
def actO (o : Opr) : Act := bif o.k == 4 then ⟨⟨0, 0⟩, 4⟩ else ⟨spn o, trt o⟩
def a8 (x y : Int) : Int := bits .and .u8 x y
def o8 (x y : Int) : Int := bits .or .u8 x y
/-- With what leads marked. -/
def ldA (x : Act) (b : Bool) : Act := ⟨x.p, bif b then o8 x.t 128 else x.t⟩
/-- Is j in the AddrDeps of one behind it, ahead of b? -/
def led (x : Nat → Oz) (b j : Nat) : Bool := (List.range b).any fun m => decide (j < m) && (x m).a.contains (j : Int)
/-- What is noted. -/
def note (r : Int) (l : List Int) (h : Nat → Int) (j : Nat) : Int := bif (h j == 0) && l.contains (j : Int) then r else h j
/-- What goes back from b. -/
structure St where
  k : Int
  h : List Sp
  g : Nat → Int
def keep0 (t : Int) : Int :=
  let k1 := bif a8 t 64 != 0 then o8 32 8 else 32
  let k2 := bif a8 t 96 != 0 then o8 k1 64 else k1
  bif a8 t 2 != 0 then o8 k2 128 else k2
def hang0 (t pb : Int) (o : Oz) : Nat → Int :=
  let h := note 10 o.d (note 9 o.a (note 8 [pb] fun _ => 0))
  bif a8 t 2 != 0 then note 11 o.c h else h
def beg (b : Act) (pb : Int) (o : Oz) : St := ⟨keep0 b.t, [], hang0 b.t pb o⟩
def sees (h : List Sp) (x b : Sp) : Bool := !h.any fun s => share x b s
def hide (h : List Sp) (s : Sp) : List Sp := bif h.any (fun o => inside s o) then h else h ++ [s]
def whyM (h : List Sp) (b x : Act) : Int :=
  bif !meets x.p b.p then 0 else bif a8 b.t 2 != 0 then 1 else bif a8 b.t 1 == 0 then 0 else
  bif (a8 x.t 1 != 0) && sees h x.p b.p then 2 else bif a8 x.t 16 != 0 then 3 else 0
def whyK (held hg : Int) : Int :=
  bif a8 held 3 != 0 then 4 else bif a8 held 32 != 0 then 5 else bif a8 held 8 != 0 then 6 else bif a8 held 64 != 0 then 7 else
  bif hg != 0 then hg else bif a8 held 128 != 0 then 13 else 0
def why (s : St) (b x : Act) (hg : Int) : Int := bif whyM s.h b x != 0 then whyM s.h b x else whyK (a8 x.t s.k) hg
def fence (b : Act) (o : Oz) (s : St) : St := bif a8 (a8 b.t (o.o.sc % 256)) 3 != 0 then { s with k := o8 s.k (a8 (o.o.pd % 256) 3) } else s
def pass (b x : Act) (o : Oz) (s : St) : St :=
  bif (a8 x.t 2 == 0) || (a8 b.t 1 == 0) || !meets x.p b.p then s else
  ⟨s.k, hide s.h x.p, bif sees s.h x.p b.p then note 12 o.d (note 12 o.a s.g) else s.g⟩
def goes (b x : Act) (s : St) (hg : Int) : Bool := (a8 x.t s.k != 0) || (hg != 0) || meets x.p b.p
def step (b x : Act) (o : Oz) (hg : Int) (s : St) : St := bif a8 x.t 4 != 0 then fence b o s else bif goes b x s hg then pass b x o s else s
def rul (b x : Act) (hg : Int) (s : St) : Int := bif a8 x.t 4 != 0 then 0 else bif goes b x s hg then why s b x hg else 0
/-- Behind i steps back from b. -/
def bk (A : Nat → Act) (x : Nat → Oz) (b : Nat) (pb : Int) : Nat → St
  | 0 => beg (A b) pb (x b)
  | i + 1 => step (A b) (A (b - 1 - i)) (x (b - 1 - i)) ((bk A x b pb i).g (b - 1 - i)) (bk A x b pb i)
/-- The rule of one ahead. -/
def rulA (A : Nat → Act) (x : Nat → Oz) (b : Nat) (pb : Int) (a : Nat) : Int := rul (A b) (A a) ((bk A x b pb (b - 1 - a)).g a) (bk A x b pb (b - 1 - a))
def acts (x : Nat → Oz) (b : Nat) (j : Nat) : Act := ldA (actO (x j).o) (led x b j)
/-- The last paired one ahead. -/
def lastP (x : Nat → Oz) : Nat → Int
  | 0 => -1
  | n + 1 => bif (x n).o.pr then (n : Int) else lastP x n
def pairO (x : Nat → Oz) (n : Nat) : Int := bif (x n).o.pr && ((x n).o.k == 2) && decide (0 ≤ lastP x n) && ((x (lastP x n).toNat).o.k == 1) then lastP x n else -1
/-- Why, in all. -/
def whyO (x : Nat → Oz) (a b : Nat) : Int := bif a8 (acts x b b).t 4 != 0 then 0 else rulA (acts x b) x b (pairO x b) a
end Go.Proofs.YtibohlbkkaghkaaDoor.W
