/- Plain mirrors of package csr's functions, without any Go: a file is eleven numbers. -/
import Derived.Test.YtbagmlcakmhhaaaPlain
namespace Go.Proofs.Ytbagmlcakmhhaaa.W
open Go.RowKit

/-- A file: the mode, and the ten registers in the order of their numbers. -/
structure F where
  m : Int
  satp : Int
  st : Int
  mie : Int
  tvec : Int
  scr : Int
  epc : Int
  cause : Int
  tval : Int
  mip : Int
  hart : Int

def fnew (hart : Int) : F := ⟨3, 0, 0, 0, 0, 0, 0, 0, 0, 0, hart % 4294967296⟩
def stL (j : Nat) : Int := if j = 0 then 3 else if j = 1 then 7 else 11
def stN (j : Nat) : Int := if j = 0 then 1 else if j = 1 then 1 else 2
def stV (e p m : Int) (j : Nat) : Int := if j = 0 then e else if j = 1 then p else m % 4294967296
def status (e p m : Int) : Int := pack stL stN (stV e p m) 3
def kmode (v : Int) : Int := bif bitsOf v 11 2 == 3 then 3 else 0
def algn (v : Int) : Int := bits .andNot .u32 v 3
def isReg (n : Int) : Bool := n == 384 || (n == 768 || (n == 772 || (n == 773 || (n == 832 || (n == 833 || (n == 834 || (n == 835 || (n == 836 || n == 3860))))))))
def isSet (n : Int) : Bool := n == 384 || (n == 768 || (n == 772 || (n == 773 || (n == 832 || (n == 833 || (n == 834 || (n == 835 || n == 836)))))))
def reg (G : F) (n : Int) : Int := bif n == 384 then G.satp else bif n == 768 then G.st else bif n == 772 then G.mie else bif n == 773 then G.tvec else bif n == 832 then G.scr else bif n == 833 then G.epc else bif n == 834 then G.cause else bif n == 835 then G.tval else bif n == 836 then G.mip else bif n == 3860 then G.hart else 0
def getB (G : F) (n : Int) : Bool := !(G.m == 0) && isReg n
def getV (G : F) (n : Int) : Int := bif G.m == 0 then 0 else reg G n
def setB (G : F) (n : Int) : Bool := !(G.m == 0) && isSet n
def fset (G : F) (n v : Int) : F :=
  bif G.m == 0 then G else
  bif n == 384 then { G with satp := bits .and .u32 v 2151677951 } else
  bif n == 768 then { G with st := status (bitsOf v 3 1) (bitsOf v 7 1) (kmode v) } else
  bif n == 772 then { G with mie := bits .and .u32 v 8 } else
  bif n == 773 then { G with tvec := algn v } else
  bif n == 832 then { G with scr := v } else
  bif n == 833 then { G with epc := algn v } else
  bif n == 834 then { G with cause := v } else
  bif n == 835 then { G with tval := v } else G
def bell (G : F) (on : Bool) : F := { G with mip := bif on then 8 else 0 }
def openF (G : F) : Bool := G.m == 0 || bitsOf G.st 3 1 == 1
def pend (G : F) : Bool := openF G && (bits .and .u32 (bits .and .u32 G.mip G.mie) 8 != 0)
def pendV (G : F) : Int := bif pend G then 2147483651 else 0
def trap (G : F) (c t p : Int) : F := { G with epc := algn p, cause := c, tval := t, st := status 0 (bitsOf G.st 3 1) G.m, m := 3 }
def fret (G : F) : F := { G with m := kmode G.st, st := status (bitsOf G.st 7 1) 1 0 }
end Go.Proofs.Ytbagmlcakmhhaaa.W
