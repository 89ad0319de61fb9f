/- Texts in one: Plain, DepM, PpoM, Word, DepA, PpoA, PpoB, PpoC, PpoD, PpoE, WmoA, PpoE1, PpoE2, PpoE3, PpoE4, PpoEo, PpoF, PpoG, PpoH, PpoI, PpoR, WmoB. -/
import Derived.RowKit
import Derived.IntWalk
import Derived.Laws.BitsAllLaws
import Derived.Test.YtibohlbkkaghkaaDoorRows
import Derived.WalkKit
import Derived.ProofKit
import Derived.OpenShut
import Derived.Deep.QuietTactic
import Derived.BigQuiet
import Derived.Lib.Walk
import Derived.Lib.SliceRun
import Derived.Deep.DrawnRows
import Derived.Deep.RegionLaw
import Derived.Deep.RegionHeld3
import Derived.Deep.WholeRow

/- Plain mirrors of package word's functions on numbers, without any Go: what each call comes to; their laws stand behind. -/
namespace Go.Proofs.YtibohlbkkaghkaaDoor.W
open Go.RowKit

/-- The number that a stands for, with its sign or without. -/
def wide (a : Int) (s : Bool) : Int := wrap64 (bif s then wrap32 a else a)
def less (a b : Int) (s : Bool) : Bool := decide (wide a s < wide b s)
def right (a n : Int) (s : Bool) : Int := wide a s / 2 ^ (n % 32).toNat % 4294967296
def left (a n : Int) : Int := a * 2 ^ (n % 32).toNat % 4294967296
def sgn (a n : Int) : Int := if n < 1 then 0 else if 31 < n then a else wrap32 (a * 2 ^ (32 - n).toNat % 4294967296) / 2 ^ (32 - n).toNat % 4294967296
def within (low n : Int) : Bool := decide (0 ≤ low) && (decide (low ≤ 31) && decide (1 ≤ n))
def lowest (n : Int) : Int := if 31 < n then 4294967295 else (2 ^ n.toNat % 4294967296 - 1) % 4294967296
def bitsOf (x low n : Int) : Int := bif within low n then bits .and .u32 (x / 2 ^ low.toNat) (lowest n) else 0

def high (a b : Int) (s t : Bool) : Int := IntKind.u64.wrap (wrap64 (wide a s * wide b t)) / 4294967296 % 4294967296
def div (a b : Int) (s : Bool) : Int := if b = 0 then 4294967295 else wrap64 ((wide a s).tdiv (wide b s)) % 4294967296
def rem (a b : Int) (s : Bool) : Int := if b = 0 then a else (wide a s).tmod (wide b s) % 4294967296
def place (v low n : Int) : Int := bits .and .u32 v (lowest n) * 2 ^ low.toNat % 4294967296
def pack (L N V : Nat → Int) : Nat → Int
  | 0 => 0
  | k + 1 => bif within (L k) (N k) then bits .or .u32 (pack L N V k) (place (V k) (L k) (N k)) else pack L N V k

/-- The fields of the chapter's example. -/
def exL (j : Nat) : Int := if j = 0 then 0 else 7
def exN (j : Nat) : Int := if j = 0 then 7 else 5
def exV (j : Nat) : Int := if j = 0 then 19 else 1

theorem and31 (n : Int) : bits .and .i64 n 31 = n % 32 := by
  have h : ((BitVec.ofInt 64 n &&& BitVec.ofInt 64 31 : BitVec 64).toNat : Int) = n % 32 := by
    rw [BitVec.toNat_and]
    have h31 : (BitVec.ofInt 64 31).toNat = 31 := by decide
    rw [h31, nat_mask5, BitVec.toNat_ofInt]
    simp
    omega
  show IntKind.i64.wrap ((BitVec.ofInt 64 n &&& BitVec.ofInt 64 31 : BitVec 64).toNat : Int) = n % 32
  rw [h]
  exact IntWalk.i64_in _ (by omega)

theorem wide_ne (b : Int) (s : Bool) (h0 : 0 ≤ b) (h1 : b < 4294967296) (hb : ¬ b = 0) : ¬ wide b s = 0 := by
  cases s
  · simp only [wide, cond_false, wrap64]; omega
  · simp only [wide, cond_true, wrap64, wrap32]; omega
end Go.Proofs.YtibohlbkkaghkaaDoor.W

/- Rising lists; what an instruction has to do with memory: without any Go. -/
namespace Go.Proofs.YtibohlbkkaghkaaDoor.W
open Go.RowKit
set_option linter.unusedVariables false
set_option linter.unusedSimpArgs false

structure Sl where
  a : Option Addr
  n : Nat
  c : Nat
def Sl.nil : Sl := ⟨none, 0, 0⟩
def Rg (v : Int) : Prop := 0 ≤ v ∧ v < 4294967296

/-- Rising, each from 0 to below n. -/
def Rise (n : Int) (l : List Int) : Prop := l.Pairwise (· < ·) ∧ ∀ x ∈ l, 0 ≤ x ∧ x < n
theorem rise_nil (n : Int) : Rise n [] := ⟨List.Pairwise.nil, by simp⟩
theorem Rise.mono {n m : Int} {l : List Int} (h : Rise n l) (hm : n ≤ m) : Rise m l := ⟨h.1, fun x hx => ⟨(h.2 x hx).1, Int.lt_of_lt_of_le (h.2 x hx).2 hm⟩⟩
theorem rise_len : ∀ (l : List Int) (a b : Int), l.Pairwise (· < ·) → (∀ x ∈ l, a ≤ x ∧ x < b) → (l.length : Int) ≤ b - a ∨ l = []
  | [], _, _, _, _ => Or.inr rfl
  | x :: t, a, b, hp, hx => by
    left
    have h0 := hx x (by simp)
    rw [List.pairwise_cons] at hp
    rcases rise_len t (x + 1) b hp.2 (fun y hy => ⟨by have := hp.1 y hy; omega, (hx y (by simp [hy])).2⟩) with h | h
    · simp only [List.length_cons, Int.natCast_add]; omega
    · subst h; simp; omega
theorem Rise.len {n : Nat} {l : List Int} (h : Rise n l) : l.length ≤ n := by
  rcases rise_len l 0 n h.1 h.2 with h | h
  · omega
  · subst h; simp
/-- A rising list is known by what is in it. -/
theorem rise_eq : ∀ (l k : List Int), l.Pairwise (· < ·) → k.Pairwise (· < ·) → (∀ x, x ∈ l ↔ x ∈ k) → l = k
  | [], [], _, _, _ => rfl
  | [], y :: k, _, _, h => absurd ((h y).2 (by simp)) (by simp)
  | x :: l, [], _, _, h => absurd ((h x).1 (by simp)) (by simp)
  | x :: l, y :: k, hl, hk, h => by
    rw [List.pairwise_cons] at hl hk
    have e : x = y := by
      have h1 := (h x).1 (by simp)
      have h2 := (h y).2 (by simp)
      simp only [List.mem_cons] at h1 h2
      rcases h1 with h1 | h1
      · exact h1
      · rcases h2 with h2 | h2
        · exact h2.symm
        · have := hk.1 x h1; have := hl.1 y h2; omega
    subst e
    congr 1
    refine rise_eq l k hl.2 hk.2 fun z => ⟨fun hz => ?_, fun hz => ?_⟩
    · have h1 := (h z).1 (by simp [hz])
      simp only [List.mem_cons] at h1
      rcases h1 with h1 | h1
      · have := hl.1 z hz; omega
      · exact h1
    · have h1 := (h z).2 (by simp [hz])
      simp only [List.mem_cons] at h1
      rcases h1 with h1 | h1
      · have := hk.1 z hz; omega
      · exact h1
/-- Put among rising ones. -/
def insU (x : Int) : List Int → List Int
  | [] => [x]
  | y :: t => if x < y then x :: y :: t else if x = y then y :: t else y :: insU x t
theorem mem_insU (x z : Int) : ∀ l : List Int, z ∈ insU x l ↔ z = x ∨ z ∈ l
  | [] => by simp [insU]
  | y :: t => by
    unfold insU
    split
    · simp
    · split
      · rename_i h; subst h; simp
      · simp only [List.mem_cons, mem_insU x z t]
        constructor
        · rintro (h | h | h) <;> simp [h]
        · rintro (h | h | h) <;> simp [h]
theorem pw_insU (x : Int) : ∀ l : List Int, l.Pairwise (· < ·) → (insU x l).Pairwise (· < ·)
  | [], _ => by simp [insU]
  | y :: t, h => by
    rw [List.pairwise_cons] at h
    unfold insU
    split
    · rename_i hxy
      refine List.pairwise_cons.2 ⟨fun z hz => ?_, List.pairwise_cons.2 h⟩
      simp only [List.mem_cons] at hz
      rcases hz with rfl | hz
      · exact hxy
      · have := h.1 z hz; omega
    · split
      · exact List.pairwise_cons.2 h
      · refine List.pairwise_cons.2 ⟨fun z hz => ?_, pw_insU x t h.2⟩
        rcases (mem_insU x z t).1 hz with rfl | hz
        · omega
        · exact h.1 z hz
/-- What is in a or in b. -/
def uni (a b : List Int) : List Int := a.foldr insU b
theorem mem_uni (a b : List Int) (z : Int) : z ∈ uni a b ↔ z ∈ a ∨ z ∈ b := by
  induction a with
  | nil => simp [uni]
  | cons x t ih =>
    show z ∈ insU x (uni t b) ↔ _
    rw [mem_insU, ih]
    simp only [List.mem_cons]
    constructor
    · rintro (h | h | h) <;> simp [h]
    · rintro ((h | h) | h) <;> simp [h]
theorem pw_uni (a b : List Int) (hb : b.Pairwise (· < ·)) : (uni a b).Pairwise (· < ·) := by
  induction a with
  | nil => exact hb
  | cons x t ih => exact pw_insU x _ ih
theorem Rise.uni {n : Int} {a b : List Int} (ha : Rise n a) (hb : Rise n b) : Rise n (uni a b) :=
  ⟨pw_uni a b hb.1, fun x hx => ((mem_uni a b x).1 hx).elim (ha.2 x) (hb.2 x)⟩
theorem uni_nil_r {a : List Int} (ha : a.Pairwise (· < ·)) : uni a [] = a :=
  rise_eq _ _ (pw_uni a [] List.Pairwise.nil) ha fun x => by rw [mem_uni]; simp
theorem uni_nil_l (b : List Int) : uni [] b = b := rfl

theorem insU_len (x : Int) : ∀ l : List Int, (insU x l).length ≤ l.length + 1
  | [] => by simp [insU]
  | y :: t => by
    unfold insU
    have := insU_len x t
    split
    · simp
    · split
      · simp
      · simp; omega
theorem uni_len (a b : List Int) : (uni a b).length ≤ a.length + b.length := by
  induction a with
  | nil => simp [uni]
  | cons x t ih =>
    show (insU x (uni t b)).length ≤ _
    have := insU_len x (uni t b)
    simp only [List.length_cons]
    omega

/-- How many of a lie below v, from the left. -/
def bel (a : List Int) (v : Int) : Nat := (a.takeWhile fun x => decide (x < v)).length
theorem bel_cons (x : Int) (t : List Int) (v : Int) : bel (x :: t) v = if x < v then bel t v + 1 else 0 := by
  unfold bel
  rw [List.takeWhile_cons]
  by_cases h : x < v <;> simp [h]
theorem bel_le : ∀ (a : List Int) (v : Int), bel a v ≤ a.length
  | [], v => by simp [bel]
  | x :: t, v => by
    rw [bel_cons]
    have := bel_le t v
    split <;> simp <;> omega
theorem bel_lt : ∀ (a : List Int) (v : Int) (j : Nat) (x : Int), j < bel a v → a[j]? = some x → x < v
  | [], v, j, x, h, _ => by simp [bel] at h
  | y :: t, v, j, x, h, hx => by
    rw [bel_cons] at h
    split at h
    · rename_i hy
      match j, h, hx with
      | 0, _, hx => simp at hx; omega
      | j + 1, h, hx => exact bel_lt t v j x (by omega) (by simpa using hx)
    · omega
theorem bel_at : ∀ (a : List Int) (v : Int) (x : Int), a[bel a v]? = some x → ¬ x < v
  | [], v, x, h => by simp at h
  | y :: t, v, x, h => by
    rw [bel_cons] at h
    split at h
    · exact bel_at t v x (by simpa using h)
    · rename_i hy
      simp at h
      omega
/-- The one round of the merge: what stays of a. -/
def cutH (a : List Int) (y : Int) : List Int := match a with | [] => [] | x :: t => if x = y then t else x :: t
/-- What the merge keeps true. -/
structure Mg (A B all a b : List Int) : Prop where
  pa : a.Pairwise (· < ·)
  pb : b.Pairwise (· < ·)
  pl : all.Pairwise (· < ·)
  la : ∀ x ∈ all, ∀ y ∈ a, x < y
  lb : ∀ x ∈ all, ∀ y ∈ b, x < y
  me : ∀ x, (x ∈ all ∨ x ∈ a ∨ x ∈ b) ↔ (x ∈ A ∨ x ∈ B)
  ne : a ≠ []
theorem mem_cutH (a : List Int) (y x : Int) (h : x ∈ cutH a y) : x ∈ a := by
  unfold cutH at h
  split at h
  · exact h
  · split at h
    · simp [h]
    · exact h
theorem mem_cutH' (a : List Int) (y x : Int) (h : x ∈ a) : x = y ∨ x ∈ cutH a y := by
  unfold cutH
  split
  · exact Or.inr h
  · split
    · rename_i e
      simp only [List.mem_cons] at h
      rcases h with h | h
      · exact Or.inl (h.trans e)
      · exact Or.inr h
    · exact Or.inr h
theorem pw_cutH (a : List Int) (y : Int) (h : a.Pairwise (· < ·)) : (cutH a y).Pairwise (· < ·) := by
  unfold cutH
  split
  · exact h
  · split
    · exact (List.pairwise_cons.1 h).2
    · exact h
theorem Mg.step {A B all a b : List Int} {y : Int} (h : Mg A B all a (y :: b)) : Mg A B (all ++ a.take (bel a y)) (y :: b) (cutH (a.drop (bel a y)) y) := by
  have hp : (a.take (bel a y) ++ a.drop (bel a y)).Pairwise (· < ·) := by rw [List.take_append_drop]; exact h.pa
  rw [List.pairwise_append] at hp
  have hm : ∀ x, x ∈ a ↔ x ∈ a.take (bel a y) ∨ x ∈ a.drop (bel a y) := fun x => by
    conv => lhs; rw [← List.take_append_drop (bel a y) a]
    exact List.mem_append
  have hlt : ∀ x ∈ a.take (bel a y), x < y := fun x hx => by
    obtain ⟨j, hj, e⟩ := List.getElem_of_mem hx
    rw [List.length_take] at hj
    refine bel_lt a y j x (by omega) ?_
    rw [List.getElem_take] at e
    rw [List.getElem?_eq_getElem (by omega), e]
  have pb := List.pairwise_cons.1 h.pb
  refine ⟨h.pb, pw_cutH _ _ hp.2.1, List.pairwise_append.2 ⟨h.pl, hp.1, fun x hx z hz => h.la x hx z ((hm z).2 (Or.inl hz))⟩, fun x hx z hz => ?_, fun x hx z hz => ?_, fun x => ?_, by simp⟩
  · rcases List.mem_append.1 hx with hx | hx
    · exact h.lb x hx z hz
    · have := hlt x hx
      simp only [List.mem_cons] at hz
      rcases hz with rfl | hz
      · exact this
      · have := pb.1 z hz; omega
  · have hz' := mem_cutH _ _ _ hz
    rcases List.mem_append.1 hx with hx | hx
    · exact h.la x hx z ((hm z).2 (Or.inr hz'))
    · exact hp.2.2 x hx z hz'
  · rw [← h.me x, hm x, List.mem_append]
    constructor
    · rintro ((h1 | h1) | h1 | h1)
      · exact Or.inl h1
      · exact Or.inr (Or.inl (Or.inl h1))
      · exact Or.inr (Or.inr h1)
      · exact Or.inr (Or.inl (Or.inr (mem_cutH _ _ _ h1)))
    · rintro (h1 | (h1 | h1) | h1)
      · exact Or.inl (Or.inl h1)
      · exact Or.inl (Or.inr h1)
      · rcases mem_cutH' _ y _ h1 with h2 | h2
        · exact Or.inr (Or.inl (by simp [h2]))
        · exact Or.inr (Or.inr h2)
      · exact Or.inr (Or.inl h1)
theorem Mg.done {A B all a : List Int} (hB : B.Pairwise (· < ·)) (h : Mg A B all a []) : all ++ a = uni A B := by
  refine rise_eq _ _ (List.pairwise_append.2 ⟨h.pl, h.pa, h.la⟩) (pw_uni A B hB) fun x => ?_
  rw [mem_uni, ← h.me x, List.mem_append]
  simp
theorem Mg.start {A B : List Int} (hA : A.Pairwise (· < ·)) (hB : B.Pairwise (· < ·)) (ne : A ≠ []) : Mg A B [] A B :=
  ⟨hA, hB, List.Pairwise.nil, by simp, by simp, by simp, ne⟩
theorem cutH_len (a : List Int) (y : Int) : (cutH a y).length ≤ a.length := by
  unfold cutH
  split
  · simp
  · split <;> simp
end Go.Proofs.YtibohlbkkaghkaaDoor.W

/- What has to stay in order: mirrors, without any Go. -/
namespace Go.Proofs.YtibohlbkkaghkaaDoor.W
open Go.RowKit
set_option linter.unusedVariables false
set_option linter.unusedSimpArgs false

structure Opr where
  k : Int
  sz : Int
  ad : Int
  vl : Int
  gt : Int
  pr : Bool
  aq : Bool
  rl : Bool
  pd : Int
  sc : Int
/-- An operation, with what it hangs on. -/
structure Oz where
  o : Opr
  a : List Int
  d : List Int
  c : List Int
structure Sp where
  f : Int
  s : Int
structure Act where
  p : Sp
  t : Int
def has (s : Sp) (x : Int) : Bool := decide ((x - s.f) % 4294967296 < s.s)
def meets (s o : Sp) : Bool := (has s o.f && decide (0 < o.s)) || (has o s.f && decide (0 < s.s))
def inn (a b c : Sp) (x : Int) : Bool := has a x && has b x && has c x
def share (a b c : Sp) : Bool := inn a b c a.f || inn a b c b.f || inn a b c c.f
def inside (s o : Sp) : Bool := (o.s == 4294967296) || decide ((s.f - o.f) % 4294967296 + s.s ≤ o.s)
/-- The bytes of an operation. -/
def spn (o : Opr) : Sp := ⟨o.ad, min (max o.sz 0) 4294967296⟩
/-- Its traits. -/
def trt (o : Opr) : Int := 8 + (bif o.k == 1 then 1 else bif o.k == 2 then 2 + (bif o.pr then 16 else 0) else bif o.k == 3 then 19 else 0) + (bif o.aq then 32 else 0) + (bif o.rl then 64 else 0)
def actO (o : Opr) : Act := bif o.k == 4 then ⟨⟨0, 0⟩, 4⟩ else ⟨spn o, trt o⟩
def a8 (x y : Int) : Int := bits .and .u8 x y
def o8 (x y : Int) : Int := bits .or .u8 x y
/-- With what leads marked. -/
def ldA (x : Act) (b : Bool) : Act := ⟨x.p, bif b then o8 x.t 128 else x.t⟩
/-- Is j in the AddrDeps of one behind it, ahead of b? -/
def led (x : Nat → Oz) (b j : Nat) : Bool := (List.range b).any fun m => decide (j < m) && (x m).a.contains (j : Int)
/-- What is noted. -/
def note (r : Int) (l : List Int) (h : Nat → Int) (j : Nat) : Int := bif (h j == 0) && l.contains (j : Int) then r else h j
/-- What goes back from b. -/
structure St where
  k : Int
  h : List Sp
  g : Nat → Int
def keep0 (t : Int) : Int :=
  let k1 := bif a8 t 64 != 0 then o8 32 8 else 32
  let k2 := bif a8 t 96 != 0 then o8 k1 64 else k1
  bif a8 t 2 != 0 then o8 k2 128 else k2
def hang0 (t pb : Int) (o : Oz) : Nat → Int :=
  let h := note 10 o.d (note 9 o.a (note 8 [pb] fun _ => 0))
  bif a8 t 2 != 0 then note 11 o.c h else h
def beg (b : Act) (pb : Int) (o : Oz) : St := ⟨keep0 b.t, [], hang0 b.t pb o⟩
def sees (h : List Sp) (x b : Sp) : Bool := !h.any fun s => share x b s
def hide (h : List Sp) (s : Sp) : List Sp := bif h.any (fun o => inside s o) then h else h ++ [s]
def whyM (h : List Sp) (b x : Act) : Int :=
  bif !meets x.p b.p then 0 else bif a8 b.t 2 != 0 then 1 else bif a8 b.t 1 == 0 then 0 else
  bif (a8 x.t 1 != 0) && sees h x.p b.p then 2 else bif a8 x.t 16 != 0 then 3 else 0
def whyK (held hg : Int) : Int :=
  bif a8 held 3 != 0 then 4 else bif a8 held 32 != 0 then 5 else bif a8 held 8 != 0 then 6 else bif a8 held 64 != 0 then 7 else
  bif hg != 0 then hg else bif a8 held 128 != 0 then 13 else 0
def why (s : St) (b x : Act) (hg : Int) : Int := bif whyM s.h b x != 0 then whyM s.h b x else whyK (a8 x.t s.k) hg
def fence (b : Act) (o : Oz) (s : St) : St := bif a8 (a8 b.t (o.o.sc % 256)) 3 != 0 then { s with k := o8 s.k (a8 (o.o.pd % 256) 3) } else s
def pass (b x : Act) (o : Oz) (s : St) : St :=
  bif (a8 x.t 2 == 0) || (a8 b.t 1 == 0) || !meets x.p b.p then s else
  ⟨s.k, hide s.h x.p, bif sees s.h x.p b.p then note 12 o.d (note 12 o.a s.g) else s.g⟩
def goes (b x : Act) (s : St) (hg : Int) : Bool := (a8 x.t s.k != 0) || (hg != 0) || meets x.p b.p
def step (b x : Act) (o : Oz) (hg : Int) (s : St) : St := bif a8 x.t 4 != 0 then fence b o s else bif goes b x s hg then pass b x o s else s
def rul (b x : Act) (hg : Int) (s : St) : Int := bif a8 x.t 4 != 0 then 0 else bif goes b x s hg then why s b x hg else 0
/-- Behind i steps back from b. -/
def bk (A : Nat → Act) (x : Nat → Oz) (b : Nat) (pb : Int) : Nat → St
  | 0 => beg (A b) pb (x b)
  | i + 1 => step (A b) (A (b - 1 - i)) (x (b - 1 - i)) ((bk A x b pb i).g (b - 1 - i)) (bk A x b pb i)
/-- The rule of one ahead. -/
def rulA (A : Nat → Act) (x : Nat → Oz) (b : Nat) (pb : Int) (a : Nat) : Int := rul (A b) (A a) ((bk A x b pb (b - 1 - a)).g a) (bk A x b pb (b - 1 - a))
def acts (x : Nat → Oz) (b : Nat) (j : Nat) : Act := ldA (actO (x j).o) (led x b j)
/-- The last paired one ahead. -/
def lastP (x : Nat → Oz) : Nat → Int
  | 0 => -1
  | n + 1 => bif (x n).o.pr then (n : Int) else lastP x n
def pairO (x : Nat → Oz) (n : Nat) : Int := bif (x n).o.pr && ((x n).o.k == 2) && decide (0 ≤ lastP x n) && ((x (lastP x n).toNat).o.k == 1) then lastP x n else -1
/-- Why, in all. -/
def whyO (x : Nat → Oz) (a b : Nat) : Int := bif a8 (acts x b b).t 4 != 0 then 0 else rulA (acts x b) x b (pairO x b) a
end Go.Proofs.YtibohlbkkaghkaaDoor.W

/- What each function of package word returns, as a plain function of its numbers: a contract a function. -/
namespace Go.Proofs.YtibohlbkkaghkaaDoor
open Go.ChangeShapes Go.WideShapes Go.ChangeAt Go.RowKit

theorem ret_int {k : IntKind} {a b : Int} (h : a = b) : Ending.returned (.int k a) = .returned (.int k b) := by rw [h]

end Go.Proofs.YtibohlbkkaghkaaDoor

/- Lists of numbers that lie in memory; below, Clone, SameInts. -/
namespace Go.Proofs.YtibohlbkkaghkaaDoor
open Go.ChangeShapes Go.WideShapes Go.ChangeAt Go.RowKit
set_option linter.unusedVariables false
set_option linter.unusedSimpArgs false

def slV (s : W.Sl) : Value := .slice s.a s.n s.c
/-- The list lies in memory, in a block that is not one of two. -/
structure Li (s : W.Sl) (l : List Int) (w : World) : Prop where
  n : s.n = l.length
  m : s.n ≤ 4096
  nc : s.n ≤ s.c
  at_ : 0 < s.n → ∃ b o, s.a = some ⟨b, o, none⟩ ∧ b < w.heap.size ∧ ∀ j x, l[j]? = some x → w.cell? ⟨b, o + j, none⟩ = some (.int .i64 x)
theorem Li.below {s : W.Sl} {l : List Int} {w w' : World} (h : Li s l w) (hb : Below w.heap.size w w') : Li s l w' :=
  ⟨h.n, h.m, h.nc, fun h0 => by
    obtain ⟨b, o, e, hl, hc⟩ := h.at_ h0
    exact ⟨b, o, e, Nat.lt_of_lt_of_le hl hb.size, fun j x hx => (hb.cell (p := ⟨b, o + j, none⟩) hl).trans (hc j x hx)⟩⟩
theorem li_nil (w : World) : Li W.Sl.nil [] w := ⟨rfl, by decide, by decide, fun h => absurd h (by decide)⟩
theorem li_zero (a : Option Addr) (c : Nat) (w : World) : Li ⟨a, 0, c⟩ [] w := ⟨rfl, by show 0 ≤ 4096; decide, Nat.zero_le _, fun h => absurd h (Nat.lt_irrefl 0)⟩
theorem Li.cons {s : W.Sl} {x : Int} {l : List Int} {w : World} (h : Li s (x :: l) w) : ∃ b o c, s = ⟨some ⟨b, o, none⟩, l.length + 1, c⟩ ∧ l.length + 1 ≤ c ∧ b < w.heap.size ∧ w.cell? ⟨b, o, none⟩ = some (.int .i64 x) ∧ ∀ j y, l[j]? = some y → w.cell? ⟨b, o + 1 + j, none⟩ = some (.int .i64 y) := by
  obtain ⟨b, o, e, hl, hc⟩ := h.at_ (by rw [h.n]; simp)
  have hn := h.n
  have hnc := h.nc
  obtain ⟨a, n, c⟩ := s
  simp only at e hn hnc
  subst e hn
  refine ⟨b, o, c, rfl, hnc, hl, hc 0 x rfl, fun j y hy => ?_⟩
  have := hc (j + 1) y (by simpa using hy)
  rw [show o + 1 + j = o + (j + 1) by omega]
  exact this
theorem li_some {b o n c : Nat} {l : List Int} {w : World} (hn : n = l.length) (hm : n ≤ 4096) (hnc : n ≤ c) (hb : b < w.heap.size) (hc : ∀ j x, l[j]? = some x → w.cell? ⟨b, o + j, none⟩ = some (.int .i64 x)) : Li ⟨some ⟨b, o, none⟩, n, c⟩ l w := ⟨hn, hm, hnc, fun _ => ⟨b, o, rfl, hb, hc⟩⟩

def intsL (l : List Int) : List Value := l.map fun x => .int .i64 x
theorem intsL_get (l : List Int) (j : Nat) : (intsL l)[j]? = (l[j]?).map fun x => .int .i64 x := by unfold intsL; rw [List.getElem?_map]
theorem own_li {w : World} {base n : Nat} {v : Value} {l : List Int} (h : w.ownsRow base 3 1 v n (intsL l)) (hn : n ≤ 4096) : ∃ s : W.Sl, v = slV s ∧ Li s l w ∧ (0 < s.n → ∃ b, s.a = some ⟨b, 0, none⟩ ∧ base ≤ b) := by
  have hlen : n = l.length := by
    have := h.1
    simp [intsL] at this
    omega
  rcases h.2 with ⟨rfl, h0⟩ | ⟨g, cap, cur, rfl, hg, hh, hcap, hmax, hcur, htake⟩
  · subst h0
    obtain rfl : l = [] := List.length_eq_zero_iff.1 hlen.symm
    exact ⟨⟨none, 0, 0⟩, rfl, li_zero _ _ _, fun h => absurd h (Nat.lt_irrefl 0)⟩
  · refine ⟨⟨some ⟨g, 0, none⟩, n, cap⟩, rfl, li_some hlen hn hcap (Array.getElem?_eq_some_iff.1 hh).1 fun j x hx => ?_, fun _ => ⟨g, rfl, hg⟩⟩
    have hc := h.cells (g := g) rfl j (.int .i64 x) (by rw [intsL_get, hx]; rfl)
    rw [Addr.add_lit] at hc
    exact hc

end Go.Proofs.YtibohlbkkaghkaaDoor

/- Spans: has, meets, share, within. -/
namespace Go.Proofs.YtibohlbkkaghkaaDoor
open Go.ChangeShapes Go.WideShapes Go.ChangeAt Go.RowKit
set_option linter.unusedVariables false
set_option linter.unusedSimpArgs false

structure W.SpOk (s : W.Sp) : Prop where
  f0 : 0 ≤ s.f
  f1 : s.f < 4294967296
  s0 : 0 ≤ s.s
  s1 : s.s ≤ 4294967296
def spV (s : W.Sp) : Value := .agg #[.int .u32 s.f, .int .u64 s.s]
set_option maxHeartbeats 800000 in
theorem has_any (s : W.Sp) (x : Int) (hs : W.SpOk s) (x0 : 0 ≤ x) (x1 : x < 4294967296) (w : World) : Calls Tryd.prog 74 #[spV s, .int .u32 x] w fun e w' => e = .returned (.bool (W.has s x)) ∧ Below w.heap.size w w' := by
  obtain ⟨h1, h2, h3, h4⟩ := hs
  obtain ⟨f, z⟩ := s
  dsimp only at h1 h2 h3 h4
  unfold spV W.has
  dsimp only
  go_enter Tryd.func74, Tryd.ntmps74
  go_wp2
  go_ret
  exact ⟨rfl, (Below.refl _ _).alloc (Nat.le_refl _) _⟩
end Go.Proofs.YtibohlbkkaghkaaDoor

/- Spans: meets, inside. -/
namespace Go.Proofs.YtibohlbkkaghkaaDoor
open Go.ChangeShapes Go.WideShapes Go.ChangeAt Go.RowKit
set_option linter.unusedVariables false
set_option linter.unusedSimpArgs false

theorem bcell {W w1 : World} (hb : Below W.heap.size W w1) : (∀ b o, b < W.heap.size → w1.cell? ⟨b, o, none⟩ = W.cell? ⟨b, o, none⟩) ∧ (∀ b o, b < W.heap.size → w1.frozen? ⟨b, o, none⟩ = W.frozen? ⟨b, o, none⟩) :=
  ⟨fun b o h => hb.cell (p := ⟨b, o, none⟩) h, fun b o h => hb.frozen (p := ⟨b, o, none⟩) h⟩
set_option maxHeartbeats 1600000 in
theorem meets_any (s o : W.Sp) (hs : W.SpOk s) (ho : W.SpOk o) (w : World) : Calls Tryd.prog 68 #[spV s, spV o] w fun e w' => e = .returned (.bool (W.meets s o)) ∧ Below w.heap.size w w' := by
  have h1 := fun w => has_any s o.f hs ho.f0 ho.f1 w
  have h2 := fun w => has_any o s.f ho hs.f0 hs.f1 w
  have z1 := hs.s0
  have z2 := ho.s0
  obtain ⟨f, z⟩ := s
  obtain ⟨g, y⟩ := o
  clear hs ho
  unfold spV W.meets at *
  dsimp only at *
  generalize W.has ⟨f, z⟩ g = p at *
  generalize W.has ⟨g, y⟩ f = q at *
  have HH : Hid (_ ∧ _) := ⟨h1, h2⟩
  clear h1 h2
  cases e1 : decide (0 < y) <;> cases e2 : decide (0 < z) <;> cases p <;> cases q
  all_goals
    go_enter Tryd.func68, Tryd.ntmps68
    go_wp2_with (fail)
    refine (HH.out.1 _).mono ?_
    rintro e w1 ⟨rfl, b1⟩
    obtain ⟨hc, hf⟩ := bcell b1
    have hz := b1.size
    simp at hz
    have B1 : Below w.heap.size w w1 := ((((Below.refl _ _).alloc (Nat.le_refl _) _).alloc (by simp) _).trans (b1.mono (by simp; omega)))
    have l0 : w.heap.size < w1.heap.size := by omega
    have l1 : w.heap.size + 1 < w1.heap.size := by omega
    go_wp2_with (fail)
    first
    | (go_ret
       exact ⟨rfl, B1⟩)
    | (refine (HH.out.2 _).mono ?_
       rintro e w2 ⟨rfl, b2⟩
       have c2 := (bcell b2).1
       go_wp2
       go_ret
       exact ⟨rfl, B1.trans (b2.mono B1.size)⟩)
theorem inside_any (s o : W.Sp) (hs : W.SpOk s) (ho : W.SpOk o) (w : World) : Calls Tryd.prog 79 #[spV s, spV o] w fun e w' => e = .returned (.bool (W.inside s o)) ∧ Below w.heap.size w w' := by
  obtain ⟨a1, a2, a3, a4⟩ := hs
  obtain ⟨b1, b2, b3, b4⟩ := ho
  obtain ⟨f, z⟩ := s
  obtain ⟨g, y⟩ := o
  unfold spV W.inside
  dsimp only at *
  cases e1 : (y == 4294967296)
  · go_enter Tryd.func79, Tryd.ntmps79
    go_wp2
    go_ret
    exact ⟨rfl, ((Below.refl _ _).alloc (Nat.le_refl _) _).alloc (by simp) _⟩
  · go_enter Tryd.func79, Tryd.ntmps79
    go_wp2
    go_ret
    exact ⟨rfl, ((Below.refl _ _).alloc (Nat.le_refl _) _).alloc (by simp) _⟩
end Go.Proofs.YtibohlbkkaghkaaDoor

/- Spans: share. -/
namespace Go.Proofs.YtibohlbkkaghkaaDoor
open Go.ChangeShapes Go.WideShapes Go.ChangeAt Go.RowKit
set_option linter.unusedVariables false
set_option linter.unusedSimpArgs false

structure SpAt (b : Nat) (s : W.Sp) (w : World) : Prop where
  lt : b < w.heap.size
  c0 : w.cell? ⟨b, 0, none⟩ = some (.int .u32 s.f)
  c1 : w.cell? ⟨b, 1, none⟩ = some (.int .u64 s.s)
theorem SpAt.below {b : Nat} {s : W.Sp} {w w' : World} (h : SpAt b s w) (hb : Below w.heap.size w w') : SpAt b s w' :=
  ⟨Nat.lt_of_lt_of_le h.lt hb.size, (hb.cell (p := ⟨b, 0, none⟩) h.lt).trans h.c0, (hb.cell (p := ⟨b, 1, none⟩) h.lt).trans h.c1⟩
set_option maxHeartbeats 1600000 in
theorem share1_any (x : Int) (x0 : 0 ≤ x) (x1 : x < 4294967296) (pa pb pc : Nat) (a b c : W.Sp) (ha : W.SpOk a) (hb : W.SpOk b) (hc : W.SpOk c) (w : World) (A : SpAt pa a w) (B : SpAt pb b w) (C : SpAt pc c w) :
    Calls Tryd.prog 80 #[.int .u32 x, .pointer (some ⟨pa, 0, none⟩), .pointer (some ⟨pb, 0, none⟩), .pointer (some ⟨pc, 0, none⟩)] w fun e w' => e = .returned (.bool (W.inn a b c x)) ∧ Below w.heap.size w w' := by
  have h1 := fun w => has_any a x ha x0 x1 w
  have h2 := fun w => has_any b x hb x0 x1 w
  have h3 := fun w => has_any c x hc x0 x1 w
  obtain ⟨la, A0, A1⟩ := A
  have B' : Hid (SpAt pb b w) := B
  have C' : Hid (SpAt pc c w) := C
  clear B C ha hb hc
  unfold W.inn spV at *
  generalize W.has a x = p at *
  generalize W.has b x = q at *
  generalize W.has c x = r at *
  have HH : Hid (_ ∧ _ ∧ _) := ⟨h1, h2, h3⟩
  clear h1 h2 h3
  cases p
  · go_enter Tryd.func80, Tryd.ntmps80
    go_wp2_with (fail)
    refine (HH.out.1 _).mono ?_
    rintro e w1 ⟨rfl, b1⟩
    go_wp2
    go_ret
    exact ⟨rfl, b1⟩
  · cases q
    · go_enter Tryd.func80, Tryd.ntmps80
      go_wp2_with (fail)
      refine (HH.out.1 _).mono ?_
      rintro e w1 ⟨rfl, b1⟩
      obtain ⟨lb, B0, B1⟩ := B'.out.below b1
      go_wp2_with (fail)
      refine (HH.out.2.1 _).mono ?_
      rintro e w2 ⟨rfl, b2⟩
      go_wp2
      go_ret
      exact ⟨rfl, b1.trans (b2.mono b1.size)⟩
    · go_enter Tryd.func80, Tryd.ntmps80
      go_wp2_with (fail)
      refine (HH.out.1 _).mono ?_
      rintro e w1 ⟨rfl, b1⟩
      obtain ⟨lb, B0, B1⟩ := B'.out.below b1
      go_wp2_with (fail)
      refine (HH.out.2.1 _).mono ?_
      rintro e w2 ⟨rfl, b2⟩
      have b12 := b1.trans (b2.mono b1.size)
      obtain ⟨lc, C0, C1⟩ := C'.out.below b12
      clear B0 B1
      go_wp2_with (fail)
      refine (HH.out.2.2 _).mono ?_
      rintro e w3 ⟨rfl, b3⟩
      go_wp2
      go_ret
      exact ⟨rfl, b12.trans (b3.mono b12.size)⟩
end Go.Proofs.YtibohlbkkaghkaaDoor

/- Spans: share; the bytes of an operation. -/
namespace Go.Proofs.YtibohlbkkaghkaaDoor
open Go.ChangeShapes Go.WideShapes Go.ChangeAt Go.RowKit
set_option linter.unusedVariables false
set_option linter.unusedSimpArgs false

set_option maxHeartbeats 1600000 in
theorem share_any (a b c : W.Sp) (ha : W.SpOk a) (hb : W.SpOk b) (hc : W.SpOk c) (w : World) :
    Calls Tryd.prog 78 #[spV a, spV b, spV c] w fun e w' => e = .returned (.bool (W.share a b c)) ∧ Below w.heap.size w w' := by
  have hmf : ∀ (fn : Fn) (first cap : Array Value) (w : World), (Instr.makeFunc fn first cap).run Tryd.prog w = .ok (.func fn first cap) w := fun _ _ _ _ => rfl
  have W0 : ∀ T : TypeId, SpAt w.heap.size a (((w.alloc (.cells #[.int .u32 a.f, .int .u64 a.s] T)).alloc (.cells #[.int .u32 b.f, .int .u64 b.s] T)).alloc (.cells #[.int .u32 c.f, .int .u64 c.s] T)) ∧ SpAt (w.heap.size + 1) b (((w.alloc (.cells #[.int .u32 a.f, .int .u64 a.s] T)).alloc (.cells #[.int .u32 b.f, .int .u64 b.s] T)).alloc (.cells #[.int .u32 c.f, .int .u64 c.s] T)) ∧ SpAt (w.heap.size + 1 + 1) c (((w.alloc (.cells #[.int .u32 a.f, .int .u64 a.s] T)).alloc (.cells #[.int .u32 b.f, .int .u64 b.s] T)).alloc (.cells #[.int .u32 c.f, .int .u64 c.s] T)) ∧ Below w.heap.size w (((w.alloc (.cells #[.int .u32 a.f, .int .u64 a.s] T)).alloc (.cells #[.int .u32 b.f, .int .u64 b.s] T)).alloc (.cells #[.int .u32 c.f, .int .u64 c.s] T)) := fun T =>
    ⟨⟨by (first | (simp; done) | (simp; omega)), by simp [go_sem], by simp [go_sem]⟩, ⟨by (first | (simp; done) | (simp; omega)), by simp [go_sem], by simp [go_sem]⟩, ⟨by simp, by simp [go_sem], by simp [go_sem]⟩, (((Below.refl _ _).alloc (Nat.le_refl _) _).alloc (by simp) _).alloc (by simp; omega) _⟩
  have W1 := W0 114
  clear W0
  have k1 := fun (pa pb pc : Nat) (w : World) A B C => share1_any a.f ha.f0 ha.f1 pa pb pc a b c ha hb hc w A B C
  have k2 := fun (pa pb pc : Nat) (w : World) A B C => share1_any b.f hb.f0 hb.f1 pa pb pc a b c ha hb hc w A B C
  have k3 := fun (pa pb pc : Nat) (w : World) A B C => share1_any c.f hc.f0 hc.f1 pa pb pc a b c ha hb hc w A B C
  unfold W.share spV at *
  generalize W.inn a b c a.f = p at *
  generalize W.inn a b c b.f = q at *
  generalize W.inn a b c c.f = r at *
  have HH : Hid (_ ∧ _ ∧ _) := ⟨k1, k2, k3⟩
  clear k1 k2 k3 ha hb hc
  cases p
  case' false => cases q
  all_goals
    go_enter Tryd.func78, Tryd.ntmps78
    have HW : Hid _ := W1
    obtain ⟨⟨l1, A0, A1⟩, ⟨l2, B0, B1⟩, ⟨l3, C0, C1⟩, bw⟩ := W1
    go_wp2_with (fail)
    generalize World.alloc (World.alloc (World.alloc w _) _) _ = W3 at *
    refine (HH.out.1 _ _ _ _ HW.out.1 HW.out.2.1 HW.out.2.2.1).mono ?_
    rintro e w1 ⟨rfl, b1⟩
    have X1 := HW.out.1.below b1
    have X2 := HW.out.2.1.below b1
    have X3 := HW.out.2.2.1.below b1
    have B1' := bw.trans (b1.mono bw.size)
    clear A0 A1 B0 B1 C0 C1 bw b1 HW l1 l2 l3
  · have HX : Hid _ := And.intro X1 (And.intro X2 X3)
    obtain ⟨l2, B0, B1⟩ := X2
    clear X1 X3
    go_wp2_with (fail)
    refine (HH.out.2.1 _ _ _ _ HX.out.1 HX.out.2.1 HX.out.2.2).mono ?_
    rintro e w2 ⟨rfl, b2⟩
    have X1 := HX.out.1.below b2
    have X2 := HX.out.2.1.below b2
    have X3 := HX.out.2.2.below b2
    have B2' := B1'.trans (b2.mono B1'.size)
    clear HX B0 B1 b2 B1' l2
    have HX : Hid _ := And.intro X1 (And.intro X2 X3)
    obtain ⟨l3, C0, C1⟩ := X3
    clear X1 X2
    go_wp2_with (fail)
    refine (HH.out.2.2 _ _ _ _ HX.out.1 HX.out.2.1 HX.out.2.2).mono ?_
    rintro e w3 ⟨rfl, b3⟩
    go_wp2
    go_ret
    exact ⟨rfl, B2'.trans (b3.mono B2'.size)⟩
  · have HX : Hid _ := And.intro X1 (And.intro X2 X3)
    obtain ⟨l2, B0, B1⟩ := X2
    clear X1 X3
    go_wp2_with (fail)
    refine (HH.out.2.1 _ _ _ _ HX.out.1 HX.out.2.1 HX.out.2.2).mono ?_
    rintro e w2 ⟨rfl, b2⟩
    go_wp2
    go_ret
    exact ⟨rfl, B1'.trans (b2.mono B1'.size)⟩
  · go_wp2
    go_ret
    exact ⟨rfl, B1'⟩
end Go.Proofs.YtibohlbkkaghkaaDoor

/- The bytes and the traits of an operation. -/
namespace Go.Proofs.YtibohlbkkaghkaaDoor
open Go.ChangeShapes Go.WideShapes Go.ChangeAt Go.RowKit
set_option linter.unusedVariables false
set_option linter.unusedSimpArgs false

def opC (o : W.Opr) (a d c : W.Sl) : Array Value := #[.int .i64 o.k, .int .i64 o.sz, .int .u32 o.ad, .int .u32 o.vl, .int .u32 o.gt, .bool o.pr, .bool o.aq, .bool o.rl, .int .i64 o.pd, .int .i64 o.sc, .slice a.a a.n a.c, .slice d.a d.n d.c, .slice c.a c.n c.c]
/-- An operation lies in memory. -/
structure OpAt (g off : Nat) (o : W.Opr) (w : World) : Prop where
  lt : g < w.heap.size
  c0 : w.cell? ⟨g, off, none⟩ = some (.int .i64 o.k)
  c1 : w.cell? ⟨g, off + 1, none⟩ = some (.int .i64 o.sz)
  c2 : w.cell? ⟨g, off + 2, none⟩ = some (.int .u32 o.ad)
  c5 : w.cell? ⟨g, off + 5, none⟩ = some (.bool o.pr)
  c6 : w.cell? ⟨g, off + 6, none⟩ = some (.bool o.aq)
  c7 : w.cell? ⟨g, off + 7, none⟩ = some (.bool o.rl)
theorem OpAt.below {g off : Nat} {o : W.Opr} {w w' : World} (h : OpAt g off o w) (hb : Below w.heap.size w w') : OpAt g off o w' :=
  ⟨Nat.lt_of_lt_of_le h.lt hb.size, (hb.cell (p := ⟨g, _, none⟩) h.lt).trans h.c0, (hb.cell (p := ⟨g, _, none⟩) h.lt).trans h.c1, (hb.cell (p := ⟨g, _, none⟩) h.lt).trans h.c2, (hb.cell (p := ⟨g, _, none⟩) h.lt).trans h.c5, (hb.cell (p := ⟨g, _, none⟩) h.lt).trans h.c6, (hb.cell (p := ⟨g, _, none⟩) h.lt).trans h.c7⟩
set_option maxHeartbeats 800000 in
theorem spanOf_any (g off : Nat) (o : W.Opr) (w : World) (h : OpAt g off o w) (z0 : -9223372036854775808 ≤ o.sz) (z1 : o.sz ≤ 9223372036854775807) : Calls Tryd.prog 72 #[.pointer (some ⟨g, off, none⟩)] w fun e w' => e = .returned (spV (W.spn o)) ∧ Below w.heap.size w w' := by
  obtain ⟨lt, _, c1, c2, _, _, _⟩ := h
  obtain ⟨k, sz, ad, vl, gt, pr, aq, rl, pd, sc⟩ := o
  dsimp only at *
  unfold spV W.spn
  dsimp only
  go_enter Tryd.func72, Tryd.ntmps72
  go_wp2
  go_region
  go_wp2
  exact bodyPost_ret (v := .agg #[.int .u32 ad, .int .u64 (min (max sz 0) 4294967296)]) (by simp [results, Tryd.results72, go_sem]) rfl ⟨rfl, ((Below.refl _ _).alloc (Nat.le_refl _) _).drew⟩

/-- The sizes that there can be. -/
theorem W.spn_ok (o : W.Opr) (h0 : 0 ≤ o.ad) (h1 : o.ad < 4294967296) : W.SpOk (W.spn o) := ⟨h0, h1, by show 0 ≤ min (max o.sz 0) 4294967296; omega, by show min (max o.sz 0) 4294967296 ≤ 4294967296; omega⟩
def acC (x : W.Act) : Array Value := #[.int .u32 x.p.f, .int .u64 x.p.s, .int .u8 x.t]
end Go.Proofs.YtibohlbkkaghkaaDoor

/- wmo: small functions. -/
namespace Go.Proofs.YtibohlbkkaghkaaDoor
open Go.ChangeShapes Go.WideShapes Go.ChangeAt Go.RowKit
set_option linter.unusedVariables false
set_option linter.unusedSimpArgs false

namespace W
def rds (k : Int) : Bool := k == 1 || k == 3
def wrs (k : Int) : Bool := k == 2 || k == 3
end W
theorem reads_any (g off : Nat) (k : Int) (w : World) (hl : g < w.heap.size) (c0 : w.cell? ⟨g, off, none⟩ = some (.int .i64 k)) :
    Calls Tryd.prog 41 #[.pointer (some ⟨g, off, none⟩)] w fun e w' => e = .returned (.bool (W.rds k)) ∧ w = w' := by
  unfold W.rds
  by_cases h1 : k = 1
  · subst h1
    go_enter Tryd.func41, Tryd.ntmps41
    go_wp2
    go_ret
    exact ⟨rfl, rfl⟩
  · have r1 : (k == 1) = false := by simpa using h1
    rw [r1]
    go_enter Tryd.func41, Tryd.ntmps41
    go_wp2
    go_ret
    exact ⟨rfl, rfl⟩
theorem writes_any (g off : Nat) (k : Int) (w : World) (hl : g < w.heap.size) (c0 : w.cell? ⟨g, off, none⟩ = some (.int .i64 k)) :
    Calls Tryd.prog 44 #[.pointer (some ⟨g, off, none⟩)] w fun e w' => e = .returned (.bool (W.wrs k)) ∧ w = w' := by
  unfold W.wrs
  by_cases h1 : k = 2
  · subst h1
    go_enter Tryd.func44, Tryd.ntmps44
    go_wp2
    go_ret
    exact ⟨rfl, rfl⟩
  · have r1 : (k == 2) = false := by simpa using h1
    rw [r1]
    go_enter Tryd.func44, Tryd.ntmps44
    go_wp2
    go_ret
    exact ⟨rfl, rfl⟩
/-- An operation whose bytes are such as can be. -/
def W.FitB (o : W.Opr) : Prop := ((o.k = 1 ∨ o.k = 2) ∧ (o.sz = 1 ∨ o.sz = 2 ∧ o.ad % 2 = 0 ∨ o.sz = 4 ∧ o.ad % 4 = 0)) ∨ (o.k = 3 ∧ o.sz = 4 ∧ o.ad % 4 = 0) ∨ (o.k = 4 ∧ o.sz = 0)
theorem bytesFit_any (g off : Nat) (o : W.Opr) (w : World) (h : OpAt g off o w) (hf : W.FitB o) (a0 : 0 ≤ o.ad) (a1 : o.ad < 4294967296) :
    Calls Tryd.prog 48 #[.pointer (some ⟨g, off, none⟩)] w fun e w' => e = .returned (.bool true) ∧ Below w.heap.size w w' := by
  obtain ⟨lt, c0, c1, c2, _, _, _⟩ := h
  obtain ⟨k, sz, ad, vl, gt, pr, aq, rl, pd, sc⟩ := o
  unfold W.FitB at hf
  dsimp only at *
  have r2 : ad % 2 = 0 → (ad.tmod 2 == 0) = true := fun h => by rw [Int.tmod_eq_emod_of_nonneg a0]; simpa using h
  have r4 : ad % 4 = 0 → (ad.tmod 4 == 0) = true := fun h => by rw [Int.tmod_eq_emod_of_nonneg a0]; simpa using h
  rcases hf with ⟨rfl | rfl, rfl | ⟨rfl, hm⟩ | ⟨rfl, hm⟩⟩ | ⟨rfl, rfl, hm⟩ | ⟨rfl, rfl⟩
  all_goals
    try have q2 := r2 hm
    try have q4 := r4 hm
    clear r2 r4
    go_enter Tryd.func48, Tryd.ntmps48
    go_wp2
    try go_region
    try go_wp2
    go_ret
    first
      | exact ⟨rfl, Below.refl _ _⟩
      | exact ⟨rfl, (Below.refl _ _).drew⟩
      | exact ⟨by simp [hm], Below.refl _ _⟩
      | exact ⟨by simp [hm], (Below.refl _ _).drew⟩
end Go.Proofs.YtibohlbkkaghkaaDoor

/- The traits of an operation: kind 1. -/
namespace Go.Proofs.YtibohlbkkaghkaaDoor
open Go.ChangeShapes Go.WideShapes Go.ChangeAt Go.RowKit
set_option linter.unusedVariables false
set_option linter.unusedSimpArgs false

set_option maxHeartbeats 1600000 in
theorem actOf_1 (g off : Nat) (o : W.Opr) (w : World) (h : OpAt g off o w) (z0 : -9223372036854775808 ≤ o.sz) (z1 : o.sz ≤ 9223372036854775807) (hk : o.k = 1) : Calls Tryd.prog 65 #[.pointer (some ⟨g, off, none⟩)] w fun e w' => e = .returned (.agg (acC (W.actO o))) ∧ Below w.heap.size w w' := by
  have hs := fun w' (hb : Below w.heap.size w w') => spanOf_any g off o w' (h.below hb) z0 z1
  have H0 : Hid (OpAt g off o w) := h
  have lt := h.lt
  clear h
  obtain ⟨k, sz, ad, vl, gt, pr, aq, rl, pd, sc⟩ := o
  unfold acC W.actO W.trt
  dsimp only at *
  unfold spV at hs
  generalize W.spn ⟨k, sz, ad, vl, gt, pr, aq, rl, pd, sc⟩ = S at *
  obtain ⟨F, Z⟩ := S
  dsimp only at *
  have HS : Hid (∀ w', _ → Calls _ _ _ _ _) := hs
  clear hs
  subst hk
  simp only [show ((1 : Int) == 4) = false from rfl, show ((1 : Int) == 1) = true from rfl, show ((1 : Int) == 2) = false from rfl, show ((1 : Int) == 3) = false from rfl, cond_true, cond_false]
  have r0 : bits .or .u8 8 1 = 9 := by kernel_rfl
  have r1 : (bits .and .u8 9 2 != 0) = false := by kernel_rfl
  have r2 : bits .or .u8 9 32 = 41 := by kernel_rfl
  have r3 : bits .or .u8 9 64 = 73 := by kernel_rfl
  have r4 : bits .or .u8 41 64 = 105 := by kernel_rfl
  cases pr <;> cases aq <;> cases rl
  · go_enter Tryd.func65, Tryd.ntmps65
    go_wp2_with (fail)
    refine (HS.out _ ((Below.refl _ _).alloc (Nat.le_refl _) _)).mono ?_
    rintro e w1 ⟨rfl, b1⟩
    have B1 : Below w.heap.size w w1 := ((Below.refl _ _).alloc (Nat.le_refl _) _).trans (b1.mono (by simp))
    obtain ⟨l1, c0, _, _, c5, c6, c7⟩ := H0.out.below B1
    obtain ⟨hc, hf⟩ := bcell b1
    have hz := b1.size
    simp at hz
    have hzz : w.heap.size < w1.heap.size := by omega
    clear b1 HS H0
    dsimp only at c0 c5 c6 c7
    go_wp2
    exact bodyPost_ret (v := .agg #[.int .u32 F, .int .u64 Z, .int .u8 9]) (by simp [results, Tryd.results65, go_sem, hc, hf, hzz]) rfl ⟨rfl, (((B1.setCell (Nat.le_refl _) _).setCell (Nat.le_refl _) _).setCell (Nat.le_refl _) _).alloc (by simp [World.setCell]; omega) _⟩
  · go_enter Tryd.func65, Tryd.ntmps65
    go_wp2_with (fail)
    refine (HS.out _ ((Below.refl _ _).alloc (Nat.le_refl _) _)).mono ?_
    rintro e w1 ⟨rfl, b1⟩
    have B1 : Below w.heap.size w w1 := ((Below.refl _ _).alloc (Nat.le_refl _) _).trans (b1.mono (by simp))
    obtain ⟨l1, c0, _, _, c5, c6, c7⟩ := H0.out.below B1
    obtain ⟨hc, hf⟩ := bcell b1
    have hz := b1.size
    simp at hz
    have hzz : w.heap.size < w1.heap.size := by omega
    clear b1 HS H0
    dsimp only at c0 c5 c6 c7
    go_wp2
    exact bodyPost_ret (v := .agg #[.int .u32 F, .int .u64 Z, .int .u8 73]) (by simp [results, Tryd.results65, go_sem, hc, hf, hzz]) rfl ⟨rfl, (((B1.setCell (Nat.le_refl _) _).setCell (Nat.le_refl _) _).setCell (Nat.le_refl _) _).alloc (by simp [World.setCell]; omega) _⟩
  · go_enter Tryd.func65, Tryd.ntmps65
    go_wp2_with (fail)
    refine (HS.out _ ((Below.refl _ _).alloc (Nat.le_refl _) _)).mono ?_
    rintro e w1 ⟨rfl, b1⟩
    have B1 : Below w.heap.size w w1 := ((Below.refl _ _).alloc (Nat.le_refl _) _).trans (b1.mono (by simp))
    obtain ⟨l1, c0, _, _, c5, c6, c7⟩ := H0.out.below B1
    obtain ⟨hc, hf⟩ := bcell b1
    have hz := b1.size
    simp at hz
    have hzz : w.heap.size < w1.heap.size := by omega
    clear b1 HS H0
    dsimp only at c0 c5 c6 c7
    go_wp2
    exact bodyPost_ret (v := .agg #[.int .u32 F, .int .u64 Z, .int .u8 41]) (by simp [results, Tryd.results65, go_sem, hc, hf, hzz]) rfl ⟨rfl, (((B1.setCell (Nat.le_refl _) _).setCell (Nat.le_refl _) _).setCell (Nat.le_refl _) _).alloc (by simp [World.setCell]; omega) _⟩
  · go_enter Tryd.func65, Tryd.ntmps65
    go_wp2_with (fail)
    refine (HS.out _ ((Below.refl _ _).alloc (Nat.le_refl _) _)).mono ?_
    rintro e w1 ⟨rfl, b1⟩
    have B1 : Below w.heap.size w w1 := ((Below.refl _ _).alloc (Nat.le_refl _) _).trans (b1.mono (by simp))
    obtain ⟨l1, c0, _, _, c5, c6, c7⟩ := H0.out.below B1
    obtain ⟨hc, hf⟩ := bcell b1
    have hz := b1.size
    simp at hz
    have hzz : w.heap.size < w1.heap.size := by omega
    clear b1 HS H0
    dsimp only at c0 c5 c6 c7
    go_wp2
    exact bodyPost_ret (v := .agg #[.int .u32 F, .int .u64 Z, .int .u8 105]) (by simp [results, Tryd.results65, go_sem, hc, hf, hzz]) rfl ⟨rfl, (((B1.setCell (Nat.le_refl _) _).setCell (Nat.le_refl _) _).setCell (Nat.le_refl _) _).alloc (by simp [World.setCell]; omega) _⟩
  · go_enter Tryd.func65, Tryd.ntmps65
    go_wp2_with (fail)
    refine (HS.out _ ((Below.refl _ _).alloc (Nat.le_refl _) _)).mono ?_
    rintro e w1 ⟨rfl, b1⟩
    have B1 : Below w.heap.size w w1 := ((Below.refl _ _).alloc (Nat.le_refl _) _).trans (b1.mono (by simp))
    obtain ⟨l1, c0, _, _, c5, c6, c7⟩ := H0.out.below B1
    obtain ⟨hc, hf⟩ := bcell b1
    have hz := b1.size
    simp at hz
    have hzz : w.heap.size < w1.heap.size := by omega
    clear b1 HS H0
    dsimp only at c0 c5 c6 c7
    go_wp2
    exact bodyPost_ret (v := .agg #[.int .u32 F, .int .u64 Z, .int .u8 9]) (by simp [results, Tryd.results65, go_sem, hc, hf, hzz]) rfl ⟨rfl, (((B1.setCell (Nat.le_refl _) _).setCell (Nat.le_refl _) _).setCell (Nat.le_refl _) _).alloc (by simp [World.setCell]; omega) _⟩
  · go_enter Tryd.func65, Tryd.ntmps65
    go_wp2_with (fail)
    refine (HS.out _ ((Below.refl _ _).alloc (Nat.le_refl _) _)).mono ?_
    rintro e w1 ⟨rfl, b1⟩
    have B1 : Below w.heap.size w w1 := ((Below.refl _ _).alloc (Nat.le_refl _) _).trans (b1.mono (by simp))
    obtain ⟨l1, c0, _, _, c5, c6, c7⟩ := H0.out.below B1
    obtain ⟨hc, hf⟩ := bcell b1
    have hz := b1.size
    simp at hz
    have hzz : w.heap.size < w1.heap.size := by omega
    clear b1 HS H0
    dsimp only at c0 c5 c6 c7
    go_wp2
    exact bodyPost_ret (v := .agg #[.int .u32 F, .int .u64 Z, .int .u8 73]) (by simp [results, Tryd.results65, go_sem, hc, hf, hzz]) rfl ⟨rfl, (((B1.setCell (Nat.le_refl _) _).setCell (Nat.le_refl _) _).setCell (Nat.le_refl _) _).alloc (by simp [World.setCell]; omega) _⟩
  · go_enter Tryd.func65, Tryd.ntmps65
    go_wp2_with (fail)
    refine (HS.out _ ((Below.refl _ _).alloc (Nat.le_refl _) _)).mono ?_
    rintro e w1 ⟨rfl, b1⟩
    have B1 : Below w.heap.size w w1 := ((Below.refl _ _).alloc (Nat.le_refl _) _).trans (b1.mono (by simp))
    obtain ⟨l1, c0, _, _, c5, c6, c7⟩ := H0.out.below B1
    obtain ⟨hc, hf⟩ := bcell b1
    have hz := b1.size
    simp at hz
    have hzz : w.heap.size < w1.heap.size := by omega
    clear b1 HS H0
    dsimp only at c0 c5 c6 c7
    go_wp2
    exact bodyPost_ret (v := .agg #[.int .u32 F, .int .u64 Z, .int .u8 41]) (by simp [results, Tryd.results65, go_sem, hc, hf, hzz]) rfl ⟨rfl, (((B1.setCell (Nat.le_refl _) _).setCell (Nat.le_refl _) _).setCell (Nat.le_refl _) _).alloc (by simp [World.setCell]; omega) _⟩
  · go_enter Tryd.func65, Tryd.ntmps65
    go_wp2_with (fail)
    refine (HS.out _ ((Below.refl _ _).alloc (Nat.le_refl _) _)).mono ?_
    rintro e w1 ⟨rfl, b1⟩
    have B1 : Below w.heap.size w w1 := ((Below.refl _ _).alloc (Nat.le_refl _) _).trans (b1.mono (by simp))
    obtain ⟨l1, c0, _, _, c5, c6, c7⟩ := H0.out.below B1
    obtain ⟨hc, hf⟩ := bcell b1
    have hz := b1.size
    simp at hz
    have hzz : w.heap.size < w1.heap.size := by omega
    clear b1 HS H0
    dsimp only at c0 c5 c6 c7
    go_wp2
    exact bodyPost_ret (v := .agg #[.int .u32 F, .int .u64 Z, .int .u8 105]) (by simp [results, Tryd.results65, go_sem, hc, hf, hzz]) rfl ⟨rfl, (((B1.setCell (Nat.le_refl _) _).setCell (Nat.le_refl _) _).setCell (Nat.le_refl _) _).alloc (by simp [World.setCell]; omega) _⟩
end Go.Proofs.YtibohlbkkaghkaaDoor

/- The traits of an operation: kind 2. -/
namespace Go.Proofs.YtibohlbkkaghkaaDoor
open Go.ChangeShapes Go.WideShapes Go.ChangeAt Go.RowKit
set_option linter.unusedVariables false
set_option linter.unusedSimpArgs false

set_option maxHeartbeats 1600000 in
theorem actOf_2 (g off : Nat) (o : W.Opr) (w : World) (h : OpAt g off o w) (z0 : -9223372036854775808 ≤ o.sz) (z1 : o.sz ≤ 9223372036854775807) (hk : o.k = 2) : Calls Tryd.prog 65 #[.pointer (some ⟨g, off, none⟩)] w fun e w' => e = .returned (.agg (acC (W.actO o))) ∧ Below w.heap.size w w' := by
  have hs := fun w' (hb : Below w.heap.size w w') => spanOf_any g off o w' (h.below hb) z0 z1
  have H0 : Hid (OpAt g off o w) := h
  have lt := h.lt
  clear h
  obtain ⟨k, sz, ad, vl, gt, pr, aq, rl, pd, sc⟩ := o
  unfold acC W.actO W.trt
  dsimp only at *
  unfold spV at hs
  generalize W.spn ⟨k, sz, ad, vl, gt, pr, aq, rl, pd, sc⟩ = S at *
  obtain ⟨F, Z⟩ := S
  dsimp only at *
  have HS : Hid (∀ w', _ → Calls _ _ _ _ _) := hs
  clear hs
  subst hk
  simp only [show ((2 : Int) == 4) = false from rfl, show ((2 : Int) == 1) = false from rfl, show ((2 : Int) == 2) = true from rfl, show ((2 : Int) == 3) = false from rfl, cond_true, cond_false]
  have r0 : bits .or .u8 8 2 = 10 := by kernel_rfl
  have r1 : (bits .and .u8 10 2 != 0) = true := by kernel_rfl
  have r2 : bits .or .u8 10 16 = 26 := by kernel_rfl
  have r3 : bits .or .u8 10 32 = 42 := by kernel_rfl
  have r4 : bits .or .u8 10 64 = 74 := by kernel_rfl
  have r5 : bits .or .u8 42 64 = 106 := by kernel_rfl
  have r6 : bits .or .u8 26 32 = 58 := by kernel_rfl
  have r7 : bits .or .u8 26 64 = 90 := by kernel_rfl
  have r8 : bits .or .u8 58 64 = 122 := by kernel_rfl
  cases pr <;> cases aq <;> cases rl
  · go_enter Tryd.func65, Tryd.ntmps65
    go_wp2_with (fail)
    refine (HS.out _ ((Below.refl _ _).alloc (Nat.le_refl _) _)).mono ?_
    rintro e w1 ⟨rfl, b1⟩
    have B1 : Below w.heap.size w w1 := ((Below.refl _ _).alloc (Nat.le_refl _) _).trans (b1.mono (by simp))
    obtain ⟨l1, c0, _, _, c5, c6, c7⟩ := H0.out.below B1
    obtain ⟨hc, hf⟩ := bcell b1
    have hz := b1.size
    simp at hz
    have hzz : w.heap.size < w1.heap.size := by omega
    clear b1 HS H0
    dsimp only at c0 c5 c6 c7
    go_wp2
    exact bodyPost_ret (v := .agg #[.int .u32 F, .int .u64 Z, .int .u8 10]) (by simp [results, Tryd.results65, go_sem, hc, hf, hzz]) rfl ⟨rfl, (((B1.setCell (Nat.le_refl _) _).setCell (Nat.le_refl _) _).setCell (Nat.le_refl _) _).alloc (by simp [World.setCell]; omega) _⟩
  · go_enter Tryd.func65, Tryd.ntmps65
    go_wp2_with (fail)
    refine (HS.out _ ((Below.refl _ _).alloc (Nat.le_refl _) _)).mono ?_
    rintro e w1 ⟨rfl, b1⟩
    have B1 : Below w.heap.size w w1 := ((Below.refl _ _).alloc (Nat.le_refl _) _).trans (b1.mono (by simp))
    obtain ⟨l1, c0, _, _, c5, c6, c7⟩ := H0.out.below B1
    obtain ⟨hc, hf⟩ := bcell b1
    have hz := b1.size
    simp at hz
    have hzz : w.heap.size < w1.heap.size := by omega
    clear b1 HS H0
    dsimp only at c0 c5 c6 c7
    go_wp2
    exact bodyPost_ret (v := .agg #[.int .u32 F, .int .u64 Z, .int .u8 74]) (by simp [results, Tryd.results65, go_sem, hc, hf, hzz]) rfl ⟨rfl, (((B1.setCell (Nat.le_refl _) _).setCell (Nat.le_refl _) _).setCell (Nat.le_refl _) _).alloc (by simp [World.setCell]; omega) _⟩
  · go_enter Tryd.func65, Tryd.ntmps65
    go_wp2_with (fail)
    refine (HS.out _ ((Below.refl _ _).alloc (Nat.le_refl _) _)).mono ?_
    rintro e w1 ⟨rfl, b1⟩
    have B1 : Below w.heap.size w w1 := ((Below.refl _ _).alloc (Nat.le_refl _) _).trans (b1.mono (by simp))
    obtain ⟨l1, c0, _, _, c5, c6, c7⟩ := H0.out.below B1
    obtain ⟨hc, hf⟩ := bcell b1
    have hz := b1.size
    simp at hz
    have hzz : w.heap.size < w1.heap.size := by omega
    clear b1 HS H0
    dsimp only at c0 c5 c6 c7
    go_wp2
    exact bodyPost_ret (v := .agg #[.int .u32 F, .int .u64 Z, .int .u8 42]) (by simp [results, Tryd.results65, go_sem, hc, hf, hzz]) rfl ⟨rfl, (((B1.setCell (Nat.le_refl _) _).setCell (Nat.le_refl _) _).setCell (Nat.le_refl _) _).alloc (by simp [World.setCell]; omega) _⟩
  · go_enter Tryd.func65, Tryd.ntmps65
    go_wp2_with (fail)
    refine (HS.out _ ((Below.refl _ _).alloc (Nat.le_refl _) _)).mono ?_
    rintro e w1 ⟨rfl, b1⟩
    have B1 : Below w.heap.size w w1 := ((Below.refl _ _).alloc (Nat.le_refl _) _).trans (b1.mono (by simp))
    obtain ⟨l1, c0, _, _, c5, c6, c7⟩ := H0.out.below B1
    obtain ⟨hc, hf⟩ := bcell b1
    have hz := b1.size
    simp at hz
    have hzz : w.heap.size < w1.heap.size := by omega
    clear b1 HS H0
    dsimp only at c0 c5 c6 c7
    go_wp2
    exact bodyPost_ret (v := .agg #[.int .u32 F, .int .u64 Z, .int .u8 106]) (by simp [results, Tryd.results65, go_sem, hc, hf, hzz]) rfl ⟨rfl, (((B1.setCell (Nat.le_refl _) _).setCell (Nat.le_refl _) _).setCell (Nat.le_refl _) _).alloc (by simp [World.setCell]; omega) _⟩
  · go_enter Tryd.func65, Tryd.ntmps65
    go_wp2_with (fail)
    refine (HS.out _ ((Below.refl _ _).alloc (Nat.le_refl _) _)).mono ?_
    rintro e w1 ⟨rfl, b1⟩
    have B1 : Below w.heap.size w w1 := ((Below.refl _ _).alloc (Nat.le_refl _) _).trans (b1.mono (by simp))
    obtain ⟨l1, c0, _, _, c5, c6, c7⟩ := H0.out.below B1
    obtain ⟨hc, hf⟩ := bcell b1
    have hz := b1.size
    simp at hz
    have hzz : w.heap.size < w1.heap.size := by omega
    clear b1 HS H0
    dsimp only at c0 c5 c6 c7
    go_wp2
    exact bodyPost_ret (v := .agg #[.int .u32 F, .int .u64 Z, .int .u8 26]) (by simp [results, Tryd.results65, go_sem, hc, hf, hzz]) rfl ⟨rfl, (((B1.setCell (Nat.le_refl _) _).setCell (Nat.le_refl _) _).setCell (Nat.le_refl _) _).alloc (by simp [World.setCell]; omega) _⟩
  · go_enter Tryd.func65, Tryd.ntmps65
    go_wp2_with (fail)
    refine (HS.out _ ((Below.refl _ _).alloc (Nat.le_refl _) _)).mono ?_
    rintro e w1 ⟨rfl, b1⟩
    have B1 : Below w.heap.size w w1 := ((Below.refl _ _).alloc (Nat.le_refl _) _).trans (b1.mono (by simp))
    obtain ⟨l1, c0, _, _, c5, c6, c7⟩ := H0.out.below B1
    obtain ⟨hc, hf⟩ := bcell b1
    have hz := b1.size
    simp at hz
    have hzz : w.heap.size < w1.heap.size := by omega
    clear b1 HS H0
    dsimp only at c0 c5 c6 c7
    go_wp2
    exact bodyPost_ret (v := .agg #[.int .u32 F, .int .u64 Z, .int .u8 90]) (by simp [results, Tryd.results65, go_sem, hc, hf, hzz]) rfl ⟨rfl, (((B1.setCell (Nat.le_refl _) _).setCell (Nat.le_refl _) _).setCell (Nat.le_refl _) _).alloc (by simp [World.setCell]; omega) _⟩
  · go_enter Tryd.func65, Tryd.ntmps65
    go_wp2_with (fail)
    refine (HS.out _ ((Below.refl _ _).alloc (Nat.le_refl _) _)).mono ?_
    rintro e w1 ⟨rfl, b1⟩
    have B1 : Below w.heap.size w w1 := ((Below.refl _ _).alloc (Nat.le_refl _) _).trans (b1.mono (by simp))
    obtain ⟨l1, c0, _, _, c5, c6, c7⟩ := H0.out.below B1
    obtain ⟨hc, hf⟩ := bcell b1
    have hz := b1.size
    simp at hz
    have hzz : w.heap.size < w1.heap.size := by omega
    clear b1 HS H0
    dsimp only at c0 c5 c6 c7
    go_wp2
    exact bodyPost_ret (v := .agg #[.int .u32 F, .int .u64 Z, .int .u8 58]) (by simp [results, Tryd.results65, go_sem, hc, hf, hzz]) rfl ⟨rfl, (((B1.setCell (Nat.le_refl _) _).setCell (Nat.le_refl _) _).setCell (Nat.le_refl _) _).alloc (by simp [World.setCell]; omega) _⟩
  · go_enter Tryd.func65, Tryd.ntmps65
    go_wp2_with (fail)
    refine (HS.out _ ((Below.refl _ _).alloc (Nat.le_refl _) _)).mono ?_
    rintro e w1 ⟨rfl, b1⟩
    have B1 : Below w.heap.size w w1 := ((Below.refl _ _).alloc (Nat.le_refl _) _).trans (b1.mono (by simp))
    obtain ⟨l1, c0, _, _, c5, c6, c7⟩ := H0.out.below B1
    obtain ⟨hc, hf⟩ := bcell b1
    have hz := b1.size
    simp at hz
    have hzz : w.heap.size < w1.heap.size := by omega
    clear b1 HS H0
    dsimp only at c0 c5 c6 c7
    go_wp2
    exact bodyPost_ret (v := .agg #[.int .u32 F, .int .u64 Z, .int .u8 122]) (by simp [results, Tryd.results65, go_sem, hc, hf, hzz]) rfl ⟨rfl, (((B1.setCell (Nat.le_refl _) _).setCell (Nat.le_refl _) _).setCell (Nat.le_refl _) _).alloc (by simp [World.setCell]; omega) _⟩
end Go.Proofs.YtibohlbkkaghkaaDoor

/- The traits of an operation: kind 3. -/
namespace Go.Proofs.YtibohlbkkaghkaaDoor
open Go.ChangeShapes Go.WideShapes Go.ChangeAt Go.RowKit
set_option linter.unusedVariables false
set_option linter.unusedSimpArgs false

set_option maxHeartbeats 1600000 in
theorem actOf_3 (g off : Nat) (o : W.Opr) (w : World) (h : OpAt g off o w) (z0 : -9223372036854775808 ≤ o.sz) (z1 : o.sz ≤ 9223372036854775807) (hk : o.k = 3) : Calls Tryd.prog 65 #[.pointer (some ⟨g, off, none⟩)] w fun e w' => e = .returned (.agg (acC (W.actO o))) ∧ Below w.heap.size w w' := by
  have hs := fun w' (hb : Below w.heap.size w w') => spanOf_any g off o w' (h.below hb) z0 z1
  have H0 : Hid (OpAt g off o w) := h
  have lt := h.lt
  clear h
  obtain ⟨k, sz, ad, vl, gt, pr, aq, rl, pd, sc⟩ := o
  unfold acC W.actO W.trt
  dsimp only at *
  unfold spV at hs
  generalize W.spn ⟨k, sz, ad, vl, gt, pr, aq, rl, pd, sc⟩ = S at *
  obtain ⟨F, Z⟩ := S
  dsimp only at *
  have HS : Hid (∀ w', _ → Calls _ _ _ _ _) := hs
  clear hs
  subst hk
  simp only [show ((3 : Int) == 4) = false from rfl, show ((3 : Int) == 1) = false from rfl, show ((3 : Int) == 2) = false from rfl, show ((3 : Int) == 3) = true from rfl, cond_true, cond_false]
  have r0 : bits .or .u8 8 19 = 27 := by kernel_rfl
  have r1 : (bits .and .u8 27 2 != 0) = true := by kernel_rfl
  have r2 : bits .or .u8 27 16 = 27 := by kernel_rfl
  have r3 : bits .or .u8 27 32 = 59 := by kernel_rfl
  have r4 : bits .or .u8 27 64 = 91 := by kernel_rfl
  have r5 : bits .or .u8 59 64 = 123 := by kernel_rfl
  cases pr <;> cases aq <;> cases rl
  · go_enter Tryd.func65, Tryd.ntmps65
    go_wp2_with (fail)
    refine (HS.out _ ((Below.refl _ _).alloc (Nat.le_refl _) _)).mono ?_
    rintro e w1 ⟨rfl, b1⟩
    have B1 : Below w.heap.size w w1 := ((Below.refl _ _).alloc (Nat.le_refl _) _).trans (b1.mono (by simp))
    obtain ⟨l1, c0, _, _, c5, c6, c7⟩ := H0.out.below B1
    obtain ⟨hc, hf⟩ := bcell b1
    have hz := b1.size
    simp at hz
    have hzz : w.heap.size < w1.heap.size := by omega
    clear b1 HS H0
    dsimp only at c0 c5 c6 c7
    go_wp2
    exact bodyPost_ret (v := .agg #[.int .u32 F, .int .u64 Z, .int .u8 27]) (by simp [results, Tryd.results65, go_sem, hc, hf, hzz]) rfl ⟨rfl, (((B1.setCell (Nat.le_refl _) _).setCell (Nat.le_refl _) _).setCell (Nat.le_refl _) _).alloc (by simp [World.setCell]; omega) _⟩
  · go_enter Tryd.func65, Tryd.ntmps65
    go_wp2_with (fail)
    refine (HS.out _ ((Below.refl _ _).alloc (Nat.le_refl _) _)).mono ?_
    rintro e w1 ⟨rfl, b1⟩
    have B1 : Below w.heap.size w w1 := ((Below.refl _ _).alloc (Nat.le_refl _) _).trans (b1.mono (by simp))
    obtain ⟨l1, c0, _, _, c5, c6, c7⟩ := H0.out.below B1
    obtain ⟨hc, hf⟩ := bcell b1
    have hz := b1.size
    simp at hz
    have hzz : w.heap.size < w1.heap.size := by omega
    clear b1 HS H0
    dsimp only at c0 c5 c6 c7
    go_wp2
    exact bodyPost_ret (v := .agg #[.int .u32 F, .int .u64 Z, .int .u8 91]) (by simp [results, Tryd.results65, go_sem, hc, hf, hzz]) rfl ⟨rfl, (((B1.setCell (Nat.le_refl _) _).setCell (Nat.le_refl _) _).setCell (Nat.le_refl _) _).alloc (by simp [World.setCell]; omega) _⟩
  · go_enter Tryd.func65, Tryd.ntmps65
    go_wp2_with (fail)
    refine (HS.out _ ((Below.refl _ _).alloc (Nat.le_refl _) _)).mono ?_
    rintro e w1 ⟨rfl, b1⟩
    have B1 : Below w.heap.size w w1 := ((Below.refl _ _).alloc (Nat.le_refl _) _).trans (b1.mono (by simp))
    obtain ⟨l1, c0, _, _, c5, c6, c7⟩ := H0.out.below B1
    obtain ⟨hc, hf⟩ := bcell b1
    have hz := b1.size
    simp at hz
    have hzz : w.heap.size < w1.heap.size := by omega
    clear b1 HS H0
    dsimp only at c0 c5 c6 c7
    go_wp2
    exact bodyPost_ret (v := .agg #[.int .u32 F, .int .u64 Z, .int .u8 59]) (by simp [results, Tryd.results65, go_sem, hc, hf, hzz]) rfl ⟨rfl, (((B1.setCell (Nat.le_refl _) _).setCell (Nat.le_refl _) _).setCell (Nat.le_refl _) _).alloc (by simp [World.setCell]; omega) _⟩
  · go_enter Tryd.func65, Tryd.ntmps65
    go_wp2_with (fail)
    refine (HS.out _ ((Below.refl _ _).alloc (Nat.le_refl _) _)).mono ?_
    rintro e w1 ⟨rfl, b1⟩
    have B1 : Below w.heap.size w w1 := ((Below.refl _ _).alloc (Nat.le_refl _) _).trans (b1.mono (by simp))
    obtain ⟨l1, c0, _, _, c5, c6, c7⟩ := H0.out.below B1
    obtain ⟨hc, hf⟩ := bcell b1
    have hz := b1.size
    simp at hz
    have hzz : w.heap.size < w1.heap.size := by omega
    clear b1 HS H0
    dsimp only at c0 c5 c6 c7
    go_wp2
    exact bodyPost_ret (v := .agg #[.int .u32 F, .int .u64 Z, .int .u8 123]) (by simp [results, Tryd.results65, go_sem, hc, hf, hzz]) rfl ⟨rfl, (((B1.setCell (Nat.le_refl _) _).setCell (Nat.le_refl _) _).setCell (Nat.le_refl _) _).alloc (by simp [World.setCell]; omega) _⟩
  · go_enter Tryd.func65, Tryd.ntmps65
    go_wp2_with (fail)
    refine (HS.out _ ((Below.refl _ _).alloc (Nat.le_refl _) _)).mono ?_
    rintro e w1 ⟨rfl, b1⟩
    have B1 : Below w.heap.size w w1 := ((Below.refl _ _).alloc (Nat.le_refl _) _).trans (b1.mono (by simp))
    obtain ⟨l1, c0, _, _, c5, c6, c7⟩ := H0.out.below B1
    obtain ⟨hc, hf⟩ := bcell b1
    have hz := b1.size
    simp at hz
    have hzz : w.heap.size < w1.heap.size := by omega
    clear b1 HS H0
    dsimp only at c0 c5 c6 c7
    go_wp2
    exact bodyPost_ret (v := .agg #[.int .u32 F, .int .u64 Z, .int .u8 27]) (by simp [results, Tryd.results65, go_sem, hc, hf, hzz]) rfl ⟨rfl, (((B1.setCell (Nat.le_refl _) _).setCell (Nat.le_refl _) _).setCell (Nat.le_refl _) _).alloc (by simp [World.setCell]; omega) _⟩
  · go_enter Tryd.func65, Tryd.ntmps65
    go_wp2_with (fail)
    refine (HS.out _ ((Below.refl _ _).alloc (Nat.le_refl _) _)).mono ?_
    rintro e w1 ⟨rfl, b1⟩
    have B1 : Below w.heap.size w w1 := ((Below.refl _ _).alloc (Nat.le_refl _) _).trans (b1.mono (by simp))
    obtain ⟨l1, c0, _, _, c5, c6, c7⟩ := H0.out.below B1
    obtain ⟨hc, hf⟩ := bcell b1
    have hz := b1.size
    simp at hz
    have hzz : w.heap.size < w1.heap.size := by omega
    clear b1 HS H0
    dsimp only at c0 c5 c6 c7
    go_wp2
    exact bodyPost_ret (v := .agg #[.int .u32 F, .int .u64 Z, .int .u8 91]) (by simp [results, Tryd.results65, go_sem, hc, hf, hzz]) rfl ⟨rfl, (((B1.setCell (Nat.le_refl _) _).setCell (Nat.le_refl _) _).setCell (Nat.le_refl _) _).alloc (by simp [World.setCell]; omega) _⟩
  · go_enter Tryd.func65, Tryd.ntmps65
    go_wp2_with (fail)
    refine (HS.out _ ((Below.refl _ _).alloc (Nat.le_refl _) _)).mono ?_
    rintro e w1 ⟨rfl, b1⟩
    have B1 : Below w.heap.size w w1 := ((Below.refl _ _).alloc (Nat.le_refl _) _).trans (b1.mono (by simp))
    obtain ⟨l1, c0, _, _, c5, c6, c7⟩ := H0.out.below B1
    obtain ⟨hc, hf⟩ := bcell b1
    have hz := b1.size
    simp at hz
    have hzz : w.heap.size < w1.heap.size := by omega
    clear b1 HS H0
    dsimp only at c0 c5 c6 c7
    go_wp2
    exact bodyPost_ret (v := .agg #[.int .u32 F, .int .u64 Z, .int .u8 59]) (by simp [results, Tryd.results65, go_sem, hc, hf, hzz]) rfl ⟨rfl, (((B1.setCell (Nat.le_refl _) _).setCell (Nat.le_refl _) _).setCell (Nat.le_refl _) _).alloc (by simp [World.setCell]; omega) _⟩
  · go_enter Tryd.func65, Tryd.ntmps65
    go_wp2_with (fail)
    refine (HS.out _ ((Below.refl _ _).alloc (Nat.le_refl _) _)).mono ?_
    rintro e w1 ⟨rfl, b1⟩
    have B1 : Below w.heap.size w w1 := ((Below.refl _ _).alloc (Nat.le_refl _) _).trans (b1.mono (by simp))
    obtain ⟨l1, c0, _, _, c5, c6, c7⟩ := H0.out.below B1
    obtain ⟨hc, hf⟩ := bcell b1
    have hz := b1.size
    simp at hz
    have hzz : w.heap.size < w1.heap.size := by omega
    clear b1 HS H0
    dsimp only at c0 c5 c6 c7
    go_wp2
    exact bodyPost_ret (v := .agg #[.int .u32 F, .int .u64 Z, .int .u8 123]) (by simp [results, Tryd.results65, go_sem, hc, hf, hzz]) rfl ⟨rfl, (((B1.setCell (Nat.le_refl _) _).setCell (Nat.le_refl _) _).setCell (Nat.le_refl _) _).alloc (by simp [World.setCell]; omega) _⟩
end Go.Proofs.YtibohlbkkaghkaaDoor

/- The traits of an operation: kind 4. -/
namespace Go.Proofs.YtibohlbkkaghkaaDoor
open Go.ChangeShapes Go.WideShapes Go.ChangeAt Go.RowKit
set_option linter.unusedVariables false
set_option linter.unusedSimpArgs false

set_option maxHeartbeats 1600000 in
theorem actOf_4 (g off : Nat) (o : W.Opr) (w : World) (h : OpAt g off o w) (z0 : -9223372036854775808 ≤ o.sz) (z1 : o.sz ≤ 9223372036854775807) (hk : o.k = 4) : Calls Tryd.prog 65 #[.pointer (some ⟨g, off, none⟩)] w fun e w' => e = .returned (.agg (acC (W.actO o))) ∧ Below w.heap.size w w' := by
  have hs := fun w' (hb : Below w.heap.size w w') => spanOf_any g off o w' (h.below hb) z0 z1
  have H0 : Hid (OpAt g off o w) := h
  have lt := h.lt
  clear h
  obtain ⟨k, sz, ad, vl, gt, pr, aq, rl, pd, sc⟩ := o
  unfold acC W.actO W.trt
  dsimp only at *
  unfold spV at hs
  generalize W.spn ⟨k, sz, ad, vl, gt, pr, aq, rl, pd, sc⟩ = S at *
  obtain ⟨F, Z⟩ := S
  dsimp only at *
  have HS : Hid (∀ w', _ → Calls _ _ _ _ _) := hs
  clear hs
  subst hk
  simp only [show ((4 : Int) == 4) = true from rfl, cond_true]
  go_enter Tryd.func65, Tryd.ntmps65
  go_wp2_with (fail)
  refine (HS.out _ ((Below.refl _ _).alloc (Nat.le_refl _) _)).mono ?_
  rintro e w1 ⟨rfl, b1⟩
  have B1 : Below w.heap.size w w1 := ((Below.refl _ _).alloc (Nat.le_refl _) _).trans (b1.mono (by simp))
  obtain ⟨l1, c0, _, _, c5, c6, c7⟩ := H0.out.below B1
  obtain ⟨hc, hf⟩ := bcell b1
  have hz := b1.size
  simp at hz
  have hzz : w.heap.size < w1.heap.size := by omega
  clear b1 HS H0
  dsimp only at c0 c5 c6 c7
  go_wp2
  exact bodyPost_ret (v := .agg #[.int .u32 0, .int .u64 0, .int .u8 4]) (by simp [results, Tryd.results65, go_sem, hc, hf, hzz]) rfl ⟨rfl, (((B1.setCell (Nat.le_refl _) _).setCell (Nat.le_refl _) _).setCell (Nat.le_refl _) _).alloc (by simp [World.setCell]; omega) _⟩
end Go.Proofs.YtibohlbkkaghkaaDoor

/- The traits of an operation: kind o. -/
namespace Go.Proofs.YtibohlbkkaghkaaDoor
open Go.ChangeShapes Go.WideShapes Go.ChangeAt Go.RowKit
set_option linter.unusedVariables false
set_option linter.unusedSimpArgs false

set_option maxHeartbeats 1600000 in
theorem actOf_o (g off : Nat) (o : W.Opr) (w : World) (h : OpAt g off o w) (z0 : -9223372036854775808 ≤ o.sz) (z1 : o.sz ≤ 9223372036854775807) (k1 : (o.k == 1) = false) (k2 : (o.k == 2) = false) (k3 : (o.k == 3) = false) (k4 : (o.k == 4) = false) : Calls Tryd.prog 65 #[.pointer (some ⟨g, off, none⟩)] w fun e w' => e = .returned (.agg (acC (W.actO o))) ∧ Below w.heap.size w w' := by
  have hs := fun w' (hb : Below w.heap.size w w') => spanOf_any g off o w' (h.below hb) z0 z1
  have H0 : Hid (OpAt g off o w) := h
  have lt := h.lt
  clear h
  obtain ⟨k, sz, ad, vl, gt, pr, aq, rl, pd, sc⟩ := o
  unfold acC W.actO W.trt
  dsimp only at *
  unfold spV at hs
  generalize W.spn ⟨k, sz, ad, vl, gt, pr, aq, rl, pd, sc⟩ = S at *
  obtain ⟨F, Z⟩ := S
  dsimp only at *
  have HS : Hid (∀ w', _ → Calls _ _ _ _ _) := hs
  clear hs
  rw [k1, k2, k3, k4]
  simp only [cond_false]
  have r0 : (bits .and .u8 8 2 != 0) = false := by kernel_rfl
  have r1 : bits .or .u8 8 32 = 40 := by kernel_rfl
  have r2 : bits .or .u8 8 64 = 72 := by kernel_rfl
  have r3 : bits .or .u8 40 64 = 104 := by kernel_rfl
  cases pr <;> cases aq <;> cases rl
  · go_enter Tryd.func65, Tryd.ntmps65
    go_wp2_with (fail)
    refine (HS.out _ ((Below.refl _ _).alloc (Nat.le_refl _) _)).mono ?_
    rintro e w1 ⟨rfl, b1⟩
    have B1 : Below w.heap.size w w1 := ((Below.refl _ _).alloc (Nat.le_refl _) _).trans (b1.mono (by simp))
    obtain ⟨l1, c0, _, _, c5, c6, c7⟩ := H0.out.below B1
    obtain ⟨hc, hf⟩ := bcell b1
    have hz := b1.size
    simp at hz
    have hzz : w.heap.size < w1.heap.size := by omega
    clear b1 HS H0
    dsimp only at c0 c5 c6 c7
    go_wp2
    exact bodyPost_ret (v := .agg #[.int .u32 F, .int .u64 Z, .int .u8 8]) (by simp [results, Tryd.results65, go_sem, hc, hf, hzz]) rfl ⟨rfl, (((B1.setCell (Nat.le_refl _) _).setCell (Nat.le_refl _) _).setCell (Nat.le_refl _) _).alloc (by simp [World.setCell]; omega) _⟩
  · go_enter Tryd.func65, Tryd.ntmps65
    go_wp2_with (fail)
    refine (HS.out _ ((Below.refl _ _).alloc (Nat.le_refl _) _)).mono ?_
    rintro e w1 ⟨rfl, b1⟩
    have B1 : Below w.heap.size w w1 := ((Below.refl _ _).alloc (Nat.le_refl _) _).trans (b1.mono (by simp))
    obtain ⟨l1, c0, _, _, c5, c6, c7⟩ := H0.out.below B1
    obtain ⟨hc, hf⟩ := bcell b1
    have hz := b1.size
    simp at hz
    have hzz : w.heap.size < w1.heap.size := by omega
    clear b1 HS H0
    dsimp only at c0 c5 c6 c7
    go_wp2
    exact bodyPost_ret (v := .agg #[.int .u32 F, .int .u64 Z, .int .u8 72]) (by simp [results, Tryd.results65, go_sem, hc, hf, hzz]) rfl ⟨rfl, (((B1.setCell (Nat.le_refl _) _).setCell (Nat.le_refl _) _).setCell (Nat.le_refl _) _).alloc (by simp [World.setCell]; omega) _⟩
  · go_enter Tryd.func65, Tryd.ntmps65
    go_wp2_with (fail)
    refine (HS.out _ ((Below.refl _ _).alloc (Nat.le_refl _) _)).mono ?_
    rintro e w1 ⟨rfl, b1⟩
    have B1 : Below w.heap.size w w1 := ((Below.refl _ _).alloc (Nat.le_refl _) _).trans (b1.mono (by simp))
    obtain ⟨l1, c0, _, _, c5, c6, c7⟩ := H0.out.below B1
    obtain ⟨hc, hf⟩ := bcell b1
    have hz := b1.size
    simp at hz
    have hzz : w.heap.size < w1.heap.size := by omega
    clear b1 HS H0
    dsimp only at c0 c5 c6 c7
    go_wp2
    exact bodyPost_ret (v := .agg #[.int .u32 F, .int .u64 Z, .int .u8 40]) (by simp [results, Tryd.results65, go_sem, hc, hf, hzz]) rfl ⟨rfl, (((B1.setCell (Nat.le_refl _) _).setCell (Nat.le_refl _) _).setCell (Nat.le_refl _) _).alloc (by simp [World.setCell]; omega) _⟩
  · go_enter Tryd.func65, Tryd.ntmps65
    go_wp2_with (fail)
    refine (HS.out _ ((Below.refl _ _).alloc (Nat.le_refl _) _)).mono ?_
    rintro e w1 ⟨rfl, b1⟩
    have B1 : Below w.heap.size w w1 := ((Below.refl _ _).alloc (Nat.le_refl _) _).trans (b1.mono (by simp))
    obtain ⟨l1, c0, _, _, c5, c6, c7⟩ := H0.out.below B1
    obtain ⟨hc, hf⟩ := bcell b1
    have hz := b1.size
    simp at hz
    have hzz : w.heap.size < w1.heap.size := by omega
    clear b1 HS H0
    dsimp only at c0 c5 c6 c7
    go_wp2
    exact bodyPost_ret (v := .agg #[.int .u32 F, .int .u64 Z, .int .u8 104]) (by simp [results, Tryd.results65, go_sem, hc, hf, hzz]) rfl ⟨rfl, (((B1.setCell (Nat.le_refl _) _).setCell (Nat.le_refl _) _).setCell (Nat.le_refl _) _).alloc (by simp [World.setCell]; omega) _⟩
  · go_enter Tryd.func65, Tryd.ntmps65
    go_wp2_with (fail)
    refine (HS.out _ ((Below.refl _ _).alloc (Nat.le_refl _) _)).mono ?_
    rintro e w1 ⟨rfl, b1⟩
    have B1 : Below w.heap.size w w1 := ((Below.refl _ _).alloc (Nat.le_refl _) _).trans (b1.mono (by simp))
    obtain ⟨l1, c0, _, _, c5, c6, c7⟩ := H0.out.below B1
    obtain ⟨hc, hf⟩ := bcell b1
    have hz := b1.size
    simp at hz
    have hzz : w.heap.size < w1.heap.size := by omega
    clear b1 HS H0
    dsimp only at c0 c5 c6 c7
    go_wp2
    exact bodyPost_ret (v := .agg #[.int .u32 F, .int .u64 Z, .int .u8 8]) (by simp [results, Tryd.results65, go_sem, hc, hf, hzz]) rfl ⟨rfl, (((B1.setCell (Nat.le_refl _) _).setCell (Nat.le_refl _) _).setCell (Nat.le_refl _) _).alloc (by simp [World.setCell]; omega) _⟩
  · go_enter Tryd.func65, Tryd.ntmps65
    go_wp2_with (fail)
    refine (HS.out _ ((Below.refl _ _).alloc (Nat.le_refl _) _)).mono ?_
    rintro e w1 ⟨rfl, b1⟩
    have B1 : Below w.heap.size w w1 := ((Below.refl _ _).alloc (Nat.le_refl _) _).trans (b1.mono (by simp))
    obtain ⟨l1, c0, _, _, c5, c6, c7⟩ := H0.out.below B1
    obtain ⟨hc, hf⟩ := bcell b1
    have hz := b1.size
    simp at hz
    have hzz : w.heap.size < w1.heap.size := by omega
    clear b1 HS H0
    dsimp only at c0 c5 c6 c7
    go_wp2
    exact bodyPost_ret (v := .agg #[.int .u32 F, .int .u64 Z, .int .u8 72]) (by simp [results, Tryd.results65, go_sem, hc, hf, hzz]) rfl ⟨rfl, (((B1.setCell (Nat.le_refl _) _).setCell (Nat.le_refl _) _).setCell (Nat.le_refl _) _).alloc (by simp [World.setCell]; omega) _⟩
  · go_enter Tryd.func65, Tryd.ntmps65
    go_wp2_with (fail)
    refine (HS.out _ ((Below.refl _ _).alloc (Nat.le_refl _) _)).mono ?_
    rintro e w1 ⟨rfl, b1⟩
    have B1 : Below w.heap.size w w1 := ((Below.refl _ _).alloc (Nat.le_refl _) _).trans (b1.mono (by simp))
    obtain ⟨l1, c0, _, _, c5, c6, c7⟩ := H0.out.below B1
    obtain ⟨hc, hf⟩ := bcell b1
    have hz := b1.size
    simp at hz
    have hzz : w.heap.size < w1.heap.size := by omega
    clear b1 HS H0
    dsimp only at c0 c5 c6 c7
    go_wp2
    exact bodyPost_ret (v := .agg #[.int .u32 F, .int .u64 Z, .int .u8 40]) (by simp [results, Tryd.results65, go_sem, hc, hf, hzz]) rfl ⟨rfl, (((B1.setCell (Nat.le_refl _) _).setCell (Nat.le_refl _) _).setCell (Nat.le_refl _) _).alloc (by simp [World.setCell]; omega) _⟩
  · go_enter Tryd.func65, Tryd.ntmps65
    go_wp2_with (fail)
    refine (HS.out _ ((Below.refl _ _).alloc (Nat.le_refl _) _)).mono ?_
    rintro e w1 ⟨rfl, b1⟩
    have B1 : Below w.heap.size w w1 := ((Below.refl _ _).alloc (Nat.le_refl _) _).trans (b1.mono (by simp))
    obtain ⟨l1, c0, _, _, c5, c6, c7⟩ := H0.out.below B1
    obtain ⟨hc, hf⟩ := bcell b1
    have hz := b1.size
    simp at hz
    have hzz : w.heap.size < w1.heap.size := by omega
    clear b1 HS H0
    dsimp only at c0 c5 c6 c7
    go_wp2
    exact bodyPost_ret (v := .agg #[.int .u32 F, .int .u64 Z, .int .u8 104]) (by simp [results, Tryd.results65, go_sem, hc, hf, hzz]) rfl ⟨rfl, (((B1.setCell (Nat.le_refl _) _).setCell (Nat.le_refl _) _).setCell (Nat.le_refl _) _).alloc (by simp [World.setCell]; omega) _⟩
end Go.Proofs.YtibohlbkkaghkaaDoor

/- The traits of an operation. -/
namespace Go.Proofs.YtibohlbkkaghkaaDoor
open Go.ChangeShapes Go.WideShapes Go.ChangeAt Go.RowKit
set_option linter.unusedVariables false

theorem actOf_any (g off : Nat) (o : W.Opr) (w : World) (h : OpAt g off o w) (z0 : -9223372036854775808 ≤ o.sz) (z1 : o.sz ≤ 9223372036854775807) : Calls Tryd.prog 65 #[.pointer (some ⟨g, off, none⟩)] w fun e w' => e = .returned (.agg (acC (W.actO o))) ∧ Below w.heap.size w w' := by
  by_cases k1 : o.k = 1
  · exact actOf_1 g off o w h z0 z1 k1
  · by_cases k2 : o.k = 2
    · exact actOf_2 g off o w h z0 z1 k2
    · by_cases k3 : o.k = 3
      · exact actOf_3 g off o w h z0 z1 k3
      · by_cases k4 : o.k = 4
        · exact actOf_4 g off o w h z0 z1 k4
        · exact actOf_o g off o w h z0 z1 (by simpa using k1) (by simpa using k2) (by simpa using k3) (by simpa using k4)
end Go.Proofs.YtibohlbkkaghkaaDoor

/- A look in memory. -/
namespace Go.Proofs.YtibohlbkkaghkaaDoor
open Go.ChangeShapes Go.WideShapes Go.ChangeAt Go.RowKit
set_option linter.unusedVariables false
set_option linter.unusedSimpArgs false
variable {F : Nat → Option Obj}

/-- A block holds these cells. -/
structure Bc (b n : Nat) (f : Nat → Value) (w : World) : Prop where
  lt : b < w.heap.size
  c : ∀ j, j < n → w.cell? ⟨b, j, none⟩ = some (f j)
  fz : ∀ j, w.frozen? ⟨b, j, none⟩ = false
theorem Bc.below {b n : Nat} {f : Nat → Value} {w w' : World} (h : Bc b n f w) (hb : Below w.heap.size w w') : Bc b n f w' :=
  ⟨Nat.lt_of_lt_of_le h.lt hb.size, fun j hj => (hb.cell (p := ⟨b, j, none⟩) h.lt).trans (h.c j hj), fun j => (hb.frozen (p := ⟨b, j, none⟩) h.lt).trans (h.fz j)⟩
def updV (f : Nat → Value) (k : Nat) (v : Value) : Nat → Value := fun j => if j = k then v else f j
theorem Bc.set {b n : Nat} {f : Nat → Value} {w : World} (h : Bc b n f w) (k : Nat) (v : Value) : Bc b n (updV f k v) (w.setCell ⟨b, k, none⟩ v) :=
  ⟨by simpa [World.setCell] using h.lt, fun j hj => by
    unfold updV
    by_cases e : j = k
    · subst e
      rw [if_pos rfl]
      exact World.cell?_setCell_same _ _ _ (h.c j hj)
    · rw [if_neg e]
      exact (World.cell?_setCell_other _ _ _ _ (by simp [e])).trans (h.c j hj), fun j => (World.frozen?_setCell _ _ _ _).trans (h.fz j)⟩
theorem Bc.other {b n : Nat} {f : Nat → Value} {w : World} (h : Bc b n f w) (g k : Nat) (v : Value) (hg : b ≠ g) : Bc b n f (w.setCell ⟨g, k, none⟩ v) :=
  ⟨by simpa [World.setCell] using h.lt, fun j hj => (World.cell?_setCell_other _ _ _ _ (by simp [hg])).trans (h.c j hj), fun j => (World.frozen?_setCell _ _ _ _).trans (h.fz j)⟩
theorem Bc.grown {b n : Nat} {f : Nat → Value} {w w' : World} {r : Option Nat} (h : Bc b n f w) (hg : w.grownBy w' r) (hne : some b ≠ r) : Bc b n f w' := by
  have q := hg.block b h.lt hne
  exact ⟨Nat.lt_of_lt_of_le h.lt hg.size, fun j hj => (World.cell?_of_block q).trans (h.c j hj), fun j => by
    have := h.fz j
    simp only [World.frozen?] at this ⊢
    rw [q]
    exact this⟩
theorem Bc.congr {b n : Nat} {f g : Nat → Value} {w : World} (h : Bc b n f w) (e : ∀ j, j < n → f j = g j) : Bc b n g w := ⟨h.lt, fun j hj => by rw [← e j hj]; exact h.c j hj, h.fz⟩
theorem gsetCell (w : World) (b k : Nat) (v : Value) : w.grownBy (w.setCell ⟨b, k, none⟩ v) (some b) := by
  refine ⟨rfl, rfl, rfl, by simp [World.setCell], fun g hb hne => ?_⟩
  simp only [World.setCell, Array.getElem?_modify]
  rw [if_neg (fun e => hne (by rw [e]))]
/-- All that a look is. -/
structure Kd where
  kb : Nat
  ab : Nat
  pb : Nat
  rb : Nat
  hb : Nat
  n : Nat
  l : Value
  A : Nat → W.Act
  P : Nat → Int
  R : Nat → Int
  G : Nat → Int
  b : W.Act
  k : Int
  H : W.Sl
  hid : List W.Sp
def Kd.f (d : Kd) : Nat → Value
  | 0 => d.l
  | 1 => .slice (some ⟨d.ab, 0, none⟩) d.n d.n
  | 2 => .slice (some ⟨d.pb, 0, none⟩) d.n d.n
  | 3 => .slice (some ⟨d.rb, 0, none⟩) d.n d.n
  | 4 => .slice (some ⟨d.hb, 0, none⟩) d.n d.n
  | 5 => .int .u32 d.b.p.f
  | 6 => .int .u64 d.b.p.s
  | 7 => .int .u8 d.b.t
  | 8 => .int .u8 d.k
  | _ => slV d.H
def acF (A : Nat → W.Act) (j : Nat) : Value := match j % 3 with | 0 => .int .u32 (A (j / 3)).p.f | 1 => .int .u64 (A (j / 3)).p.s | _ => .int .u8 (A (j / 3)).t
def spX (l : List W.Sp) : List Value := l.flatMap fun s => [.int .u32 s.f, .int .u64 s.s]
structure LkF (F : Nat → Option Obj) (w0 : World) (d : Kd) (w : World) : Prop where
  bl : Below w0.heap.size w0 w
  k : Bc d.kb 10 d.f w
  a : Bc d.ab (3 * d.n) (acF d.A) w
  p : Bc d.pb d.n (fun j => .int .i64 (d.P j)) w
  r : Bc d.rb d.n (fun j => .int .u8 (d.R j)) w
  g : Bc d.hb d.n (fun j => .int .u8 (d.G j)) w
  h : w.ownsRow w0.heap.size 114 2 (slV d.H) d.hid.length (spX d.hid)
  nk : w0.heap.size ≤ d.kb
  na : w0.heap.size ≤ d.ab
  np : w0.heap.size ≤ d.pb
  nr : w0.heap.size ≤ d.rb
  ng : w0.heap.size ≤ d.hb
  ka : d.kb ≠ d.ab
  kp : d.kb ≠ d.pb
  kr : d.kb ≠ d.rb
  kg : d.kb ≠ d.hb
  ap : d.ab ≠ d.pb
  ar : d.ab ≠ d.rb
  ag : d.ab ≠ d.hb
  pr : d.pb ≠ d.rb
  pg : d.pb ≠ d.hb
  rg : d.rb ≠ d.hb
  hk : some d.kb ≠ (slV d.H).ownBlock
  ha : some d.ab ≠ (slV d.H).ownBlock
  hp : some d.pb ≠ (slV d.H).ownBlock
  hr : some d.rb ≠ (slV d.H).ownBlock
  hg : some d.hb ≠ (slV d.H).ownBlock
  ok : ∀ s ∈ d.hid, W.SpOk s
  fr : ∀ c o, F c = some o → w.heap[c]? = some o ∧ c ≠ d.kb ∧ c ≠ d.ab ∧ c ≠ d.pb ∧ c ≠ d.rb ∧ c ≠ d.hb ∧ some c ≠ (slV d.H).ownBlock
def F0 : Nat → Option Obj := fun _ => none
theorem blk_lt {w : World} {c : Nat} {o : Obj} (h : w.heap[c]? = some o) : c < w.heap.size := (Array.getElem?_eq_some_iff.1 h).1
theorem own_below {w w' : World} {base : Nat} {e : TypeId} {size : Nat} {v : Value} {n : Nat} {xs : List Value} (h : w.ownsRow base e size v n xs) (hb : Below w.heap.size w w') : w'.ownsRow base e size v n xs :=
  h.kept (row := none) ⟨hb.os, hb.tape, hb.output, hb.size, fun k hk _ => hb.block k hk⟩ (by cases hv : v.ownBlock <;> simp)
theorem LkF.below {w0 : World} {d : Kd} {w w' : World} (h : LkF F w0 d w) (hb : Below w.heap.size w w') : LkF F w0 d w' :=
  { h with bl := h.bl.trans (hb.mono h.bl.size), k := h.k.below hb, a := h.a.below hb, p := h.p.below hb, r := h.r.below hb, g := h.g.below hb, h := own_below h.h hb, fr := fun c o e => ⟨(hb.block c (blk_lt (h.fr c o e).1)).trans (h.fr c o e).1, (h.fr c o e).2⟩ }
theorem ne_some {a b : Nat} (h : a ≠ b) : some a ≠ some b := fun e => h (Option.some.inj e)
theorem LkF.act {w0 : World} {d : Kd} {w : World} (h : LkF F w0 d w) (j : Nat) (hj : j < d.n) : w.cell? ⟨d.ab, j * 3, none⟩ = some (.int .u32 (d.A j).p.f) ∧ w.cell? ⟨d.ab, j * 3 + 1, none⟩ = some (.int .u64 (d.A j).p.s) ∧ w.cell? ⟨d.ab, j * 3 + 2, none⟩ = some (.int .u8 (d.A j).t) := by
  refine ⟨?_, ?_, ?_⟩
  · rw [h.a.c (j * 3) (by omega)]; unfold acF; rw [show j * 3 % 3 = 0 by omega, show j * 3 / 3 = j by omega]; try rfl
  · rw [h.a.c (j * 3 + 1) (by omega)]; unfold acF; rw [show (j * 3 + 1) % 3 = 1 by omega, show (j * 3 + 1) / 3 = j by omega]; try rfl
  · rw [h.a.c (j * 3 + 2) (by omega)]; unfold acF; rw [show (j * 3 + 2) % 3 = 2 by omega, show (j * 3 + 2) / 3 = j by omega]; try rfl
/-- Within the look's own block. -/
theorem LkF.onK {w0 : World} {d : Kd} {w w' : World} (h : LkF F w0 d w) (hg : w.grownBy w' (some d.kb)) (b : W.Act) (k : Int) (hk : Bc d.kb 10 { d with b := b, k := k }.f w') : LkF F w0 { d with b := b, k := k } w' :=
  { h with
    bl := Below.grown h.bl hg h.bl.size (fun j e => by cases e; exact h.nk)
    k := hk
    a := h.a.grown hg (ne_some h.ka.symm)
    p := h.p.grown hg (ne_some h.kp.symm)
    r := h.r.grown hg (ne_some h.kr.symm)
    g := h.g.grown hg (ne_some h.kg.symm)
    h := h.h.kept hg (Or.inr (Ne.symm h.hk))
    fr := fun c o e => ⟨(hg.block c (blk_lt (h.fr c o e).1) (ne_some (h.fr c o e).2.1)).trans (h.fr c o e).1, (h.fr c o e).2⟩ }
theorem LkF.setK {w0 : World} {d : Kd} {w : World} (h : LkF F w0 d w) (v : Int) : LkF F w0 { d with k := v } (w.setCell ⟨d.kb, 8, none⟩ (.int .u8 v)) :=
  h.onK (gsetCell _ _ _ _) d.b v ((h.k.set 8 _).congr fun j hj => by
    unfold updV
    match j, hj with
    | 0, _ => rfl
    | 1, _ => rfl
    | 2, _ => rfl
    | 3, _ => rfl
    | 4, _ => rfl
    | 5, _ => rfl
    | 6, _ => rfl
    | 7, _ => rfl
    | 8, _ => rfl
    | 9, _ => rfl)
theorem gtrans {x y z : World} {r : Option Nat} (h : x.grownBy y r) (k : y.grownBy z r) : x.grownBy z r :=
  ⟨k.os.trans h.os, k.tape.trans h.tape, k.output.trans h.output, Nat.le_trans h.size k.size, fun b hb hne => (k.block b (Nat.lt_of_lt_of_le hb h.size) hne).trans (h.block b hb hne)⟩
theorem LkF.setB {w0 : World} {d : Kd} {w : World} (h : LkF F w0 d w) (b : W.Act) : LkF F w0 { d with b := b } (((w.setCell ⟨d.kb, 5, none⟩ (.int .u32 b.p.f)).setCell ⟨d.kb, 6, none⟩ (.int .u64 b.p.s)).setCell ⟨d.kb, 7, none⟩ (.int .u8 b.t)) :=
  h.onK (gtrans (gtrans (gsetCell _ _ _ _) (gsetCell _ _ _ _)) (gsetCell _ _ _ _)) b d.k ((((h.k.set 5 _).set 6 _).set 7 _).congr fun j hj => by
    unfold updV
    match j, hj with
    | 0, _ => rfl
    | 1, _ => rfl
    | 2, _ => rfl
    | 3, _ => rfl
    | 4, _ => rfl
    | 5, _ => rfl
    | 6, _ => rfl
    | 7, _ => rfl
    | 8, _ => rfl
    | 9, _ => rfl)
/-- Another list of what is hidden: its block is old, or new. -/
theorem LkF.setH {w0 : World} {d : Kd} {w w' : World} (h : LkF F w0 d w) (P : W.Sl) (l : List W.Sp) (hl : ∀ s ∈ l, W.SpOk s) (hg : w.grownBy w' (slV d.H).ownBlock) (ho : w'.ownsRow w0.heap.size 114 2 (slV P) l.length (spX l)) (hP : ∀ b, some b = (slV P).ownBlock → some b = (slV d.H).ownBlock ∨ w.heap.size ≤ b) : LkF F w0 { d with H := P, hid := l } (w'.setCell ⟨d.kb, 9, none⟩ (slV P)) := by
  have nb : ∀ b, b < w.heap.size → some b ≠ (slV d.H).ownBlock → some b ≠ (slV P).ownBlock := fun b hb h1 h2 => by
    rcases hP b h2 with h3 | h3
    · exact h1 h3
    · omega
  exact { h with
    bl := (Below.grown h.bl hg h.bl.size (fun b e => (h.h.lt b e).1)).setCell h.nk _
    k := ((h.k.grown hg h.hk).set 9 _).congr fun j hj => by
      unfold updV
      match j, hj with
      | 0, _ => rfl
      | 1, _ => rfl
      | 2, _ => rfl
      | 3, _ => rfl
      | 4, _ => rfl
      | 5, _ => rfl
      | 6, _ => rfl
      | 7, _ => rfl
      | 8, _ => rfl
      | 9, _ => rfl
    a := (h.a.grown hg h.ha).other _ _ _ h.ka.symm
    p := (h.p.grown hg h.hp).other _ _ _ h.kp.symm
    r := (h.r.grown hg h.hr).other _ _ _ h.kr.symm
    g := (h.g.grown hg h.hg).other _ _ _ h.kg.symm
    h := ho.kept (gsetCell _ _ _ _) (Or.inr (Ne.symm (nb _ h.k.lt h.hk)))
    hk := nb _ h.k.lt h.hk
    ha := nb _ h.a.lt h.ha
    hp := nb _ h.p.lt h.hp
    hr := nb _ h.r.lt h.hr
    hg := nb _ h.g.lt h.hg
    ok := hl
    fr := fun c o e => by
      obtain ⟨f1, f2, f3, f4, f5, f6, f7⟩ := h.fr c o e
      refine ⟨?_, f2, f3, f4, f5, f6, nb c (blk_lt f1) f7⟩
      have q := (hg.block c (blk_lt f1) f7).trans f1
      exact ((gsetCell w' d.kb 9 (slV P)).block c (blk_lt q) (ne_some f2)).trans q }
def updI (f : Nat → Int) (k : Nat) (v : Int) : Nat → Int := fun j => if j = k then v else f j
theorem LkF.onG {w0 : World} {d : Kd} {w w' : World} (h : LkF F w0 d w) (hg : w.grownBy w' (some d.hb)) (G : Nat → Int) (hk : Bc d.hb d.n (fun j => .int .u8 (G j)) w') : LkF F w0 { d with G := G } w' :=
  { h with
    bl := Below.grown h.bl hg h.bl.size (fun j e => by cases e; exact h.ng)
    k := (h.k.grown hg (ne_some h.kg)).congr fun j hj => by
      match j, hj with
      | 0, _ => rfl
      | 1, _ => rfl
      | 2, _ => rfl
      | 3, _ => rfl
      | 4, _ => rfl
      | 5, _ => rfl
      | 6, _ => rfl
      | 7, _ => rfl
      | 8, _ => rfl
      | 9, _ => rfl
    a := h.a.grown hg (ne_some h.ag)
    p := h.p.grown hg (ne_some h.pg)
    r := h.r.grown hg (ne_some h.rg)
    g := hk
    h := h.h.kept hg (Or.inr (Ne.symm h.hg))
    fr := fun c o e => ⟨(hg.block c (blk_lt (h.fr c o e).1) (ne_some (h.fr c o e).2.2.2.2.2.1)).trans (h.fr c o e).1, (h.fr c o e).2⟩ }
theorem LkF.onR {w0 : World} {d : Kd} {w w' : World} (h : LkF F w0 d w) (hg : w.grownBy w' (some d.rb)) (R : Nat → Int) (hk : Bc d.rb d.n (fun j => .int .u8 (R j)) w') : LkF F w0 { d with R := R } w' :=
  { h with
    bl := Below.grown h.bl hg h.bl.size (fun j e => by cases e; exact h.nr)
    k := (h.k.grown hg (ne_some h.kr)).congr fun j hj => by
      match j, hj with
      | 0, _ => rfl
      | 1, _ => rfl
      | 2, _ => rfl
      | 3, _ => rfl
      | 4, _ => rfl
      | 5, _ => rfl
      | 6, _ => rfl
      | 7, _ => rfl
      | 8, _ => rfl
      | 9, _ => rfl
    a := h.a.grown hg (ne_some h.ar)
    p := h.p.grown hg (ne_some h.pr)
    r := hk
    g := h.g.grown hg (ne_some h.rg.symm)
    h := h.h.kept hg (Or.inr (Ne.symm h.hr))
    fr := fun c o e => ⟨(hg.block c (blk_lt (h.fr c o e).1) (ne_some (h.fr c o e).2.2.2.2.1)).trans (h.fr c o e).1, (h.fr c o e).2⟩ }
theorem LkF.onA {w0 : World} {d : Kd} {w w' : World} (h : LkF F w0 d w) (hg : w.grownBy w' (some d.ab)) (A : Nat → W.Act) (hk : Bc d.ab (3 * d.n) (acF A) w') : LkF F w0 { d with A := A } w' :=
  { h with
    bl := Below.grown h.bl hg h.bl.size (fun j e => by cases e; exact h.na)
    k := (h.k.grown hg (ne_some h.ka)).congr fun j hj => by
      match j, hj with
      | 0, _ => rfl
      | 1, _ => rfl
      | 2, _ => rfl
      | 3, _ => rfl
      | 4, _ => rfl
      | 5, _ => rfl
      | 6, _ => rfl
      | 7, _ => rfl
      | 8, _ => rfl
      | 9, _ => rfl
    a := hk
    p := h.p.grown hg (ne_some h.ap.symm)
    r := h.r.grown hg (ne_some h.ar.symm)
    g := h.g.grown hg (ne_some h.ag.symm)
    h := h.h.kept hg (Or.inr (Ne.symm h.ha))
    fr := fun c o e => ⟨(hg.block c (blk_lt (h.fr c o e).1) (ne_some (h.fr c o e).2.2.1)).trans (h.fr c o e).1, (h.fr c o e).2⟩ }
theorem LkF.setG {w0 : World} {d : Kd} {w : World} (h : LkF F w0 d w) (j : Nat) (v : Int) : LkF F w0 { d with G := updI d.G j v } (w.setCell ⟨d.hb, j, none⟩ (.int .u8 v)) :=
  h.onG (gsetCell _ _ _ _) _ ((h.g.set j _).congr fun i hi => by unfold updV updI; split <;> rfl)
theorem LkF.setR {w0 : World} {d : Kd} {w : World} (h : LkF F w0 d w) (j : Nat) (v : Int) : LkF F w0 { d with R := updI d.R j v } (w.setCell ⟨d.rb, j, none⟩ (.int .u8 v)) :=
  h.onR (gsetCell _ _ _ _) _ ((h.r.set j _).congr fun i hi => by unfold updV updI; split <;> rfl)
def updT (A : Nat → W.Act) (k : Nat) (t : Int) : Nat → W.Act := fun j => if j = k then ⟨(A j).p, t⟩ else A j
theorem LkF.setT {w0 : World} {d : Kd} {w : World} (h : LkF F w0 d w) (j : Nat) (t : Int) : LkF F w0 { d with A := updT d.A j t } (w.setCell ⟨d.ab, j * 3 + 2, none⟩ (.int .u8 t)) :=
  h.onA (gsetCell _ _ _ _) _ ((h.a.set (j * 3 + 2) _).congr fun i hi => by
    unfold updV acF updT
    by_cases e : i = j * 3 + 2
    · subst e
      rw [if_pos rfl, show (j * 3 + 2) % 3 = 2 by omega, show (j * 3 + 2) / 3 = j by omega]
      simp
    · rw [if_neg e]
      by_cases e2 : i / 3 = j
      · rw [if_pos e2]
        have : i % 3 = 0 ∨ i % 3 = 1 := by omega
        rcases this with h | h <;> rw [h] <;> rfl
      · rw [if_neg e2])
/-- Blocks that the look is not to touch. -/
noncomputable def frm (P : Nat → Prop) (w : World) : Nat → Option Obj := open Classical in fun c => if P c then w.heap[c]? else none
theorem LkF.frame {F : Nat → Option Obj} {w0 : World} {d : Kd} {w : World} (h : LkF F w0 d w) (P : Nat → Prop) (hP : ∀ c, P c → c ≠ d.kb ∧ c ≠ d.ab ∧ c ≠ d.pb ∧ c ≠ d.rb ∧ c ≠ d.hb ∧ some c ≠ (slV d.H).ownBlock) : LkF (frm P w) w0 d w :=
  have q : ∀ c o, frm P w c = some o → w.heap[c]? = some o ∧ c ≠ d.kb ∧ c ≠ d.ab ∧ c ≠ d.pb ∧ c ≠ d.rb ∧ c ≠ d.hb ∧ some c ≠ (slV d.H).ownBlock := fun c o e => by
    unfold frm at e
    by_cases hc : P c
    · rw [if_pos hc] at e
      exact ⟨e, hP c hc⟩
    · rw [if_neg hc] at e
      cases e
  { h with fr := q }
theorem LkF.out {P : Nat → Prop} {w1 w0 : World} {d : Kd} {w : World} (h : LkF (frm P w1) w0 d w) (c : Nat) (hc : P c) (hl : c < w1.heap.size) : w.heap[c]? = w1.heap[c]? ∧ c ≠ d.kb ∧ c ≠ d.ab ∧ c ≠ d.pb ∧ c ≠ d.rb ∧ c ≠ d.hb ∧ some c ≠ (slV d.H).ownBlock := by
  have e : frm P w1 c = some w1.heap[c] := by
    unfold frm
    rw [if_pos hc]
    exact Array.getElem?_eq_getElem hl
  obtain ⟨f1, f2⟩ := h.fr c _ e
  exact ⟨f1.trans (Array.getElem?_eq_getElem hl).symm, f2⟩
end Go.Proofs.YtibohlbkkaghkaaDoor

/- note, fence. -/
namespace Go.Proofs.YtibohlbkkaghkaaDoor
open Go.ChangeShapes Go.WideShapes Go.ChangeAt Go.RowKit
set_option linter.unusedVariables false
set_option linter.unusedSimpArgs false
variable {F : Nat → Option Obj}

theorem LkF.congrG {w0 : World} {d : Kd} {w : World} {G H : Nat → Int} (h : LkF F w0 { d with G := G } w) (e : ∀ i, i < d.n → G i = H i) : LkF F w0 { d with G := H } w :=
  { h with g := h.g.congr fun j hj => by show Value.int .u8 (G j) = .int .u8 (H j); rw [e j hj] }
theorem Li.set {s : W.Sl} {l : List Int} {w : World} (h : Li s l w) (b k : Nat) (v : Value) (hF : ∀ g o, 0 < s.n → s.a = some ⟨g, o, none⟩ → g ≠ b) : Li s l (w.setCell ⟨b, k, none⟩ v) :=
  ⟨h.n, h.m, h.nc, fun h0 => by
    obtain ⟨g, o, e, hl, hc⟩ := h.at_ h0
    exact ⟨g, o, e, by simpa [World.setCell] using hl, fun j x hx => (World.cell?_setCell_other _ _ _ _ (by simp [hF g o h0 e, Ne.symm (hF g o h0 e)])).trans (hc j x hx)⟩⟩
namespace W
theorem note_nil (r : Int) (h : Nat → Int) (i : Nat) : note r [] h i = h i := by unfold note; simp
theorem note_hit (r : Int) (l : List Int) (h : Nat → Int) (j m : Nat) (hx : l[j]? = some (m : Int)) (hr : r ≠ 0) (h0 : (note r (l.take j) h m == 0) = true) (i : Nat) : (if i = m then r else note r (l.take j) h i) = note r (l.take (j + 1)) h i := by
  obtain ⟨hj, e⟩ := List.getElem?_eq_some_iff.1 hx
  have ht : l.take (j + 1) = l.take j ++ [(m : Int)] := by rw [List.take_succ_eq_append_getElem hj, e]
  rw [ht]
  have h0' : note r (l.take j) h m = 0 := by simpa using h0
  have hm : h m = 0 := by
    unfold note at h0'
    cases h1 : (h m == 0)
    · rw [h1] at h0'; simpa using h0'
    · simpa using h1
  by_cases e : i = m
  · subst e
    rw [if_pos rfl]
    unfold note
    rw [hm]
    simp
  · rw [if_neg e]
    have hc : (l.take j ++ [(m : Int)]).contains (i : Int) = (l.take j).contains (i : Int) := by
      rw [Bool.eq_iff_iff]
      simp only [List.contains_iff_mem, List.mem_append, List.mem_singleton]
      constructor
      · rintro (h | h)
        · exact h
        · exact absurd (by omega : i = m) e
      · exact Or.inl
    unfold note
    rw [hc]
theorem note_miss (r : Int) (l : List Int) (h : Nat → Int) (j n : Nat) (x : Int) (hx : l[j]? = some x) (h0 : ∀ m : Nat, x = (m : Int) → m < n → (note r (l.take j) h m == 0) = false) (i : Nat) (hi : i < n) : note r (l.take j) h i = note r (l.take (j + 1)) h i := by
  obtain ⟨hj, e⟩ := List.getElem?_eq_some_iff.1 hx
  have ht : l.take (j + 1) = l.take j ++ [x] := by rw [List.take_succ_eq_append_getElem hj, e]
  rw [ht]
  by_cases e : x = (i : Int)
  · have h1 := h0 i e hi
    subst e
    unfold note at h1 ⊢
    cases h2 : (h i == 0)
    · simp
    · cases h3 : (l.take j).contains (i : Int)
      · rw [h2, h3] at h1; simp at h1 h2; exact absurd h2 h1
      · simp at h3
        simp [h3]
  · have hc : (l.take j ++ [x]).contains (i : Int) = (l.take j).contains (i : Int) := by
      rw [Bool.eq_iff_iff]
      simp only [List.contains_iff_mem, List.mem_append, List.mem_singleton]
      constructor
      · rintro (h | h)
        · exact h
        · exact absurd h.symm e
      · exact Or.inl
    unfold note
    rw [hc]
end W
set_option maxHeartbeats 1600000 in
theorem note_any (w0 : World) (d : Kd) (w : World) (h : LkF F w0 d w) (hn : d.n ≤ 4096) (r : Int) (hr : r ≠ 0) (s : W.Sl) (l : List Int) (hs : Li s l w) (hF : ∀ g o, 0 < s.n → s.a = some ⟨g, o, none⟩ → g ≠ d.hb) :
    Calls Tryd.prog 73 #[.pointer (some ⟨d.kb, 0, none⟩), .int .u8 r, slV s] w fun e w' => e = .returned (.tuple #[]) ∧ LkF F w0 { d with G := W.note r l d.G } w' := by
  have sn := hs.n
  have sm := hs.m
  obtain ⟨a, n, c⟩ := s
  dsimp only at sn sm
  subst sn
  unfold slV
  dsimp only
  have HS : Hid (Li ⟨a, l.length, c⟩ l w ∧ LkF F w0 d w ∧ ∀ g o, 0 < l.length → a = some ⟨g, o, none⟩ → g ≠ d.hb) := ⟨hs, h, hF⟩
  clear hs h hF
  go_enter Tryd.func73, Tryd.ntmps73
  go_wp2
  go_loopw [10] (fun i wr => ∃ j : Nat, j ≤ l.length ∧ i = .int .i64 (j : Int) ∧ LkF F w0 { d with G := W.note r (l.take j) d.G } wr ∧ Li ⟨a, l.length, c⟩ l wr) (fun i _ => l.length - (intOf i).toNat)
  case atStart =>
    refine ⟨0, by omega, rfl, ?_, HS.out.1⟩
    exact LkF.congrG (d := d) (G := d.G) HS.out.2.1 fun i hi => by rw [List.take_zero, W.note_nil]
  case round =>
    obtain ⟨j, hj, rfl, hL, hI⟩ := hrel
    by_cases hlt : j < l.length
    · obtain ⟨gb, go, rfl, gl, gc⟩ := hI.at_ (by show 0 < l.length; omega)
      have g0 := gc j l[j] (List.getElem?_eq_getElem hlt)
      have ex : l[j]? = some l[j] := List.getElem?_eq_getElem hlt
      have hne := HS.out.2.2 gb go (by omega) rfl
      generalize l[j] = x at *
      have c4 := hL.k.c 4 (by decide)
      have kl := hL.k.lt
      have hl := hL.g.lt
      have fz := hL.g.fz
      simp only [Kd.f] at c4 kl hl fz
      have HL : Hid (_ ∧ _ ∧ _) := ⟨hL, hI, ex⟩
      clear gc
      by_cases x0 : 0 ≤ x
      · obtain ⟨m, rfl⟩ := Int.eq_ofNat_of_zero_le x0
        by_cases x1 : m < d.n
        · have gm := hL.g.c m x1
          dsimp only at gm
          have x1' : (m : Int) < (d.n : Int) := by omega
          clear hL hI ex
          cases hz : (W.note r (l.take j) d.G m == 0)
          · have E := W.note_miss r l d.G j d.n (m : Int) HL.out.2.2 (fun m' e _ => by have e' : m = m' := (by omega); subst e'; exact hz)
            have X : Hid (LkF F w0 { d with G := W.note r (l.take (j + 1)) d.G } wr) := LkF.congrG HL.out.1 E
            clear E
            go_wp2
            go_roundw
            case rel => exact ⟨j + 1, by omega, by go_num, X.out, HL.out.2.1⟩
            case measure => simp [intOf]; omega
          · have X : Hid (LkF F w0 { d with G := W.note r (l.take (j + 1)) d.G } (wr.setCell ⟨d.hb, m, none⟩ (.int .u8 r)) ∧ Li ⟨some ⟨gb, go, none⟩, l.length, c⟩ l (wr.setCell ⟨d.hb, m, none⟩ (.int .u8 r))) :=
              ⟨LkF.congrG (HL.out.1.setG m r) (fun i hi => W.note_hit r l d.G j m HL.out.2.2 hr hz i), HL.out.2.1.set _ _ _ (fun g o _ e => by cases e; exact hne)⟩
            go_wp2
            go_roundw
            case rel => exact ⟨j + 1, by omega, by go_num, X.out.1, X.out.2⟩
            case measure => simp [intOf]; omega
        · have x1' : ¬ (m : Int) < (d.n : Int) := by omega
          have X : Hid (LkF F w0 { d with G := W.note r (l.take (j + 1)) d.G } wr) := LkF.congrG hL (W.note_miss r l d.G j d.n (m : Int) ex (fun m' e h2 => by omega))
          clear hL hI ex
          go_wp2
          go_roundw
          case rel => exact ⟨j + 1, by omega, by go_num, X.out, HL.out.2.1⟩
          case measure => simp [intOf]; omega
      · have X : Hid (LkF F w0 { d with G := W.note r (l.take (j + 1)) d.G } wr) := LkF.congrG hL (W.note_miss r l d.G j d.n x ex (fun m' e h2 => by omega))
        clear hL hI ex
        go_wp2
        go_roundw
        case rel => exact ⟨j + 1, by omega, by go_num, X.out, HL.out.2.1⟩
        case measure => simp [intOf]; omega
    · obtain rfl : j = l.length := by omega
      rw [List.take_length] at hL
      have X : Hid (LkF F w0 { d with G := W.note r l d.G } wr) := hL
      clear hL hI
      go_wp2
      go_end0
      exact ⟨rfl, X.out⟩
end Go.Proofs.YtibohlbkkaghkaaDoor

/- fence; operations in memory. -/
namespace Go.Proofs.YtibohlbkkaghkaaDoor
open Go.ChangeShapes Go.WideShapes Go.ChangeAt Go.RowKit
set_option linter.unusedVariables false
set_option linter.unusedSimpArgs false
variable {F : Nat → Option Obj}

/-- An operation lies in memory, with what it hangs on. -/
structure OzAt (g off : Nat) (z : W.Oz) (w : World) : Prop where
  o : OpAt g off z.o w
  c8 : w.cell? ⟨g, off + 8, none⟩ = some (.int .i64 z.o.pd)
  c9 : w.cell? ⟨g, off + 9, none⟩ = some (.int .i64 z.o.sc)
  ca : ∃ s, w.cell? ⟨g, off + 10, none⟩ = some (slV s) ∧ Li s z.a w
  cd : ∃ s, w.cell? ⟨g, off + 11, none⟩ = some (slV s) ∧ Li s z.d w
  cc : ∃ s, w.cell? ⟨g, off + 12, none⟩ = some (slV s) ∧ Li s z.c w
theorem OzAt.below {g off : Nat} {z : W.Oz} {w w' : World} (h : OzAt g off z w) (hb : Below w.heap.size w w') : OzAt g off z w' := by
  obtain ⟨o, c8, c9, ⟨s1, a1, a2⟩, ⟨s2, b1, b2⟩, ⟨s3, d1, d2⟩⟩ := h
  have q := fun k => hb.cell (p := ⟨g, off + k, none⟩) o.lt
  exact ⟨o.below hb, (q 8).trans c8, (q 9).trans c9, ⟨s1, (q 10).trans a1, a2.below hb⟩, ⟨s2, (q 11).trans b1, b2.below hb⟩, ⟨s3, (q 12).trans d1, d2.below hb⟩⟩
/-- A list of old memory. -/
theorem Li.old {s : W.Sl} {l : List Int} {w0 : World} (h : Li s l w0) {b : Nat} (hb : w0.heap.size ≤ b) : ∀ g o, 0 < s.n → s.a = some ⟨g, o, none⟩ → g ≠ b := fun g o h0 e => by
  obtain ⟨g', o', e', hl, _⟩ := h.at_ h0
  rw [e] at e'
  cases e'
  omega
theorem wrap8 (x : Int) : IntKind.u8.wrap x = x % 256 := rfl
def Kd.st (d : Kd) : W.St := ⟨d.k, d.hid, d.G⟩
set_option maxHeartbeats 1600000 in
theorem fence_any (w0 : World) (d : Kd) (w : World) (h : LkF F w0 d w) (g off : Nat) (z : W.Oz) (hz : OzAt g off z w0) :
    Calls Tryd.prog 67 #[.pointer (some ⟨d.kb, 0, none⟩), .pointer (some ⟨g, off, none⟩)] w fun e w' => e = .returned (.tuple #[]) ∧ LkF F w0 { d with k := (W.fence d.b z d.st).k } w' := by
  obtain ⟨o, c8, c9, _, _, _⟩ := hz.below h.bl
  have gl := o.lt
  have gk : g ≠ d.kb := by have := hz.o.lt; have := h.nk; omega
  have k7 := h.k.c 7 (by decide)
  have k8 := h.k.c 8 (by decide)
  have kl := h.k.lt
  have fz := h.k.fz
  simp only [Kd.f] at k7 k8
  have X := h.setK (W.o8 d.k (W.a8 (z.o.pd % 256) 3))
  unfold W.fence Kd.st W.a8 W.o8 at *
  dsimp only
  have HX : Hid (_ ∧ _) := ⟨h, X⟩
  clear X h hz o
  cases hq : (bits BinOp.and IntKind.u8 (bits BinOp.and IntKind.u8 d.b.t (z.o.sc % 256)) 3 != 0)
  · go_enter Tryd.func67, Tryd.ntmps67
    go_wp2
    go_region
    go_wp2
    go_end0
    exact ⟨rfl, HX.out.1.below (Below.refl _ _).drew⟩
  · go_enter Tryd.func67, Tryd.ntmps67
    go_wp2
    go_region
    go_wp2
    go_region
    go_wp2
    go_end0
    exact ⟨rfl, HX.out.2.below (Below.refl _ _).drew.drew⟩
end Go.Proofs.YtibohlbkkaghkaaDoor

/- Pairs. -/
namespace Go.Proofs.YtibohlbkkaghkaaDoor
open Go.ChangeShapes Go.WideShapes Go.ChangeAt Go.RowKit
set_option linter.unusedVariables false
set_option linter.unusedSimpArgs false

namespace W
theorem lastP_lt (x : Nat → Oz) : ∀ n, -1 ≤ lastP x n ∧ lastP x n < (n : Int)
  | 0 => ⟨Int.le_refl _, by show (-1 : Int) < 0; decide⟩
  | n + 1 => by
    have := lastP_lt x n
    unfold lastP
    cases (x n).o.pr
    · show -1 ≤ lastP x n ∧ lastP x n < _; omega
    · show -1 ≤ (n : Int) ∧ (n : Int) < _; omega
end W
/-- The operations lie in memory; a list of none, too. -/
structure Ol (a : Option Addr) (n : Nat) (x : Nat → W.Oz) (w : World) : Prop where
  at_ : 0 < n → ∃ g o, a = some ⟨g, o, none⟩ ∧ ∀ j, j < n → OzAt g (o + j * 13) (x j) w
theorem Ol.below {a : Option Addr} {n : Nat} {x : Nat → W.Oz} {w w' : World} (h : Ol a n x w) (hb : Below w.heap.size w w') : Ol a n x w' :=
  ⟨fun h0 => by
    obtain ⟨g, o, e, hx⟩ := h.at_ h0
    exact ⟨g, o, e, fun j hj => (hx j hj).below hb⟩⟩
theorem made_get (z : Array Value) (m j : Nat) (hj : j < m) : (madeCells z m)[j]? = some z[j % z.size]! := by simp [madeCells, hj]
theorem Bc.made (w : World) (z : Array Value) (m : Nat) (T : TypeId) : Bc w.heap.size m (fun j => z[j % z.size]!) (w.alloc (.cells (madeCells z m) T)) :=
  ⟨by simp, fun j hj => (cell_of_row _ _ j _ T (0, 0) (heap_alloc_last w _)).trans (made_get z m j hj), fun j => by unfold World.frozen?; rw [heap_alloc_last w _]; simp⟩
theorem make_ints (n : Nat) (hn : n ≤ 8192) (w : World) : (Instr.makeSlice 23 (.int .i64 (n : Int)) (.int .i64 (n : Int))).run Tryd.prog w = .ok (.slice (some ⟨w.heap.size, 0, none⟩) n n) (w.alloc (.cells (madeCells #[.int .i64 0] n) 3)) := by
  obtain ⟨i, hi, hzz⟩ := Option.map_eq_some_iff.1 (show (Tryd.prog.info? 3).map (fun i => (i.zero, i.size, i.bytes)) = some (some (.int .i64 0), 1, 8) by kernel_rfl)
  simp only [Prod.mk.injEq] at hzz
  obtain ⟨hz, hs, hb⟩ := hzz
  have hr := run_make (P := Tryd.prog) w 23 3 i _ Tryd.underlying23 hi hz .i64 .i64 n n (by omega) (by omega) (by rw [hb]; omega) (by omega)
  simp only [Int.toNat_natCast, hs, Nat.mul_one] at hr
  exact hr
theorem make_rules (n : Nat) (hn : n ≤ 8192) (w : World) : (Instr.makeSlice 110 (.int .i64 (n : Int)) (.int .i64 (n : Int))).run Tryd.prog w = .ok (.slice (some ⟨w.heap.size, 0, none⟩) n n) (w.alloc (.cells (madeCells #[.int .u8 0] n) 121)) := by
  obtain ⟨i, hi, hzz⟩ := Option.map_eq_some_iff.1 (show (Tryd.prog.info? 121).map (fun i => (i.zero, i.size, i.bytes)) = some (some (.int .u8 0), 1, 1) by kernel_rfl)
  simp only [Prod.mk.injEq] at hzz
  obtain ⟨hz, hs, hb⟩ := hzz
  have hr := run_make (P := Tryd.prog) w 110 121 i _ Tryd.underlying110 hi hz .i64 .i64 n n (by omega) (by omega) (by rw [hb]; omega) (by omega)
  simp only [Int.toNat_natCast, hs, Nat.mul_one] at hr
  exact hr
theorem make_acts (n : Nat) (hn : n ≤ 8192) (w : World) : (Instr.makeSlice 111 (.int .i64 (n : Int)) (.int .i64 (n : Int))).run Tryd.prog w = .ok (.slice (some ⟨w.heap.size, 0, none⟩) n n) (w.alloc (.cells (madeCells #[.int .u32 0, .int .u64 0, .int .u8 0] (n * 3)) 117)) := by
  obtain ⟨i, hi, hzz⟩ := Option.map_eq_some_iff.1 (show (Tryd.prog.info? 117).map (fun i => (i.zero, i.size, i.bytes)) = some (some (.agg #[.int .u32 0, .int .u64 0, .int .u8 0]), 3, 24) by kernel_rfl)
  simp only [Prod.mk.injEq] at hzz
  obtain ⟨hz, hs, hb⟩ := hzz
  have hr := run_make (P := Tryd.prog) w 111 117 i _ Tryd.underlying111 hi hz .i64 .i64 n n (by omega) (by omega) (by rw [hb]; omega) (by omega)
  simp only [Int.toNat_natCast, hs] at hr
  exact hr
def prF (x : Nat → W.Oz) (j i : Nat) : Value := .int .i64 (if i < j then W.pairO x i else 0)
theorem prF_succ (x : Nat → W.Oz) (j i : Nat) (v : Int) (hv : v = W.pairO x j) : updV (prF x j) j (.int .i64 v) i = prF x (j + 1) i := by
  unfold updV prF
  by_cases e : i = j
  · rw [if_pos e, if_pos (by omega), hv, e]
  · rw [if_neg e]
    by_cases e2 : i < j
    · rw [if_pos e2, if_pos (by omega)]
    · rw [if_neg e2, if_neg (by omega)]
set_option maxHeartbeats 1600000 in
theorem pairs_any (a : Option Addr) (n c : Nat) (x : Nat → W.Oz) (w : World) (hO : Ol a n x w) (hn : n ≤ 4096) :
    Calls Tryd.prog 39 #[.slice a n c] w fun e w' => (∃ g, e = .returned (.slice (some ⟨g, 0, none⟩) n n) ∧ w.heap.size ≤ g ∧ Bc g n (fun j => .int .i64 (W.pairO x j)) w') ∧ Below w.heap.size w w' := by
  have hmk := make_ints n (by omega) w
  have M0 := (Bc.made w #[.int .i64 0] n 3).congr (g := prF x 0) (fun j hj => by unfold prF; rw [if_neg (by omega)]; simp [Nat.mod_one])
  have B0 : Below w.heap.size w (w.alloc (.cells (madeCells #[.int .i64 0] n) 3)) := (Below.refl _ _).alloc (Nat.le_refl _) _
  generalize w.alloc _ = W1 at *
  have HM : Hid (_ ∧ _ ∧ _) := ⟨M0, B0, hO⟩
  clear M0 B0 hO
  go_enter Tryd.func39, Tryd.ntmps39
  go_wp2
  go_loopw [4, 11] (fun la i wr => ∃ j : Nat, j ≤ n ∧ i = .int .i64 (j : Int) ∧ la = .int .i64 (W.lastP x j) ∧ Bc w.heap.size n (prF x j) wr ∧ Below w.heap.size w wr) (fun _ i _ => n - (intOf i).toNat)
  case atStart => exact ⟨0, by omega, rfl, rfl, HM.out.1, HM.out.2.1⟩
  case round =>
    clear hmk
    obtain ⟨j, hj, rfl, rfl, hB, hbl⟩ := hrel
    by_cases hlt : j < n
    · obtain ⟨g, o, rfl, hx⟩ := (HM.out.2.2.below hbl).at_ (by omega)
      have oj := hx j hlt
      have lp := W.lastP_lt x j
      have hps : W.lastP x (j + 1) = bif (x j).o.pr then (j : Int) else W.lastP x j := rfl
      have hpo : W.pairO x j = bif (x j).o.pr && ((x j).o.k == 2) && decide (0 ≤ W.lastP x j) && ((x (W.lastP x j).toNat).o.k == 1) then W.lastP x j else -1 := rfl
      have g0 := oj.o.c0
      have g5 := oj.o.c5
      have gl := oj.o.lt
      have gw : g < w.heap.size := by
        obtain ⟨g', o', e', h'⟩ := HM.out.2.2.at_ (by omega)
        cases e'
        exact (h' j hlt).o.lt
      have gne : g ≠ w.heap.size := by omega
      have cj := hB.c j hlt
      have fj := hB.fz j
      have wl := hB.lt
      have S1 := fun v (hv : v = W.pairO x j) => (hB.set j (.int .i64 v)).congr (fun i _ => prF_succ x j i v hv)
      have S2 := fun v (hv : v = W.pairO x j) => ((hB.set j (.int .i64 (-1))).set j (.int .i64 v)).congr (g := prF x (j + 1)) (fun i hi => by
        rw [← prF_succ x j i v hv]
        unfold updV
        by_cases e : i = j
        · rw [if_pos e, if_pos e]
        · rw [if_neg e, if_neg e, if_neg e])
      have B1 := fun v => hbl.setCell (p := ⟨w.heap.size, j, none⟩) (Nat.le_refl _) v
      have hxl := hx
      generalize hLP : W.lastP x j = LP at *
      have HQ : Hid (_ ∧ _ ∧ _ ∧ _ ∧ _ ∧ _) := ⟨S1, S2, B1, hps, hpo, fun v => (hbl.setCell (p := ⟨w.heap.size, j, none⟩) (Nat.le_refl _) (.int .i64 (-1))).setCell (p := ⟨w.heap.size, j, none⟩) (Nat.le_refl _) v⟩
      have hB' : (j : Int) < (n : Int) := by omega
      clear S1 S2 B1 hps hpo hB hbl oj hLP
      generalize hpr : (x j).o.pr = PR at *
      generalize hkk : (x j).o.k = KK at *
      cases PR
      · have X := HQ.out.1 (-1) (by rw [HQ.out.2.2.2.2.1]; rfl)
        have Y := HQ.out.2.2.1 (.int .i64 (-1))
        have HX : Hid (_ ∧ _ ∧ _) := ⟨X, Y, HQ.out.2.2.2.1⟩
        clear X Y HQ hx hxl
        go_wp2
        go_roundw
        case rel => exact ⟨j + 1, by omega, by go_num, by rw [HX.out.2.2]; rfl, HX.out.1, HX.out.2.1⟩
        case measure => simp [intOf]; omega
      · cases e2 : (KK == 2)
        · have X := HQ.out.1 (-1) (by rw [HQ.out.2.2.2.2.1, e2]; rfl)
          have Y := HQ.out.2.2.1 (.int .i64 (-1))
          have HX : Hid (_ ∧ _ ∧ _) := ⟨X, Y, HQ.out.2.2.2.1⟩
          clear X Y HQ hx hxl
          go_wp2
          go_roundw
          case rel => exact ⟨j + 1, by omega, by go_num, by rw [HX.out.2.2]; rfl, HX.out.1, HX.out.2.1⟩
          case measure => simp [intOf]; omega
        · by_cases l0 : 0 ≤ LP
          · obtain ⟨m, rfl⟩ := Int.eq_ofNat_of_zero_le l0
            have mj : m < j := by have := lp.2; omega
            have om := hxl m (by omega)
            have gm := om.o.c0
            have mn : (m : Int) < (n : Int) := by omega
            generalize hkm : (x m).o.k = KM at *
            cases e3 : (KM == 1)
            · have X := HQ.out.1 (-1) (by rw [HQ.out.2.2.2.2.1, e2, Int.toNat_natCast, hkm, e3]; simp)
              have Y := HQ.out.2.2.1 (.int .i64 (-1))
              have HX : Hid (_ ∧ _ ∧ _) := ⟨X, Y, HQ.out.2.2.2.1⟩
              clear X Y HQ hx hxl om hkm lp
              go_wp2
              go_roundw
              case rel => exact ⟨j + 1, by omega, by go_num, by rw [HX.out.2.2]; rfl, HX.out.1, HX.out.2.1⟩
              case measure => simp [intOf]; omega
            · have X := HQ.out.2.1 (m : Int) (by rw [HQ.out.2.2.2.2.1, e2, Int.toNat_natCast, hkm, e3]; simp)
              have Y := HQ.out.2.2.2.2.2 (.int .i64 (m : Int))
              have HX : Hid (_ ∧ _ ∧ _) := ⟨X, Y, HQ.out.2.2.2.1⟩
              clear X Y HQ hx hxl om hkm lp
              go_wp2
              go_roundw
              case rel => exact ⟨j + 1, by omega, by go_num, by rw [HX.out.2.2]; rfl, HX.out.1, HX.out.2.1⟩
              case measure => simp [intOf]; omega
          · have X := HQ.out.1 (-1) (by rw [HQ.out.2.2.2.2.1, e2]; simp [l0])
            have Y := HQ.out.2.2.1 (.int .i64 (-1))
            have HX : Hid (_ ∧ _ ∧ _) := ⟨X, Y, HQ.out.2.2.2.1⟩
            clear X Y HQ hx hxl lp
            go_wp2
            go_roundw
            case rel => exact ⟨j + 1, by omega, by go_num, by rw [HX.out.2.2]; rfl, HX.out.1, HX.out.2.1⟩
            case measure => simp [intOf]; omega
    · have e : j = n := by omega
      subst e
      have X := hB.congr (g := fun i => .int .i64 (W.pairO x i)) (fun i hi => by unfold prF; rw [if_pos hi])
      have HX : Hid (_ ∧ _) := ⟨X, hbl⟩
      clear X hB hbl
      go_wp2
      go_ret
      exact ⟨⟨_, rfl, Nat.le_refl _, HX.out.1⟩, HX.out.2⟩
end Go.Proofs.YtibohlbkkaghkaaDoor

/- wmo: shapes. -/
namespace Go.Proofs.YtibohlbkkaghkaaDoor
open Go.ChangeShapes Go.WideShapes Go.ChangeAt Go.RowKit
set_option linter.unusedVariables false
set_option linter.unusedSimpArgs false

set_option maxHeartbeats 800000 in
theorem allBelow_any (s : W.Sl) (l : List Int) (n : Int) (w : World) (h : Li s l w) (hl : ∀ d ∈ l, 0 ≤ d ∧ d < n) :
    Calls Tryd.prog 57 #[slV s, .int .i64 n] w fun e w' => e = .returned (.bool true) ∧ w = w' := by
  obtain ⟨hn, hm, _, hc⟩ := h
  obtain ⟨a, m, c⟩ := s
  simp only at hn hm hc
  subst hn
  have HK : Hid (_ ∧ _) := ⟨hc, hl⟩
  clear hc hl
  unfold slV
  go_enter Tryd.func57, Tryd.ntmps57
  go_wp2
  go_loopw [9] (fun i wr => ∃ j : Nat, j ≤ l.length ∧ i = .int .i64 j ∧ wr = w) (fun i _ => l.length - (intOf i).toNat)
  case atStart => exact ⟨0, by omega, rfl, rfl⟩
  case round =>
    obtain ⟨j, hj, rfl, rfl⟩ := hrel
    by_cases hlt : j < l.length
    · obtain ⟨b, o, rfl, hb, hc⟩ := HK.out.1 (by omega)
      have g0 := hc j l[j] (List.getElem?_eq_getElem hlt)
      have g1 := HK.out.2 l[j] (List.getElem_mem hlt)
      have hjn : (j : Int) < (l.length : Int) := by omega
      clear hc
      generalize l[j] = x at *
      have x0 : ¬ x < 0 := by omega
      have x1 : ¬ n ≤ x := by omega
      go_wp2
      go_roundw
      case rel => exact ⟨j + 1, by omega, by go_num, trivial⟩
      case measure => simp [intOf]; omega
    · have hjn : ¬ (j : Int) < (l.length : Int) := by omega
      go_wp2
      go_ret
      exact ⟨rfl, rfl⟩
set_option maxHeartbeats 800000 in
theorem depsFit_any (g off : Nat) (z : W.Oz) (n : Int) (w : World) (h : OzAt g off z w) (ha : ∀ d ∈ z.a, 0 ≤ d ∧ d < n) (hd : ∀ d ∈ z.d, 0 ≤ d ∧ d < n) (hc : ∀ d ∈ z.c, 0 ≤ d ∧ d < n) :
    Calls Tryd.prog 49 #[.pointer (some ⟨g, off, none⟩), .int .i64 n] w fun e w' => e = .returned (.bool true) ∧ w = w' := by
  obtain ⟨⟨lt, _, _, _, _, _, _⟩, _, _, ⟨s1, a1, a2⟩, ⟨s2, b1, b2⟩, ⟨s3, d1, d2⟩⟩ := h
  have HH : Hid (_ ∧ _ ∧ _) := ⟨allBelow_any s1 _ n w a2 ha, allBelow_any s2 _ n w b2 hd, allBelow_any s3 _ n w d2 hc⟩
  clear a2 b2 d2 ha hd hc
  generalize slV s1 = v1 at *
  generalize slV s2 = v2 at *
  generalize slV s3 = v3 at *
  go_enter Tryd.func49, Tryd.ntmps49
  go_wp2_with (fail)
  refine HH.out.1.mono ?_
  rintro e w1 ⟨rfl, rfl⟩
  go_wp2_with (fail)
  refine HH.out.2.1.mono ?_
  rintro e w1 ⟨rfl, rfl⟩
  go_wp2_with (fail)
  refine HH.out.2.2.mono ?_
  rintro e w1 ⟨rfl, rfl⟩
  go_wp2
  go_ret
  exact ⟨rfl, rfl⟩
/-- A paired one that may be. -/
def W.FitP (x : Nat → W.Oz) (j : Nat) : Prop := ((x j).o.k = 1 ∧ (x j).o.sz = 4) ∨ ((x j).o.k = 2 ∧ (x j).o.sz = 4 ∧ 0 ≤ W.pairO x j ∧ (x (W.pairO x j).toNat).o.ad = (x j).o.ad)
/-- Operations whose shapes are such as can be. -/
structure W.Shp (x : Nat → W.Oz) (n : Nat) : Prop where
  b : ∀ j, j < n → W.FitB (x j).o
  a0 : ∀ j, j < n → 0 ≤ (x j).o.ad
  a1 : ∀ j, j < n → (x j).o.ad < 4294967296
  a : ∀ j, j < n → ∀ d ∈ (x j).a, 0 ≤ d ∧ d < (j : Int)
  d : ∀ j, j < n → ∀ d ∈ (x j).d, 0 ≤ d ∧ d < (j : Int)
  c : ∀ j, j < n → ∀ d ∈ (x j).c, 0 ≤ d ∧ d < (j : Int)
  p : ∀ j, j < n → (x j).o.pr = true → W.FitP x j
theorem W.pairO_lt (x : Nat → W.Oz) (n : Nat) : W.pairO x n < (n : Int) ∧ -1 ≤ W.pairO x n := by
  have := W.lastP_lt x n
  unfold W.pairO
  cases ((x n).o.pr && ((x n).o.k == 2) && decide (0 ≤ W.lastP x n) && ((x (W.lastP x n).toNat).o.k == 1))
  · exact ⟨by show (-1 : Int) < _; omega, by show (-1 : Int) ≤ -1; omega⟩
  · exact ⟨this.2, this.1⟩
set_option maxHeartbeats 800000 in
theorem pairFits_any (g off : Nat) (m c : Nat) (x : Nat → W.Oz) (j : Nat) (hj : j < m) (w : World) (hx : ∀ j, j < m → OzAt g (off + j * 13) (x j) w) (hm : m ≤ 4096) (hf : W.FitP x j) :
    Calls Tryd.prog 50 #[.slice (some ⟨g, off, none⟩) m c, .int .i64 (j : Int), .int .i64 (W.pairO x j)] w fun e w' => e = .returned (.bool true) ∧ Below w.heap.size w w' := by
  have lt := (hx j hj).o.lt
  have c0 := (hx j hj).o.c0
  have c1 := (hx j hj).o.c1
  have c2 := (hx j hj).o.c2
  have hjm : (j : Int) < (m : Int) := by omega
  unfold W.FitP at hf
  rcases hf with ⟨hk, hs⟩ | ⟨hk, hs, hp, ha⟩
  · rw [hk] at c0
    rw [hs] at c1
    generalize W.pairO x j = P at *
    clear hx c2
    go_enter Tryd.func50, Tryd.ntmps50
    go_wp2
    go_ret
    exact ⟨rfl, Below.refl _ _⟩
  · rw [hk] at c0
    rw [hs] at c1
    have hlt := (W.pairO_lt x j).1
    obtain ⟨q, hq⟩ := Int.eq_ofNat_of_zero_le hp
    rw [hq] at hlt ⊢
    rw [hq, Int.toNat_natCast] at ha
    have d2 := (hx q (by omega)).o.c2
    rw [ha] at d2
    have hqm : (q : Int) < (m : Int) := by omega
    clear hx
    go_enter Tryd.func50, Tryd.ntmps50
    go_wp2
    first
      | (go_ret; first | exact ⟨rfl, Below.refl _ _⟩ | exact ⟨by simp, Below.refl _ _⟩)
      | (go_region; go_wp2; go_ret; first | exact ⟨rfl, (Below.refl _ _).drew⟩ | exact ⟨by simp, (Below.refl _ _).drew⟩)
set_option maxHeartbeats 1600000 in
theorem misshapen_any (a : Option Addr) (n c : Nat) (x : Nat → W.Oz) (w : World) (hO : Ol a n x w) (hn : n ≤ 4096) (hS : W.Shp x n) :
    Calls Tryd.prog 35 #[.slice a n c] w fun e w' => e = .returned (.int .i64 (n : Int)) ∧ Below w.heap.size w w' := by
  have HH : Hid (Calls _ _ _ _ _ ∧ _ ∧ _) := ⟨pairs_any a n c x w hO hn, hO, hS⟩
  clear hO hS
  go_enter Tryd.func35, Tryd.ntmps35
  go_wp2_with (fail)
  refine HH.out.1.mono ?_
  rintro e w1 ⟨⟨pg, rfl, hpg, hP⟩, b1⟩
  have HP : Hid (_ ∧ _) := ⟨hP, b1⟩
  clear hP b1
  go_wp2
  go_loopw [10] (fun i wr => ∃ j : Nat, j ≤ n ∧ i = .int .i64 j ∧ Below w1.heap.size w1 wr) (fun i _ => n - (intOf i).toNat)
  case atStart => exact ⟨0, by omega, rfl, Below.refl _ _⟩
  case round =>
    obtain ⟨j, hj, rfl, br⟩ := hrel
    by_cases hlt : j < n
    · have hjn : (j : Int) < (n : Int) := by omega
      have bwr : Below w.heap.size w wr := HP.out.2.trans (br.mono HP.out.2.size)
      obtain ⟨g, off, rfl, hx⟩ := (HH.out.2.1.below bwr).at_ (by omega)
      have S := HH.out.2.2
      have c1 := bytesFit_any g (off + j * 13) (x j).o wr (hx j hlt).o (S.b j hlt) (S.a0 j hlt) (S.a1 j hlt)
      have c2 := fun w' (hb : Below wr.heap.size wr w') => depsFit_any g (off + j * 13) (x j) (j : Int) w' ((hx j hlt).below hb) (S.a j hlt) (S.d j hlt) (S.c j hlt)
      have pc := (HP.out.1.below br).c j hlt
      have pl := (HP.out.1.below br).lt
      have p5 := (hx j hlt).o.c5
      have xl := (hx j hlt).o.lt
      have c3 := fun w' (hb : Below wr.heap.size wr w') (hp : (x j).o.pr = true) => pairFits_any g off n c x j hlt w' (fun q hq => (hx q hq).below hb) hn (S.p j hlt hp)
      have HC : Hid (_ ∧ _ ∧ _ ∧ _) := ⟨c1, c2, c3, br⟩
      clear c1 c2 c3 hx S br bwr
      cases hpr : (x j).o.pr
      · rw [hpr] at p5
        go_wp2_with (fail)
        refine HC.out.1.mono ?_
        rintro e w2 ⟨rfl, b2⟩
        have p5' := (b2.cell (p := ⟨g, off + j * 13 + 5, none⟩) xl).trans p5
        have xl' := Nat.lt_of_lt_of_le xl b2.size
        go_wp2_with (fail)
        refine (HC.out.2.1 _ b2).mono ?_
        rintro e w3 ⟨rfl, rfl⟩
        have b4 := HC.out.2.2.2.trans (b2.mono HC.out.2.2.2.size)
        clear HC b2 p5 xl pc pl
        go_wp2
        go_roundw
        case rel => exact ⟨j + 1, by omega, by go_num, b4⟩
        case measure => simp [intOf]; omega
      · rw [hpr] at p5
        go_wp2_with (fail)
        refine HC.out.1.mono ?_
        rintro e w2 ⟨rfl, b2⟩
        have p5' := (b2.cell (p := ⟨g, off + j * 13 + 5, none⟩) xl).trans p5
        have xl' := Nat.lt_of_lt_of_le xl b2.size
        have pc' := (b2.cell (p := ⟨pg, j, none⟩) pl).trans pc
        have pl' := Nat.lt_of_lt_of_le pl b2.size
        go_wp2_with (fail)
        refine (HC.out.2.1 _ b2).mono ?_
        rintro e w3 ⟨rfl, rfl⟩
        go_wp2_with (fail)
        refine (HC.out.2.2.1 _ b2 hpr).mono ?_
        rintro e w3 ⟨rfl, b3⟩
        have b4 := HC.out.2.2.2.trans ((b2.trans (b3.mono b2.size)).mono HC.out.2.2.2.size)
        clear HC b2 b3 p5 xl pc pl p5' pc' xl' pl'
        go_wp2
        go_roundw
        case rel => exact ⟨j + 1, by omega, by go_num, b4⟩
        case measure => simp [intOf]; omega
    · have hjn : ¬ (j : Int) < (n : Int) := by omega
      have b4 := HP.out.2.trans (br.mono HP.out.2.size)
      clear br
      go_wp2
      go_ret
      exact ⟨rfl, b4⟩
end Go.Proofs.YtibohlbkkaghkaaDoor
