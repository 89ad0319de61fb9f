/- Texts in one: Plain, DepM, Word, Math, Math2, Math3, Math4, Math5, Math6, MathE, MathF, PlainI, PlainA, Pack, Enc, Enc2, Enc3, IsaA, AluA. -/
import Derived.RowKit
import Derived.IntWalk
import Derived.Laws.BitsAllLaws
import Derived.Test.YtpapiimiblefaaaRows
import Derived.WalkKit
import Derived.ProofKit
import Derived.OpenShut
import Derived.Deep.QuietTactic
import Derived.BigQuiet
import Derived.WalkSmall

/- Plain mirrors of package word's functions on numbers, without any Go: what each call comes to; their laws stand behind. -/
namespace Go.Proofs.Ytpapiimiblefaaa.W
open Go.RowKit

/-- The number that a stands for, with its sign or without. -/
def wide (a : Int) (s : Bool) : Int := wrap64 (bif s then wrap32 a else a)
def less (a b : Int) (s : Bool) : Bool := decide (wide a s < wide b s)
def right (a n : Int) (s : Bool) : Int := wide a s / 2 ^ (n % 32).toNat % 4294967296
def left (a n : Int) : Int := a * 2 ^ (n % 32).toNat % 4294967296
def sgn (a n : Int) : Int := if n < 1 then 0 else if 31 < n then a else wrap32 (a * 2 ^ (32 - n).toNat % 4294967296) / 2 ^ (32 - n).toNat % 4294967296
def within (low n : Int) : Bool := decide (0 ≤ low) && (decide (low ≤ 31) && decide (1 ≤ n))
def lowest (n : Int) : Int := if 31 < n then 4294967295 else (2 ^ n.toNat % 4294967296 - 1) % 4294967296
def bitsOf (x low n : Int) : Int := bif within low n then bits .and .u32 (x / 2 ^ low.toNat) (lowest n) else 0

def high (a b : Int) (s t : Bool) : Int := IntKind.u64.wrap (wrap64 (wide a s * wide b t)) / 4294967296 % 4294967296
def div (a b : Int) (s : Bool) : Int := if b = 0 then 4294967295 else wrap64 ((wide a s).tdiv (wide b s)) % 4294967296
def rem (a b : Int) (s : Bool) : Int := if b = 0 then a else (wide a s).tmod (wide b s) % 4294967296
def place (v low n : Int) : Int := bits .and .u32 v (lowest n) * 2 ^ low.toNat % 4294967296
def pack (L N V : Nat → Int) : Nat → Int
  | 0 => 0
  | k + 1 => bif within (L k) (N k) then bits .or .u32 (pack L N V k) (place (V k) (L k) (N k)) else pack L N V k

/-- The fields of the chapter's example. -/
def exL (j : Nat) : Int := if j = 0 then 0 else 7
def exN (j : Nat) : Int := if j = 0 then 7 else 5
def exV (j : Nat) : Int := if j = 0 then 19 else 1

theorem and31 (n : Int) : bits .and .i64 n 31 = n % 32 := by
  have h : ((BitVec.ofInt 64 n &&& BitVec.ofInt 64 31 : BitVec 64).toNat : Int) = n % 32 := by
    rw [BitVec.toNat_and]
    have h31 : (BitVec.ofInt 64 31).toNat = 31 := by decide
    rw [h31, nat_mask5, BitVec.toNat_ofInt]
    simp
    omega
  show IntKind.i64.wrap ((BitVec.ofInt 64 n &&& BitVec.ofInt 64 31 : BitVec 64).toNat : Int) = n % 32
  rw [h]
  exact IntWalk.i64_in _ (by omega)

theorem wide_ne (b : Int) (s : Bool) (h0 : 0 ≤ b) (h1 : b < 4294967296) (hb : ¬ b = 0) : ¬ wide b s = 0 := by
  cases s
  · simp only [wide, cond_false, wrap64]; omega
  · simp only [wide, cond_true, wrap64, wrap32]; omega
end Go.Proofs.Ytpapiimiblefaaa.W

/- Rising lists; what an instruction has to do with memory: without any Go. -/
namespace Go.Proofs.Ytpapiimiblefaaa.W
open Go.RowKit
set_option linter.unusedVariables false
set_option linter.unusedSimpArgs false

structure Sl where
  a : Option Addr
  n : Nat
  c : Nat
def Sl.nil : Sl := ⟨none, 0, 0⟩
def Rg (v : Int) : Prop := 0 ≤ v ∧ v < 4294967296

/-- Rising, each from 0 to below n. -/
def Rise (n : Int) (l : List Int) : Prop := l.Pairwise (· < ·) ∧ ∀ x ∈ l, 0 ≤ x ∧ x < n
theorem rise_nil (n : Int) : Rise n [] := ⟨List.Pairwise.nil, by simp⟩
theorem Rise.mono {n m : Int} {l : List Int} (h : Rise n l) (hm : n ≤ m) : Rise m l := ⟨h.1, fun x hx => ⟨(h.2 x hx).1, Int.lt_of_lt_of_le (h.2 x hx).2 hm⟩⟩
theorem rise_len : ∀ (l : List Int) (a b : Int), l.Pairwise (· < ·) → (∀ x ∈ l, a ≤ x ∧ x < b) → (l.length : Int) ≤ b - a ∨ l = []
  | [], _, _, _, _ => Or.inr rfl
  | x :: t, a, b, hp, hx => by
    left
    have h0 := hx x (by simp)
    rw [List.pairwise_cons] at hp
    rcases rise_len t (x + 1) b hp.2 (fun y hy => ⟨by have := hp.1 y hy; omega, (hx y (by simp [hy])).2⟩) with h | h
    · simp only [List.length_cons, Int.natCast_add]; omega
    · subst h; simp; omega
theorem Rise.len {n : Nat} {l : List Int} (h : Rise n l) : l.length ≤ n := by
  rcases rise_len l 0 n h.1 h.2 with h | h
  · omega
  · subst h; simp
/-- A rising list is known by what is in it. -/
theorem rise_eq : ∀ (l k : List Int), l.Pairwise (· < ·) → k.Pairwise (· < ·) → (∀ x, x ∈ l ↔ x ∈ k) → l = k
  | [], [], _, _, _ => rfl
  | [], y :: k, _, _, h => absurd ((h y).2 (by simp)) (by simp)
  | x :: l, [], _, _, h => absurd ((h x).1 (by simp)) (by simp)
  | x :: l, y :: k, hl, hk, h => by
    rw [List.pairwise_cons] at hl hk
    have e : x = y := by
      have h1 := (h x).1 (by simp)
      have h2 := (h y).2 (by simp)
      simp only [List.mem_cons] at h1 h2
      rcases h1 with h1 | h1
      · exact h1
      · rcases h2 with h2 | h2
        · exact h2.symm
        · have := hk.1 x h1; have := hl.1 y h2; omega
    subst e
    congr 1
    refine rise_eq l k hl.2 hk.2 fun z => ⟨fun hz => ?_, fun hz => ?_⟩
    · have h1 := (h z).1 (by simp [hz])
      simp only [List.mem_cons] at h1
      rcases h1 with h1 | h1
      · have := hl.1 z hz; omega
      · exact h1
    · have h1 := (h z).2 (by simp [hz])
      simp only [List.mem_cons] at h1
      rcases h1 with h1 | h1
      · have := hk.1 z hz; omega
      · exact h1
/-- Put among rising ones. -/
def insU (x : Int) : List Int → List Int
  | [] => [x]
  | y :: t => if x < y then x :: y :: t else if x = y then y :: t else y :: insU x t
theorem mem_insU (x z : Int) : ∀ l : List Int, z ∈ insU x l ↔ z = x ∨ z ∈ l
  | [] => by simp [insU]
  | y :: t => by
    unfold insU
    split
    · simp
    · split
      · rename_i h; subst h; simp
      · simp only [List.mem_cons, mem_insU x z t]
        constructor
        · rintro (h | h | h) <;> simp [h]
        · rintro (h | h | h) <;> simp [h]
theorem pw_insU (x : Int) : ∀ l : List Int, l.Pairwise (· < ·) → (insU x l).Pairwise (· < ·)
  | [], _ => by simp [insU]
  | y :: t, h => by
    rw [List.pairwise_cons] at h
    unfold insU
    split
    · rename_i hxy
      refine List.pairwise_cons.2 ⟨fun z hz => ?_, List.pairwise_cons.2 h⟩
      simp only [List.mem_cons] at hz
      rcases hz with rfl | hz
      · exact hxy
      · have := h.1 z hz; omega
    · split
      · exact List.pairwise_cons.2 h
      · refine List.pairwise_cons.2 ⟨fun z hz => ?_, pw_insU x t h.2⟩
        rcases (mem_insU x z t).1 hz with rfl | hz
        · omega
        · exact h.1 z hz
/-- What is in a or in b. -/
def uni (a b : List Int) : List Int := a.foldr insU b
theorem mem_uni (a b : List Int) (z : Int) : z ∈ uni a b ↔ z ∈ a ∨ z ∈ b := by
  induction a with
  | nil => simp [uni]
  | cons x t ih =>
    show z ∈ insU x (uni t b) ↔ _
    rw [mem_insU, ih]
    simp only [List.mem_cons]
    constructor
    · rintro (h | h | h) <;> simp [h]
    · rintro ((h | h) | h) <;> simp [h]
theorem pw_uni (a b : List Int) (hb : b.Pairwise (· < ·)) : (uni a b).Pairwise (· < ·) := by
  induction a with
  | nil => exact hb
  | cons x t ih => exact pw_insU x _ ih
theorem Rise.uni {n : Int} {a b : List Int} (ha : Rise n a) (hb : Rise n b) : Rise n (uni a b) :=
  ⟨pw_uni a b hb.1, fun x hx => ((mem_uni a b x).1 hx).elim (ha.2 x) (hb.2 x)⟩
theorem uni_nil_r {a : List Int} (ha : a.Pairwise (· < ·)) : uni a [] = a :=
  rise_eq _ _ (pw_uni a [] List.Pairwise.nil) ha fun x => by rw [mem_uni]; simp
theorem uni_nil_l (b : List Int) : uni [] b = b := rfl

theorem insU_len (x : Int) : ∀ l : List Int, (insU x l).length ≤ l.length + 1
  | [] => by simp [insU]
  | y :: t => by
    unfold insU
    have := insU_len x t
    split
    · simp
    · split
      · simp
      · simp; omega
theorem uni_len (a b : List Int) : (uni a b).length ≤ a.length + b.length := by
  induction a with
  | nil => simp [uni]
  | cons x t ih =>
    show (insU x (uni t b)).length ≤ _
    have := insU_len x (uni t b)
    simp only [List.length_cons]
    omega

/-- How many of a lie below v, from the left. -/
def bel (a : List Int) (v : Int) : Nat := (a.takeWhile fun x => decide (x < v)).length
theorem bel_cons (x : Int) (t : List Int) (v : Int) : bel (x :: t) v = if x < v then bel t v + 1 else 0 := by
  unfold bel
  rw [List.takeWhile_cons]
  by_cases h : x < v <;> simp [h]
theorem bel_le : ∀ (a : List Int) (v : Int), bel a v ≤ a.length
  | [], v => by simp [bel]
  | x :: t, v => by
    rw [bel_cons]
    have := bel_le t v
    split <;> simp <;> omega
theorem bel_lt : ∀ (a : List Int) (v : Int) (j : Nat) (x : Int), j < bel a v → a[j]? = some x → x < v
  | [], v, j, x, h, _ => by simp [bel] at h
  | y :: t, v, j, x, h, hx => by
    rw [bel_cons] at h
    split at h
    · rename_i hy
      match j, h, hx with
      | 0, _, hx => simp at hx; omega
      | j + 1, h, hx => exact bel_lt t v j x (by omega) (by simpa using hx)
    · omega
theorem bel_at : ∀ (a : List Int) (v : Int) (x : Int), a[bel a v]? = some x → ¬ x < v
  | [], v, x, h => by simp at h
  | y :: t, v, x, h => by
    rw [bel_cons] at h
    split at h
    · exact bel_at t v x (by simpa using h)
    · rename_i hy
      simp at h
      omega
/-- The one round of the merge: what stays of a. -/
def cutH (a : List Int) (y : Int) : List Int := match a with | [] => [] | x :: t => if x = y then t else x :: t
/-- What the merge keeps true. -/
structure Mg (A B all a b : List Int) : Prop where
  pa : a.Pairwise (· < ·)
  pb : b.Pairwise (· < ·)
  pl : all.Pairwise (· < ·)
  la : ∀ x ∈ all, ∀ y ∈ a, x < y
  lb : ∀ x ∈ all, ∀ y ∈ b, x < y
  me : ∀ x, (x ∈ all ∨ x ∈ a ∨ x ∈ b) ↔ (x ∈ A ∨ x ∈ B)
  ne : a ≠ []
theorem mem_cutH (a : List Int) (y x : Int) (h : x ∈ cutH a y) : x ∈ a := by
  unfold cutH at h
  split at h
  · exact h
  · split at h
    · simp [h]
    · exact h
theorem mem_cutH' (a : List Int) (y x : Int) (h : x ∈ a) : x = y ∨ x ∈ cutH a y := by
  unfold cutH
  split
  · exact Or.inr h
  · split
    · rename_i e
      simp only [List.mem_cons] at h
      rcases h with h | h
      · exact Or.inl (h.trans e)
      · exact Or.inr h
    · exact Or.inr h
theorem pw_cutH (a : List Int) (y : Int) (h : a.Pairwise (· < ·)) : (cutH a y).Pairwise (· < ·) := by
  unfold cutH
  split
  · exact h
  · split
    · exact (List.pairwise_cons.1 h).2
    · exact h
theorem Mg.step {A B all a b : List Int} {y : Int} (h : Mg A B all a (y :: b)) : Mg A B (all ++ a.take (bel a y)) (y :: b) (cutH (a.drop (bel a y)) y) := by
  have hp : (a.take (bel a y) ++ a.drop (bel a y)).Pairwise (· < ·) := by rw [List.take_append_drop]; exact h.pa
  rw [List.pairwise_append] at hp
  have hm : ∀ x, x ∈ a ↔ x ∈ a.take (bel a y) ∨ x ∈ a.drop (bel a y) := fun x => by
    conv => lhs; rw [← List.take_append_drop (bel a y) a]
    exact List.mem_append
  have hlt : ∀ x ∈ a.take (bel a y), x < y := fun x hx => by
    obtain ⟨j, hj, e⟩ := List.getElem_of_mem hx
    rw [List.length_take] at hj
    refine bel_lt a y j x (by omega) ?_
    rw [List.getElem_take] at e
    rw [List.getElem?_eq_getElem (by omega), e]
  have pb := List.pairwise_cons.1 h.pb
  refine ⟨h.pb, pw_cutH _ _ hp.2.1, List.pairwise_append.2 ⟨h.pl, hp.1, fun x hx z hz => h.la x hx z ((hm z).2 (Or.inl hz))⟩, fun x hx z hz => ?_, fun x hx z hz => ?_, fun x => ?_, by simp⟩
  · rcases List.mem_append.1 hx with hx | hx
    · exact h.lb x hx z hz
    · have := hlt x hx
      simp only [List.mem_cons] at hz
      rcases hz with rfl | hz
      · exact this
      · have := pb.1 z hz; omega
  · have hz' := mem_cutH _ _ _ hz
    rcases List.mem_append.1 hx with hx | hx
    · exact h.la x hx z ((hm z).2 (Or.inr hz'))
    · exact hp.2.2 x hx z hz'
  · rw [← h.me x, hm x, List.mem_append]
    constructor
    · rintro ((h1 | h1) | h1 | h1)
      · exact Or.inl h1
      · exact Or.inr (Or.inl (Or.inl h1))
      · exact Or.inr (Or.inr h1)
      · exact Or.inr (Or.inl (Or.inr (mem_cutH _ _ _ h1)))
    · rintro (h1 | (h1 | h1) | h1)
      · exact Or.inl (Or.inl h1)
      · exact Or.inl (Or.inr h1)
      · rcases mem_cutH' _ y _ h1 with h2 | h2
        · exact Or.inr (Or.inl (by simp [h2]))
        · exact Or.inr (Or.inr h2)
      · exact Or.inr (Or.inl h1)
theorem Mg.done {A B all a : List Int} (hB : B.Pairwise (· < ·)) (h : Mg A B all a []) : all ++ a = uni A B := by
  refine rise_eq _ _ (List.pairwise_append.2 ⟨h.pl, h.pa, h.la⟩) (pw_uni A B hB) fun x => ?_
  rw [mem_uni, ← h.me x, List.mem_append]
  simp
theorem Mg.start {A B : List Int} (hA : A.Pairwise (· < ·)) (hB : B.Pairwise (· < ·)) (ne : A ≠ []) : Mg A B [] A B :=
  ⟨hA, hB, List.Pairwise.nil, by simp, by simp, by simp, ne⟩
theorem cutH_len (a : List Int) (y : Int) : (cutH a y).length ≤ a.length := by
  unfold cutH
  split
  · simp
  · split <;> simp
end Go.Proofs.Ytpapiimiblefaaa.W

/- What each function of package word returns, as a plain function of its numbers: a contract a function. -/
namespace Go.Proofs.Ytpapiimiblefaaa
open Go.ChangeShapes Go.WideShapes Go.ChangeAt Go.RowKit

theorem ret_int {k : IntKind} {a b : Int} (h : a = b) : Ending.returned (.int k a) = .returned (.int k b) := by rw [h]

theorem sgn_any (a n : Int) (w : World) :
    Calls Try.prog 60 #[.int .u32 a, .int .i64 n] w fun e w' => e = .returned (.int .u32 (W.sgn a n)) ∧ w = w' := by
  by_cases h1 : n < 1
  · go_enter Try.func60, Try.ntmps60
    go_wp2
    go_ret
    exact ⟨ret_int (by rw [W.sgn, if_pos h1]), rfl⟩
  · by_cases h2 : 31 < n
    · go_enter Try.func60, Try.ntmps60
      go_wp2
      go_ret
      exact ⟨ret_int (by rw [W.sgn, if_neg (by omega), if_pos (by omega)]), rfl⟩
    · go_enter Try.func60, Try.ntmps60
      go_wp2
      go_ret
      exact ⟨ret_int (by rw [W.sgn, if_neg (by omega), if_neg (by omega)]), rfl⟩

theorem within_any (low n : Int) (w : World) :
    Calls Try.prog 53 #[.int .i64 low, .int .i64 n] w fun e w' => e = .returned (.bool (W.within low n)) ∧ w' = w := by
  by_cases h1 : 0 ≤ low
  · by_cases h2 : low ≤ 31
    · go_enter Try.func53, Try.ntmps53
      go_wp2
      go_ret
      exact ⟨by simp [W.within, h1, h2], rfl⟩
    · go_enter Try.func53, Try.ntmps53
      go_wp2
      go_ret
      exact ⟨by simp [W.within]; omega, rfl⟩
  · go_enter Try.func53, Try.ntmps53
    go_wp2
    go_ret
    exact ⟨by simp [W.within]; omega, rfl⟩

theorem lowest_any (n : Int) (h : 1 ≤ n) (w : World) :
    Calls Try.prog 54 #[.int .i64 n] w fun e w' => e = .returned (.int .u32 (W.lowest n)) ∧ w' = w := by
  by_cases h2 : 31 < n
  · go_enter Try.func54, Try.ntmps54
    go_wp2
    go_ret
    exact ⟨ret_int (by rw [W.lowest, if_pos h2]), rfl⟩
  · go_enter Try.func54, Try.ntmps54
    go_wp2
    go_ret
    exact ⟨ret_int (by rw [W.lowest, if_neg (by omega)]; simp), rfl⟩

theorem bits_any (x low n : Int) (w : World) :
    Calls Try.prog 46 #[.int .u32 x, .int .i64 low, .int .i64 n] w fun e w' => e = .returned (.int .u32 (W.bitsOf x low n)) ∧ ∃ k, w' = w.drewN k := by
  cases hw : W.within low n
  · have hb : W.bitsOf x low n = 0 := by rw [W.bitsOf, hw]; rfl
    go_enter Try.func46, Try.ntmps46
    go_wp2_with (go_at_call 53; refine (within_any _ _ _).mono ?_; rintro e w' ⟨rfl, rfl⟩)
    go_ret
    exact ⟨ret_int hb.symm, 0, rfl⟩
  · have h1 : 0 ≤ low ∧ low ≤ 31 ∧ 1 ≤ n := by simpa [W.within] using hw
    obtain ⟨h1, h2, h3⟩ := h1
    have hb : Hid (W.bitsOf x low n = bits .and .u32 (x / 2 ^ low.toNat) (W.lowest n)) := by
      have : W.bitsOf x low n = bits .and .u32 (x / 2 ^ low.toNat) (W.lowest n) := by rw [W.bitsOf, hw]; rfl
      exact this
    go_enter Try.func46, Try.ntmps46
    go_wp2_with (go_at_call 53; refine (within_any _ _ _).mono ?_; rintro e w' ⟨rfl, rfl⟩)
    go_quiet ((go_at_call 54; exact Calls.quiet_of_same (lowest_any _ h3 _)))
    go_wp2
    go_ret
    exact ⟨ret_int hb.out.symm, _, rfl⟩

end Go.Proofs.Ytpapiimiblefaaa

/- Laws of the plain mirrors, for words (0 to 2^32 - 1): what the parts and shifts come to in sums, quotients and rests. -/
namespace Go.Proofs.Ytpapiimiblefaaa.W
open Go.RowKit
set_option linter.unusedVariables false

theorem cases31 (k : Int) (h0 : 0 ≤ k) (h1 : k ≤ 31) : k = 0 ∨ k = 1 ∨ k = 2 ∨ k = 3 ∨ k = 4 ∨ k = 5 ∨ k = 6 ∨ k = 7 ∨ k = 8 ∨ k = 9 ∨ k = 10 ∨ k = 11 ∨ k = 12 ∨ k = 13 ∨ k = 14 ∨ k = 15 ∨ k = 16 ∨ k = 17 ∨ k = 18 ∨ k = 19 ∨ k = 20 ∨ k = 21 ∨ k = 22 ∨ k = 23 ∨ k = 24 ∨ k = 25 ∨ k = 26 ∨ k = 27 ∨ k = 28 ∨ k = 29 ∨ k = 30 ∨ k = 31 := by omega

theorem pow_le32 (m : Nat) (h : m ≤ 32) : (2 : Nat) ^ m ≤ 4294967296 := by
  have := Nat.pow_le_pow_right (n := 2) (by decide) h
  simpa using this

theorem wide_f (a : Int) (h0 : 0 ≤ a) (h1 : a < 4294967296) : wide a false = a := by
  simp only [wide, cond_false, wrap64]; omega
theorem wide_t (a : Int) (h0 : 0 ≤ a) (h1 : a < 4294967296) : wide a true = if a < 2147483648 then a else a - 4294967296 := by
  simp only [wide, cond_true, wrap64, wrap32]; split <;> omega

theorem low_and (a : Int) (m : Nat) (hm : m ≤ 32) (h0 : 0 ≤ a) (h1 : a < 4294967296) : bits .and .u32 a (2 ^ m - 1) = a % 2 ^ m := by
  have hp := pow_le32 m hm
  have hq : 1 ≤ (2 : Nat) ^ m := Nat.one_le_two_pow
  have e : ((2 : Int) ^ m - 1) = ((2 ^ m - 1 : Nat) : Int) := by
    rw [Int.ofNat_sub hq]; simp
  obtain ⟨x, rfl⟩ := Int.eq_ofNat_of_zero_le h0
  rw [e, u32_and_nat x (2 ^ m - 1) (by omega) (by omega), Nat.and_two_pow_sub_one_eq_mod]
  simp

theorem lowest_eq (n : Int) (h : 1 ≤ n) : lowest n = 2 ^ (min n.toNat 32) - 1 := by
  unfold lowest
  split
  · have e : min n.toNat 32 = 32 := by omega
    rw [e]; rfl
  · have e : min n.toNat 32 = n.toNat := by omega
    rw [e]
    have hp := Nat.pow_le_pow_right (n := 2) (by decide) (show n.toNat ≤ 31 by omega)
    have hq : 1 ≤ (2 : Nat) ^ n.toNat := Nat.one_le_two_pow
    have e2 : ((2 : Int) ^ n.toNat) = ((2 ^ n.toNat : Nat) : Int) := by simp
    rw [e2]
    omega

theorem bitsOf_eq (x low n : Int) (h0 : 0 ≤ x) (h1 : x < 4294967296) (l0 : 0 ≤ low) (l1 : low ≤ 31) (hn : 1 ≤ n) :
    bitsOf x low n = x / 2 ^ low.toNat % 2 ^ (min n.toNat 32) := by
  have hw : within low n = true := by simp [within, l0, l1, hn]
  rw [bitsOf, hw, cond_true, lowest_eq n hn]
  have hq : (0 : Int) < 2 ^ low.toNat := Int.pow_pos (by decide)
  refine low_and _ _ (by omega) (Int.ediv_nonneg h0 (by omega)) ?_
  have := Int.ediv_le_self (2 ^ low.toNat) h0
  omega
theorem bitsOf_out (x low n : Int) (h : low < 0 ∨ 31 < low ∨ n < 1) : bitsOf x low n = 0 := by
  have hw : within low n = false := by
    simp [within]; omega
  rw [bitsOf, hw, cond_false]

theorem left_lt (x n : Int) : 0 ≤ left x n ∧ left x n < 4294967296 := by unfold left; omega
theorem right_lt (x n : Int) (s : Bool) : 0 ≤ right x n s ∧ right x n s < 4294967296 := by unfold right; omega

theorem left_mod (x n : Int) : left x n = left x (n % 32) := by unfold left; rw [Int.emod_emod_of_dvd n (Int.dvd_refl 32)]
theorem right_mod (x n : Int) (s : Bool) : right x n s = right x (n % 32) s := by unfold right; rw [Int.emod_emod_of_dvd n (Int.dvd_refl 32)]

theorem sh_bits (x k : Int) (h0 : 0 ≤ x) (h1 : x < 4294967296) (k0 : 0 < k) (k1 : k ≤ 31) : right (left x k) k false = bitsOf x 0 (32 - k) := by
  rw [bitsOf_eq x 0 (32 - k) h0 h1 (by omega) (by omega) (by omega), show min (32 - k).toNat 32 = (32 - k).toNat from by omega]
  have hl := left_lt x k
  unfold right
  rw [wide_f _ hl.1 hl.2]
  unfold left
  rcases cases31 k (by omega) k1 with rfl | rfl | rfl | rfl | rfl | rfl | rfl | rfl | rfl | rfl | rfl | rfl | rfl | rfl | rfl | rfl | rfl | rfl | rfl | rfl | rfl | rfl | rfl | rfl | rfl | rfl | rfl | rfl | rfl | rfl | rfl | rfl
  all_goals simp only [Int.reduceToNat, Int.reducePow, Int.reduceMod, Int.reduceSub]; omega

theorem wide_w (a : Int) : wide a true = wrap32 a := by
  simp only [wide, cond_true, wrap64, wrap32]; omega
theorem sh_sgn (x k : Int) (k0 : 0 < k) (k1 : k ≤ 31) : right (left x k) k true = sgn x (32 - k) := by
  unfold right sgn
  rw [wide_w, if_neg (by omega), if_neg (by omega), show (32 : Int) - (32 - k) = k from by omega]
  unfold left
  rw [show k % 32 = k from by omega]

theorem and1 (x : Int) (h0 : 0 ≤ x) (h1 : x < 4294967296) : bits .and .u32 x 1 = x % 2 := low_and x 1 (by decide) h0 h1

theorem halves (x : Int) (h0 : 0 ≤ x) (h1 : x < 4294967296) : (right x 1 true + right x 1 true + bits .and .u32 x 1) % 4294967296 = x := by
  rw [and1 x h0 h1]
  unfold right
  rw [wide_t x h0 h1]
  simp only [Int.reduceToNat, Int.reducePow, Int.reduceMod]
  split <;> omega

theorem half_sign (x : Int) (h0 : 0 ≤ x) (h1 : x < 4294967296) : less (right x 1 true) 0 true = less x 0 true := by
  have hr := right_lt x 1 true
  unfold less
  rw [wide_t _ hr.1 hr.2, wide_t x h0 h1, wide_t 0 (by decide) (by decide)]
  unfold right
  rw [wide_t x h0 h1]
  simp only [Int.reduceToNat, Int.reducePow, Int.reduceMod]
  rw [decide_eq_decide]
  by_cases hx : x < 2147483648
  · rw [if_pos hx]; split <;> simp <;> omega
  · rw [if_neg hx]; split <;> simp <;> omega
end Go.Proofs.Ytpapiimiblefaaa.W

/- More laws of the plain mirrors: signs extended, words turned by half, shifts as products and quotients. -/
namespace Go.Proofs.Ytpapiimiblefaaa.W
open Go.RowKit
set_option linter.unusedVariables false

theorem and15 (n : Int) : bits .and .i64 n 15 = n % 16 := by
  have h : ((BitVec.ofInt 64 n &&& BitVec.ofInt 64 15 : BitVec 64).toNat : Int) = n % 16 := by
    rw [BitVec.toNat_and]
    have h31 : (BitVec.ofInt 64 15).toNat = 15 := by decide
    rw [h31, nat_mask4, BitVec.toNat_ofInt]
    simp
    omega
  show IntKind.i64.wrap ((BitVec.ofInt 64 n &&& BitVec.ofInt 64 15 : BitVec 64).toNat : Int) = n % 16
  rw [h]
  exact IntWalk.i64_in _ (by omega)
theorem and7 (n : Int) : bits .and .i64 n 7 = n % 8 := by
  have h : ((BitVec.ofInt 64 n &&& BitVec.ofInt 64 7 : BitVec 64).toNat : Int) = n % 8 := by
    rw [BitVec.toNat_and]
    have h31 : (BitVec.ofInt 64 7).toNat = 7 := by decide
    rw [h31, nat_mask3, BitVec.toNat_ofInt]
    simp
    omega
  show IntKind.i64.wrap ((BitVec.ofInt 64 n &&& BitVec.ofInt 64 7 : BitVec 64).toNat : Int) = n % 8
  rw [h]
  exact IntWalk.i64_in _ (by omega)

/-- The word with its highest bit turned. -/
def flip (a : Int) : Int := (a + 2147483648) % 4294967296
theorem xor_low (l : Nat) (h : l < 2 ^ 31) : l ^^^ 2 ^ 31 = 2 ^ 31 + l := by
  apply Nat.eq_of_testBit_eq
  intro j
  rw [Nat.testBit_xor, Nat.testBit_two_pow]
  rcases Nat.lt_trichotomy j 31 with hj | hj | hj
  · rw [Nat.testBit_two_pow_add_gt hj]
    have : ¬ 31 = j := by omega
    simp [this]
  · subst hj
    rw [Nat.testBit_two_pow_add_eq]
    simp
  · have hp : 2 ^ 32 ≤ 2 ^ j := Nat.pow_le_pow_right (by decide) hj
    rw [Nat.testBit_lt_two_pow (x := l) (i := j) (by omega), Nat.testBit_lt_two_pow (x := 2 ^ 31 + l) (i := j) (by omega)]
    have : ¬ 31 = j := by omega
    simp [this]
theorem xor_half (a : Int) (h0 : 0 ≤ a) (h1 : a < 4294967296) : bits .xor .u32 a 2147483648 = flip a := by
  obtain ⟨x, rfl⟩ := Int.eq_ofNat_of_zero_le h0
  rw [show (2147483648 : Int) = ((2147483648 : Nat) : Int) from rfl, u32_xor_nat x 2147483648 (by omega) (by decide)]
  unfold flip
  by_cases hx : x < 2147483648
  · have e := xor_low x (by simpa using hx)
    simp only [Nat.reducePow] at e
    rw [e]; omega
  · have e := xor_low (x - 2147483648) (by simp; omega)
    simp only [Nat.reducePow] at e
    have e2 : 2147483648 + (x - 2147483648) = x := by omega
    rw [e2] at e
    rw [← e, Nat.xor_assoc, Nat.xor_self, Nat.xor_zero]
    omega

/-- Extended from m bits, as sums and rests. -/
def sx (a m : Int) : Int := ((a + 2 ^ (m - 1).toNat) % 2 ^ m.toNat - 2 ^ (m - 1).toNat) % 4294967296
theorem sgn_sx (a m : Int) (h0 : 0 ≤ a) (h1 : a < 4294967296) (m0 : 1 ≤ m) (m1 : m ≤ 32) : sgn a m = sx a m := by
  by_cases hm : m = 32
  · subst hm; unfold sgn sx; rw [if_neg (by decide), if_pos (by decide)]; simp only [Int.reduceToNat, Int.reducePow, Int.reduceSub]; omega
  · unfold sgn sx wrap32
    rw [if_neg (by omega), if_neg (by omega)]
    rcases cases31 m (by omega) (by omega) with rfl | rfl | rfl | rfl | rfl | rfl | rfl | rfl | rfl | rfl | rfl | rfl | rfl | rfl | rfl | rfl | rfl | rfl | rfl | rfl | rfl | rfl | rfl | rfl | rfl | rfl | rfl | rfl | rfl | rfl | rfl | rfl
    all_goals simp only [Int.reduceToNat, Int.reducePow, Int.reduceSub]; omega
theorem sx_lt (a m : Int) : 0 ≤ sx a m ∧ sx a m < 4294967296 := by unfold sx; omega
theorem sx_sx (a m : Int) (m0 : 1 ≤ m) (m1 : m ≤ 32) : sx (sx a m) m = sx a m := by
  unfold sx
  by_cases hm : m = 32
  · subst hm; simp only [Int.reduceToNat, Int.reducePow, Int.reduceSub]; omega
  · rcases cases31 m (by omega) (by omega) with rfl | rfl | rfl | rfl | rfl | rfl | rfl | rfl | rfl | rfl | rfl | rfl | rfl | rfl | rfl | rfl | rfl | rfl | rfl | rfl | rfl | rfl | rfl | rfl | rfl | rfl | rfl | rfl | rfl | rfl | rfl | rfl
    all_goals simp only [Int.reduceToNat, Int.reducePow, Int.reduceSub]; omega
theorem sgn_lt (a m : Int) (h0 : 0 ≤ a) (h1 : a < 4294967296) : 0 ≤ sgn a m ∧ sgn a m < 4294967296 := by
  by_cases hm : m < 1
  · rw [sgn, if_pos hm]; omega
  · by_cases h : 31 < m
    · rw [sgn, if_neg hm, if_pos h]; omega
    · rw [sgn_sx a m h0 h1 (by omega) (by omega)]; exact sx_lt a m
theorem sgn_sgn (a m : Int) (h0 : 0 ≤ a) (h1 : a < 4294967296) (m0 : 1 ≤ m) (m1 : m ≤ 32) : sgn (sgn a m) m = sgn a m := by
  have h := sgn_lt a m h0 h1
  rw [sgn_sx (sgn a m) m h.1 h.2 m0 m1, sgn_sx a m h0 h1 m0 m1, sx_sx a m m0 m1]
theorem sx_low (a m : Int) (m0 : 1 ≤ m) (m1 : m ≤ 32) : sx a m % 2 ^ m.toNat = a % 2 ^ m.toNat := by
  unfold sx
  by_cases hm : m = 32
  · subst hm; simp only [Int.reduceToNat, Int.reducePow, Int.reduceSub]; omega
  · rcases cases31 m (by omega) (by omega) with rfl | rfl | rfl | rfl | rfl | rfl | rfl | rfl | rfl | rfl | rfl | rfl | rfl | rfl | rfl | rfl | rfl | rfl | rfl | rfl | rfl | rfl | rfl | rfl | rfl | rfl | rfl | rfl | rfl | rfl | rfl | rfl
    all_goals simp only [Int.reduceToNat, Int.reducePow, Int.reduceSub]; omega
theorem sgn_low (a m : Int) (h0 : 0 ≤ a) (h1 : a < 4294967296) (m0 : 1 ≤ m) (m1 : m ≤ 32) : bitsOf (sgn a m) 0 m = bitsOf a 0 m := by
  have h := sgn_lt a m h0 h1
  rw [bitsOf_eq _ 0 m h.1 h.2 (by omega) (by omega) m0, bitsOf_eq a 0 m h0 h1 (by omega) (by omega) m0, show min m.toNat 32 = m.toNat from by omega]
  have := sx_low a m m0 m1
  rw [sgn_sx a m h0 h1 m0 m1]
  simpa using this
theorem sx_ends (a m : Int) (m0 : 1 ≤ m) (m1 : m ≤ 32) : sx a m < 2 ^ (m - 1).toNat ∨ 4294967296 - 2 ^ (m - 1).toNat ≤ sx a m := by
  unfold sx
  by_cases hm : m = 32
  · subst hm; simp only [Int.reduceToNat, Int.reducePow, Int.reduceSub]; omega
  · rcases cases31 m (by omega) (by omega) with rfl | rfl | rfl | rfl | rfl | rfl | rfl | rfl | rfl | rfl | rfl | rfl | rfl | rfl | rfl | rfl | rfl | rfl | rfl | rfl | rfl | rfl | rfl | rfl | rfl | rfl | rfl | rfl | rfl | rfl | rfl | rfl
    all_goals simp only [Int.reduceToNat, Int.reducePow, Int.reduceSub]; omega
theorem bit_ends (x j : Int) (h0 : 0 ≤ x) (h1 : x < 4294967296) (j0 : 0 ≤ j) (j1 : j ≤ 31) : (x < 2 ^ j.toNat → bitsOf x j 1 = 0) ∧ (4294967296 - 2 ^ j.toNat ≤ x → bitsOf x j 1 = 1) := by
  rw [bitsOf_eq x j 1 h0 h1 j0 j1 (by omega)]
  rcases cases31 j j0 j1 with rfl | rfl | rfl | rfl | rfl | rfl | rfl | rfl | rfl | rfl | rfl | rfl | rfl | rfl | rfl | rfl | rfl | rfl | rfl | rfl | rfl | rfl | rfl | rfl | rfl | rfl | rfl | rfl | rfl | rfl | rfl | rfl
  all_goals simp only [Int.reduceToNat, Int.reducePow, Nat.reduceLeDiff, Nat.min_eq_left]; omega
theorem sgn_top (a m j : Int) (h0 : 0 ≤ a) (h1 : a < 4294967296) (m0 : 0 ≤ m) (m1 : m ≤ 31) (j0 : m + 1 ≤ j) (j1 : j < 32) : bitsOf (sgn a (m + 1)) j 1 = bitsOf (sgn a (m + 1)) m 1 := by
  have h := sgn_lt a (m + 1) h0 h1
  have e1 := bit_ends _ j h.1 h.2 (by omega) (by omega)
  have e2 := bit_ends _ m h.1 h.2 (by omega) (by omega)
  have e3 := sx_ends a (m + 1) (by omega) (by omega)
  rw [← sgn_sx a (m + 1) h0 h1 (by omega) (by omega), show m + 1 - 1 = m from by omega] at e3
  have hp : (2 : Nat) ^ m.toNat ≤ 2 ^ j.toNat := Nat.pow_le_pow_right (by decide) (by omega)
  have c1 : ((2 : Int) ^ m.toNat) = ((2 ^ m.toNat : Nat) : Int) := by simp
  have c2 : ((2 : Int) ^ j.toNat) = ((2 ^ j.toNat : Nat) : Int) := by simp
  rw [c1] at e2 e3
  rw [c2] at e1
  rcases e3 with e3 | e3
  · rw [e1.1 (by omega), e2.1 e3]
  · rw [e1.2 (by omega), e2.2 e3]
theorem flip_lt (a : Int) : 0 ≤ flip a ∧ flip a < 4294967296 := by unfold flip; omega
theorem less_flip (a b : Int) (a0 : 0 ≤ a) (a1 : a < 4294967296) (b0 : 0 ≤ b) (b1 : b < 4294967296) : less a b true = less (flip a) (flip b) false := by
  have ha := flip_lt a
  have hb := flip_lt b
  unfold less
  rw [wide_w, wide_w, wide_f _ ha.1 ha.2, wide_f _ hb.1 hb.2, decide_eq_decide]
  unfold flip wrap32
  omega
theorem right_flip (a k : Int) (a0 : 0 ≤ a) (a1 : a < 4294967296) (k0 : 0 ≤ k) (k1 : k ≤ 15) : right a k true = (right (flip a) k false - right 2147483648 k false) % 4294967296 := by
  have ha := flip_lt a
  unfold right
  rw [wide_w, wide_f _ ha.1 ha.2, wide_f _ (by decide) (by decide)]
  unfold flip wrap32
  rcases cases31 k k0 (by omega) with rfl | rfl | rfl | rfl | rfl | rfl | rfl | rfl | rfl | rfl | rfl | rfl | rfl | rfl | rfl | rfl | rfl | rfl | rfl | rfl | rfl | rfl | rfl | rfl | rfl | rfl | rfl | rfl | rfl | rfl | rfl | rfl
  all_goals simp only [Int.reduceToNat, Int.reducePow, Int.reduceMod, Int.reduceDiv]; omega
theorem left_mul (a k : Int) (k0 : 0 ≤ k) (k1 : k ≤ 15) : left a k = a * (2 ^ k.toNat % 4294967296) % 4294967296 := by
  unfold left
  rcases cases31 k k0 (by omega) with rfl | rfl | rfl | rfl | rfl | rfl | rfl | rfl | rfl | rfl | rfl | rfl | rfl | rfl | rfl | rfl | rfl | rfl | rfl | rfl | rfl | rfl | rfl | rfl | rfl | rfl | rfl | rfl | rfl | rfl | rfl | rfl
  all_goals simp only [Int.reduceToNat, Int.reducePow, Int.reduceMod]
  all_goals omega
theorem and16 (a : Int) (a0 : 0 ≤ a) (a1 : a < 4294967296) : bits .and .u32 a 65535 = a % 65536 := low_and a 16 (by decide) a0 a1
end Go.Proofs.Ytpapiimiblefaaa.W

/- Laws of the plain mirrors: quotients and rests, with signs and without; the upper half of a product, by halves. -/
namespace Go.Proofs.Ytpapiimiblefaaa.W
open Go.RowKit
set_option linter.unusedVariables false

theorem u64_wrap (z : Int) : IntKind.u64.wrap z = z % 18446744073709551616 := by
  simp [IntKind.wrap, IntKind.bits, IntKind.signed]
theorem high_eq (a b : Int) (s t : Bool) : high a b s t = wide a s * wide b t / 4294967296 % 4294967296 := by
  unfold high
  generalize wide a s * wide b t = z
  rw [u64_wrap]
  unfold wrap64
  omega
/-- The middle, lower and upper sums of a product by halves. -/
def mid (a b : Int) : Int := (a / 65536 * (b % 65536) + a % 65536 * (b % 65536) % 4294967296 / 65536) % 4294967296
def lowp (a b : Int) : Int := (mid a b % 65536 + a % 65536 * (b / 65536)) % 4294967296
def highp (a b : Int) : Int := (a / 65536 * (b / 65536) + mid a b / 65536 + lowp a b / 65536) % 4294967296
theorem mid_lt (a b : Int) : 0 ≤ mid a b ∧ mid a b < 4294967296 := by unfold mid; omega
theorem mul_bound (x y : Int) (x0 : 0 ≤ x) (x1 : x ≤ 65535) (y0 : 0 ≤ y) (y1 : y ≤ 65535) : 0 ≤ x * y ∧ x * y ≤ 4294836225 := by
  refine ⟨Int.mul_nonneg x0 y0, ?_⟩
  have := Int.mul_le_mul x1 y1 y0 (by decide)
  omega
theorem high_halves (a b : Int) (a0 : 0 ≤ a) (a1 : a < 4294967296) (b0 : 0 ≤ b) (b1 : b < 4294967296) : a * b / 4294967296 = highp a b := by
  have ea : a = 65536 * (a / 65536) + a % 65536 := (Int.mul_ediv_add_emod a 65536).symm
  have eb : b = 65536 * (b / 65536) + b % 65536 := (Int.mul_ediv_add_emod b 65536).symm
  have hab : a * b = 4294967296 * (a / 65536 * (b / 65536)) + 65536 * (a / 65536 * (b % 65536)) + 65536 * (a % 65536 * (b / 65536)) + a % 65536 * (b % 65536) := by
    conv => lhs; rw [ea, eb]
    rw [Int.add_mul, Int.mul_add, Int.mul_add]
    have e1 : 65536 * (a / 65536) * (65536 * (b / 65536)) = 4294967296 * (a / 65536 * (b / 65536)) := by
      rw [Int.mul_assoc, Int.mul_left_comm (a / 65536), ← Int.mul_assoc 65536 65536]; rfl
    have e2 : 65536 * (a / 65536) * (b % 65536) = 65536 * (a / 65536 * (b % 65536)) := Int.mul_assoc _ _ _
    have e3 : a % 65536 * (65536 * (b / 65536)) = 65536 * (a % 65536 * (b / 65536)) := Int.mul_left_comm _ _ _
    rw [e1, e2, e3]
    omega
  have p := mul_bound (a / 65536) (b / 65536) (by omega) (by omega) (by omega) (by omega)
  have q := mul_bound (a / 65536) (b % 65536) (by omega) (by omega) (by omega) (by omega)
  have r := mul_bound (a % 65536) (b / 65536) (by omega) (by omega) (by omega) (by omega)
  have s := mul_bound (a % 65536) (b % 65536) (by omega) (by omega) (by omega) (by omega)
  rw [hab]
  unfold highp lowp mid
  generalize a / 65536 * (b / 65536) = P at *
  generalize a / 65536 * (b % 65536) = Q at *
  generalize a % 65536 * (b / 65536) = R at *
  generalize a % 65536 * (b % 65536) = S at *
  omega
theorem high_ff (a b : Int) (a0 : 0 ≤ a) (a1 : a < 4294967296) (b0 : 0 ≤ b) (b1 : b < 4294967296) : high a b false false = highp a b := by
  rw [high_eq, wide_f a a0 a1, wide_f b b0 b1, high_halves a b a0 a1 b0 b1]
  unfold highp; omega
theorem less_zero (a : Int) (a0 : 0 ≤ a) (a1 : a < 4294967296) : less a 0 true = decide (2147483648 ≤ a) := by
  unfold less
  rw [wide_w, wide_w, decide_eq_decide]
  unfold wrap32
  omega
theorem high_tf (a b : Int) (a0 : 0 ≤ a) (a1 : a < 4294967296) (b0 : 0 ≤ b) (b1 : b < 4294967296) :
    high a b true false = if 2147483648 ≤ a then (highp a b - b) % 4294967296 else highp a b := by
  rw [high_eq, wide_f b b0 b1, wide_t a a0 a1, ← high_halves a b a0 a1 b0 b1]
  by_cases h : 2147483648 ≤ a
  · rw [if_pos h, if_neg (by omega), Int.sub_mul]
    generalize a * b = z
    omega
  · rw [if_neg h, if_pos (by omega)]
    have := high_halves a b a0 a1 b0 b1
    have hl : 0 ≤ highp a b ∧ highp a b < 4294967296 := by unfold highp; omega
    rw [this]; omega
theorem high_tt (a b : Int) (a0 : 0 ≤ a) (a1 : a < 4294967296) (b0 : 0 ≤ b) (b1 : b < 4294967296) :
    high a b true true = ((if 2147483648 ≤ a then highp a b - b else highp a b) - (if 2147483648 ≤ b then a else 0)) % 4294967296 := by
  rw [high_eq, wide_t b b0 b1, wide_t a a0 a1, ← high_halves a b a0 a1 b0 b1]
  by_cases h : 2147483648 ≤ a
  · by_cases k : 2147483648 ≤ b
    · rw [if_pos h, if_pos k, if_neg (by omega), if_neg (by omega), Int.sub_mul, Int.mul_sub, Int.mul_sub]
      generalize a * b = z
      omega
    · rw [if_pos h, if_neg k, if_neg (by omega), if_pos (by omega), Int.sub_mul]
      generalize a * b = z
      omega
  · by_cases k : 2147483648 ≤ b
    · rw [if_neg h, if_pos k, if_pos (by omega), if_neg (by omega), Int.mul_sub]
      generalize a * b = z
      omega
    · rw [if_neg h, if_neg k, if_pos (by omega), if_pos (by omega)]
      generalize a * b = z
      omega

theorem mod_mix (x b y : Int) : (x % 4294967296 * b + y % 4294967296) % 4294967296 = (x * b + y) % 4294967296 := by
  rw [Int.add_emod, Int.mul_emod, Int.emod_emod, Int.emod_emod, ← Int.mul_emod, ← Int.add_emod]
theorem mod_arg (x b c y : Int) (h : b % 4294967296 = c % 4294967296) : (x * b + y) % 4294967296 = (x * c + y) % 4294967296 := by
  rw [Int.add_emod, Int.mul_emod, h, ← Int.mul_emod, ← Int.add_emod]
theorem wide_bd (a : Int) (s : Bool) (a0 : 0 ≤ a) (a1 : a < 4294967296) : -2147483648 ≤ wide a s ∧ wide a s < 4294967296 ∧ wide a s % 4294967296 = a := by
  cases s
  · rw [wide_f a a0 a1]; omega
  · rw [wide_t a a0 a1]; split <;> omega
theorem tdiv_bd (x y : Int) (h : -2147483648 ≤ x ∧ x < 4294967296) : -4294967296 ≤ x.tdiv y ∧ x.tdiv y ≤ 4294967296 := by
  have := Int.natAbs_tdiv_le_natAbs x y
  omega
theorem div_rem (a b : Int) (s : Bool) (a0 : 0 ≤ a) (a1 : a < 4294967296) (b0 : 0 ≤ b) (b1 : b < 4294967296) (hb : ¬ b = 0) :
    (div a b s * b + rem a b s) % 4294967296 = a := by
  have ha := wide_bd a s a0 a1
  have hc := wide_bd b s b0 b1
  have ht := tdiv_bd (wide a s) (wide b s) ⟨ha.1, ha.2.1⟩
  rw [div, rem, if_neg hb, if_neg hb, IntWalk.wrap64_in _ ⟨by omega, by omega⟩, mod_mix, mod_arg _ b (wide b s) _ (by omega), Int.tdiv_mul_add_tmod]
  exact ha.2.2
theorem rem_lt (a b : Int) (a0 : 0 ≤ a) (a1 : a < 4294967296) (b0 : 0 ≤ b) (b1 : b < 4294967296) (hb : ¬ b = 0) : rem a b false < b := by
  rw [rem, if_neg hb, wide_f a a0 a1, wide_f b b0 b1, Int.tmod_eq_emod_of_nonneg a0]
  have h1 := Int.emod_nonneg a hb
  have h2 := Int.emod_lt_of_pos a (show 0 < b by omega)
  omega
theorem tmod_sign (x y : Int) : (0 ≤ x → 0 ≤ x.tmod y) ∧ (x ≤ 0 → x.tmod y ≤ 0) := by
  refine ⟨fun h => Int.tmod_nonneg y h, fun h => ?_⟩
  have := Int.tmod_nonneg y (show 0 ≤ -x by omega)
  rw [Int.neg_tmod] at this
  omega
theorem rem_sign (a b : Int) (a0 : 0 ≤ a) (a1 : a < 4294967296) (b0 : 0 ≤ b) (b1 : b < 4294967296) (hb : ¬ b = 0) (hr : ¬ rem a b true = 0) :
    less (rem a b true) 0 true = less a 0 true := by
  have hs := tmod_sign (wide a true) (wide b true)
  have hn : ((wide a true).tmod (wide b true)).natAbs ≤ (wide a true).natAbs := by
    rw [Int.natAbs_tmod]; exact Nat.mod_le _ _
  have er : rem a b true = (wide a true).tmod (wide b true) % 4294967296 := by rw [rem, if_neg hb]
  rw [er] at hr
  rw [er, less_zero _ (by omega) (by omega), less_zero a a0 a1, decide_eq_decide]
  rw [wide_t a a0 a1] at *
  generalize (if a < 2147483648 then a else a - 4294967296).tmod (wide b true) = z at *
  split at hs <;> omega
end Go.Proofs.Ytpapiimiblefaaa.W

/- Laws of the plain mirrors: they come to what the document's own answers come to. -/
namespace Go.Proofs.Ytpapiimiblefaaa.W
open Go.RowKit
set_option linter.unusedVariables false

def low (a n : Int) : Int := a % 2 ^ n.toNat
theorem pow_sub_mod (n : Int) (h1 : 1 ≤ n) (h2 : n ≤ 31) : ((2 : Int) ^ n.toNat - 1) % 4294967296 = 2 ^ n.toNat - 1 := by
  have hp := Nat.pow_le_pow_right (n := 2) (by decide) (show n.toNat ≤ 31 by omega)
  have hq : 1 ≤ (2 : Nat) ^ n.toNat := Nat.one_le_two_pow
  have e2 : ((2 : Int) ^ n.toNat) = ((2 ^ n.toNat : Nat) : Int) := by simp
  rw [e2]; omega
theorem and_low (a n : Int) (a0 : 0 ≤ a) (a1 : a < 4294967296) (h1 : 1 ≤ n) (h2 : n ≤ 31) : bits .and .u32 a ((2 ^ n.toNat - 1) % 4294967296) = low a n := by
  rw [pow_sub_mod n h1 h2]; exact low_and a n.toNat (by omega) a0 a1
theorem xor_all (n : Int) (h1 : 1 ≤ n) (h2 : n ≤ 31) : bits .xor .u32 IntKind.u32.max ((2 ^ n.toNat - 1) % 4294967296) = 4294967296 - 2 ^ n.toNat := by
  rw [pow_sub_mod n h1 h2]
  rcases cases31 n (by omega) h2 with rfl | rfl | rfl | rfl | rfl | rfl | rfl | rfl | rfl | rfl | rfl | rfl | rfl | rfl | rfl | rfl | rfl | rfl | rfl | rfl | rfl | rfl | rfl | rfl | rfl | rfl | rfl | rfl | rfl | rfl | rfl | rfl
  all_goals first | (exfalso; omega) | decide
theorem or_join (x y : Int) (m : Nat) (x0 : 0 ≤ x) (x1 : x < 4294967296) (y0 : 0 ≤ y) (y1 : y < 2 ^ m) (hm : m ≤ 32) (hx : x % 2 ^ m = 0) : bits .or .u32 y x = x + y := by
  obtain ⟨a, rfl⟩ := Int.eq_ofNat_of_zero_le x0
  obtain ⟨b, rfl⟩ := Int.eq_ofNat_of_zero_le y0
  have hp := pow_le32 m hm
  have c : ((2 : Int) ^ m) = ((2 ^ m : Nat) : Int) := by simp
  rw [c] at y1 hx
  rw [u32_or_nat b a (by omega) (by omega), Nat.or_comm, nat_join m a b (by omega) (by omega)]
  omega
theorem ref_sgn1 (a n : Int) (a0 : 0 ≤ a) (a1 : a < 4294967296) (h1 : 1 ≤ n) (h2 : n ≤ 31) (hT : (low a n / 2 ^ (n.toNat - 1) == 1) = true) :
    bits .or .u32 (low a n) (bits .xor .u32 IntKind.u32.max ((2 ^ n.toNat - 1) % 4294967296)) = sgn a n := by
  rw [xor_all n h1 h2, sgn_sx a n a0 a1 h1 (by omega)]
  have hT' : low a n / 2 ^ (n.toNat - 1) = 1 := by simpa using hT
  have hm : (4294967296 - (2 : Int) ^ n.toNat) % 2 ^ n.toNat = 0 ∧ 0 ≤ 4294967296 - (2 : Int) ^ n.toNat ∧ 4294967296 - (2 : Int) ^ n.toNat < 4294967296 := by
    rcases cases31 n (by omega) h2 with rfl | rfl | rfl | rfl | rfl | rfl | rfl | rfl | rfl | rfl | rfl | rfl | rfl | rfl | rfl | rfl | rfl | rfl | rfl | rfl | rfl | rfl | rfl | rfl | rfl | rfl | rfl | rfl | rfl | rfl | rfl | rfl
    all_goals first | (exfalso; omega) | decide
  have hl : 0 ≤ low a n ∧ low a n < 2 ^ n.toNat := by
    have hq : (0 : Int) < 2 ^ n.toNat := Int.pow_pos (by decide)
    exact ⟨Int.emod_nonneg _ (by omega), Int.emod_lt_of_pos _ hq⟩
  rw [or_join _ _ n.toNat hm.2.1 hm.2.2 hl.1 hl.2 (by omega) hm.1]
  clear hm hl hT
  unfold low at *
  unfold sx
  rcases cases31 n (by omega) h2 with rfl | rfl | rfl | rfl | rfl | rfl | rfl | rfl | rfl | rfl | rfl | rfl | rfl | rfl | rfl | rfl | rfl | rfl | rfl | rfl | rfl | rfl | rfl | rfl | rfl | rfl | rfl | rfl | rfl | rfl | rfl | rfl
  all_goals simp only [Int.reduceToNat, Int.reducePow, Int.reduceSub, Nat.reduceSub] at *; omega
theorem ref_sgn0 (a n : Int) (a0 : 0 ≤ a) (a1 : a < 4294967296) (h1 : 1 ≤ n) (h2 : n ≤ 31) (hT : (low a n / 2 ^ (n.toNat - 1) == 1) = false) : low a n = sgn a n := by
  rw [sgn_sx a n a0 a1 h1 (by omega)]
  have hT' : ¬ low a n / 2 ^ (n.toNat - 1) = 1 := by simpa using hT
  clear hT
  unfold low at *
  unfold sx
  rcases cases31 n (by omega) h2 with rfl | rfl | rfl | rfl | rfl | rfl | rfl | rfl | rfl | rfl | rfl | rfl | rfl | rfl | rfl | rfl | rfl | rfl | rfl | rfl | rfl | rfl | rfl | rfl | rfl | rfl | rfl | rfl | rfl | rfl | rfl | rfl
  all_goals simp only [Int.reduceToNat, Int.reducePow, Int.reduceSub, Nat.reduceSub] at *; omega

theorem hi1 (z : Int) : IntKind.u64.wrap (wrap64 z) / 4294967296 % 4294967296 = z / 4294967296 % 4294967296 := by
  rw [u64_wrap]; unfold wrap64; omega
theorem hi2 (z : Int) : IntKind.u64.wrap z / 4294967296 % 4294967296 = z / 4294967296 % 4294967296 := by
  rw [u64_wrap]; omega
theorem wrap64_mod (z : Int) : wrap64 z % 4294967296 = z % 4294967296 := by unfold wrap64; omega
theorem wrap32_mod (z : Int) : wrap32 z % 4294967296 = z % 4294967296 := by unfold wrap32; omega
theorem div_f (a b : Int) (a0 : 0 ≤ a) (a1 : a < 4294967296) (b0 : 0 ≤ b) (b1 : b < 4294967296) (hb : ¬ b = 0) : a / b = div a b false := by
  rw [div, if_neg hb, wrap64_mod, wide_f a a0 a1, wide_f b b0 b1, Int.tdiv_eq_ediv_of_nonneg a0]
  have h1 := Int.ediv_nonneg a0 b0
  have h2 := Int.ediv_le_self b a0
  omega
theorem rem_f (a b : Int) (a0 : 0 ≤ a) (a1 : a < 4294967296) (b0 : 0 ≤ b) (b1 : b < 4294967296) (hb : ¬ b = 0) : a % b = rem a b false := by
  rw [rem, if_neg hb, wide_f a a0 a1, wide_f b b0 b1, Int.tmod_eq_emod_of_nonneg a0]
  have h1 := Int.emod_nonneg a hb
  have h2 := Int.emod_lt_of_pos a (show 0 < b by omega)
  omega
theorem wide_m1 : wide 4294967295 true = -1 := by kernel_rfl
theorem div_m1 (a : Int) : -a % 4294967296 = div a 4294967295 true := by
  rw [div, if_neg (by decide), wrap64_mod, wide_w, wide_m1, Int.tdiv_neg, Int.tdiv_one]
  unfold wrap32; omega
theorem rem_m1 (a : Int) : 0 = rem a 4294967295 true := by
  rw [rem, if_neg (by decide), wide_m1, Int.tmod_neg, Int.tmod_one]; rfl
theorem div_t (a b : Int) (hb : ¬ b = 0) : wrap32 ((wrap32 a).tdiv (wrap32 b)) % 4294967296 = div a b true := by
  rw [div, if_neg hb, wrap64_mod, wrap32_mod, wide_w, wide_w]
theorem rem_t (a b : Int) (hb : ¬ b = 0) : (wrap32 a).tmod (wrap32 b) % 4294967296 = rem a b true := by
  rw [rem, if_neg hb, wide_w, wide_w]
theorem wrap32_ne (b : Int) (b0 : 0 ≤ b) (b1 : b < 4294967296) (hb : ¬ b = 0) : ¬ wrap32 b = 0 := by unfold wrap32; omega
theorem right_t (a n : Int) : wrap32 a / 2 ^ (n % 32).toNat % 4294967296 = right a n true := by rw [right, wide_w]
theorem right_f (a n : Int) (a0 : 0 ≤ a) (a1 : a < 4294967296) : a / 2 ^ (n % 32).toNat = right a n false := by
  rw [right, wide_f a a0 a1]
  have hq : (0 : Int) < 2 ^ (n % 32).toNat := Int.pow_pos (by decide)
  have h1 := Int.ediv_nonneg a0 (show (0 : Int) ≤ 2 ^ (n % 32).toNat by omega)
  have h2 := Int.ediv_le_self (2 ^ (n % 32).toNat) a0
  omega
theorem bits_big (a lo n : Int) (a0 : 0 ≤ a) (a1 : a < 4294967296) (l0 : 0 ≤ lo) (l1 : lo ≤ 31) (h : 32 ≤ n) : a / 2 ^ lo.toNat = bitsOf a lo n := by
  rw [bitsOf_eq a lo n a0 a1 l0 l1 (by omega), show min n.toNat 32 = 32 from by omega]
  have hq : (0 : Int) < 2 ^ lo.toNat := Int.pow_pos (by decide)
  have h1 := Int.ediv_nonneg a0 (show (0 : Int) ≤ 2 ^ lo.toNat by omega)
  have h2 := Int.ediv_le_self (2 ^ lo.toNat) a0
  simp only [Int.reducePow]
  omega
theorem bits_small (a lo n : Int) (a0 : 0 ≤ a) (a1 : a < 4294967296) (l0 : 0 ≤ lo) (l1 : lo ≤ 31) (h1 : 1 ≤ n) (h2 : n < 32) :
    bits .and .u32 (a / 2 ^ lo.toNat) ((2 ^ n.toNat - 1) % 4294967296) = bitsOf a lo n := by
  have hq : (0 : Int) < 2 ^ lo.toNat := Int.pow_pos (by decide)
  have g1 := Int.ediv_nonneg a0 (show (0 : Int) ≤ 2 ^ lo.toNat by omega)
  have g2 := Int.ediv_le_self (2 ^ lo.toNat) a0
  rw [bitsOf_eq a lo n a0 a1 l0 l1 h1, and_low _ n g1 (by omega) h1 (by omega), low, show min n.toNat 32 = n.toNat from by omega]
end Go.Proofs.Ytpapiimiblefaaa.W

/- Laws of the plain mirrors: a word is its bits packed again; a part of a part is a part; a part by shifts. -/
namespace Go.Proofs.Ytpapiimiblefaaa.W
open Go.RowKit
set_option linter.unusedVariables false

theorem part_nat (x l n a k : Nat) (h : a + k ≤ n) : x / 2 ^ l % 2 ^ n / 2 ^ a % 2 ^ k = x / 2 ^ (l + a) % 2 ^ k := by
  apply Nat.eq_of_testBit_eq
  intro i
  simp only [Nat.testBit_mod_two_pow, Nat.testBit_div_two_pow]
  by_cases hi : i < k
  · have h2 : i + a < n := by omega
    rw [show i + a + l = i + (l + a) from by omega]
    simp [hi, h2]
  · simp [hi]
theorem shift_nat (x l n : Nat) (hn : 1 ≤ n) (h : l + n ≤ 32) : x * 2 ^ (32 - l - n) % 2 ^ 32 / 2 ^ (32 - n) = x / 2 ^ l % 2 ^ n := by
  apply Nat.eq_of_testBit_eq
  intro i
  simp only [Nat.testBit_mod_two_pow, Nat.testBit_div_two_pow, Nat.testBit_mul_two_pow]
  by_cases hi : i < n
  · have h1 : i + (32 - n) < 32 := by omega
    have h2 : 32 - l - n ≤ i + (32 - n) := by omega
    rw [show i + (32 - n) - (32 - l - n) = i + l from by omega]
    simp [hi, h1, h2]
  · have h1 : ¬ i + (32 - n) < 32 := by omega
    simp [hi, h1]
theorem part_part (x l n a k : Int) (x0 : 0 ≤ x) (x1 : x < 4294967296) (l0 : 0 ≤ l) (a0 : 0 ≤ a) (hla : l + a ≤ 31) (k1 : 1 ≤ k) (h : a + k ≤ n) (hn : n ≤ 32) :
    bitsOf (bitsOf x l n) a k = bitsOf x (l + a) k := by
  have hb : 0 ≤ bitsOf x l n ∧ bitsOf x l n < 4294967296 := by
    rw [bitsOf_eq x l n x0 x1 l0 (by omega) (by omega)]
    have hp := pow_le32 (min n.toNat 32) (by omega)
    have hq : (0 : Int) < 2 ^ (min n.toNat 32) := Int.pow_pos (by decide)
    have c : ((2 : Int) ^ (min n.toNat 32)) = ((2 ^ (min n.toNat 32) : Nat) : Int) := by simp
    refine ⟨Int.emod_nonneg _ (by omega), ?_⟩
    have := Int.emod_lt_of_pos (x / 2 ^ l.toNat) hq
    omega
  rw [bitsOf_eq _ a k hb.1 hb.2 a0 (by omega) k1, bitsOf_eq x l n x0 x1 l0 (by omega) (by omega), bitsOf_eq x (l + a) k x0 x1 (by omega) (by omega) k1]
  obtain ⟨X, rfl⟩ := Int.eq_ofNat_of_zero_le x0
  obtain ⟨L, rfl⟩ := Int.eq_ofNat_of_zero_le l0
  obtain ⟨A, rfl⟩ := Int.eq_ofNat_of_zero_le a0
  obtain ⟨K, rfl⟩ := Int.eq_ofNat_of_zero_le (show 0 ≤ k by omega)
  obtain ⟨M, rfl⟩ := Int.eq_ofNat_of_zero_le (show 0 ≤ n by omega)
  have e := part_nat X L M A K (by omega)
  simp only [Int.toNat_natCast]
  rw [show min M 32 = M from by omega, show min K 32 = K from by omega, show ((L : Int) + (A : Int)).toNat = L + A from by omega]
  have := congrArg (Nat.cast : Nat → Int) e
  simpa using this
theorem bits_shift (x l n : Int) (x0 : 0 ≤ x) (x1 : x < 4294967296) (l0 : 0 ≤ l) (n0 : 1 ≤ n) (h : l + n ≤ 32) (h2 : 1 ≤ l + n) (hn : n ≤ 31) :
    bitsOf x l n = right (left x (32 - l - n)) (32 - n) false := by
  by_cases hz : l = 0 ∧ n = 0
  · omega
  · have hl := left_lt x (32 - l - n)
    rw [bitsOf_eq x l n x0 x1 l0 (by omega) n0]
    unfold right
    rw [wide_f _ hl.1 hl.2]
    unfold left
    rw [show (32 - l - n) % 32 = 32 - l - n from by omega, show (32 - n) % 32 = 32 - n from by omega]
    obtain ⟨X, rfl⟩ := Int.eq_ofNat_of_zero_le x0
    obtain ⟨L, rfl⟩ := Int.eq_ofNat_of_zero_le l0
    obtain ⟨M, rfl⟩ := Int.eq_ofNat_of_zero_le (show 0 ≤ n by omega)
    have e := shift_nat X L M (by omega) (by omega)
    have e' := congrArg (Nat.cast : Nat → Int) e
    simp only [Int.toNat_natCast]
    rw [show min M 32 = M from by omega, show (32 - (L : Int) - (M : Int)).toNat = 32 - L - M from by omega, show (32 - (M : Int)).toNat = 32 - M from by omega]
    have e2 : (X : Int) * 2 ^ (32 - L - M) % 4294967296 / 2 ^ (32 - M) = (X : Int) / 2 ^ L % 2 ^ M := by simpa using e'
    rw [e2]
    have hp := pow_le32 M (by omega)
    have hq : (0 : Int) < 2 ^ M := Int.pow_pos (by decide)
    have c : ((2 : Int) ^ M) = ((2 ^ M : Nat) : Int) := by simp
    have g1 := Int.emod_lt_of_pos ((X : Int) / 2 ^ L) hq
    have g2 := Int.emod_nonneg ((X : Int) / 2 ^ L) (show ((2 : Int) ^ M) ≠ 0 by omega)
    omega

/-- A word's bits as fields, the highest first. -/
def bL (j : Nat) : Int := 31 - j
def bN (_ : Nat) : Int := 1
def bV (x : Int) (j : Nat) : Int := bitsOf x (31 - j) 1
def bcells (x : Int) : Nat → List Value
  | 0 => []
  | k + 1 => bcells x k ++ [.int .i64 (31 - k), .int .i64 1, .int .u32 (bitsOf x (31 - k) 1)]
theorem bcells_length (x : Int) (k : Nat) : (bcells x k).length = k * 3 := by
  induction k with
  | zero => rfl
  | succ k ih => rw [bcells, List.length_append, ih]; simp; omega
theorem bcells_get (x : Int) (k j : Nat) (h : j < k) : (bcells x k)[j * 3]? = some (.int .i64 (bL j)) ∧ (bcells x k)[j * 3 + 1]? = some (.int .i64 (bN j)) ∧ (bcells x k)[j * 3 + 2]? = some (.int .u32 (bV x j)) := by
  induction k with
  | zero => omega
  | succ k ih =>
    have hl := bcells_length x k
    rw [bcells]
    by_cases hj : j < k
    · have := ih hj
      rw [List.getElem?_append_left (by omega), List.getElem?_append_left (by omega), List.getElem?_append_left (by omega)]
      exact this
    · have : j = k := by omega
      subst this
      rw [List.getElem?_append_right (by omega), List.getElem?_append_right (by omega), List.getElem?_append_right (by omega), hl]
      simp [bL, bN, bV]
theorem bpack (x : Int) (x0 : 0 ≤ x) (x1 : x < 4294967296) (k : Nat) (hk : k ≤ 32) : pack bL bN (bV x) k = x / 2 ^ (32 - k) * 2 ^ (32 - k) := by
  induction k with
  | zero => simp only [pack, Nat.sub_zero]; omega
  | succ k ih =>
    have hw : within (bL k) (bN k) = true := by
      have h3 : 0 ≤ bL k ∧ bL k ≤ 31 ∧ 1 ≤ bN k := by unfold bL bN; omega
      simp [within, h3]
    rw [pack, hw, cond_true, ih (by omega)]
    have hb := bitsOf_eq x (31 - k) 1 x0 x1 (by omega) (by omega) (by omega)
    have hv : bV x k = x / 2 ^ (31 - k) % 2 := by
      unfold bV; rw [hb, show ((31 : Int) - (k : Int)).toNat = 31 - k from by omega]; simp
    have hv2 : 0 ≤ bV x k ∧ bV x k < 2 := by rw [hv]; omega
    have hpl : place (bV x k) (bL k) (bN k) = bV x k * 2 ^ (31 - k) := by
      unfold place
      rw [show lowest (bN k) = 1 from by kernel_rfl, and1 _ hv2.1 (by omega), show (bL k).toNat = 31 - k from by unfold bL; omega, show bV x k % 2 = bV x k from by omega]
      have hp := Nat.pow_le_pow_right (n := 2) (by decide) (show 31 - k ≤ 31 by omega)
      have c : ((2 : Int) ^ (31 - k)) = ((2 ^ (31 - k) : Nat) : Int) := by simp
      have hq : (0 : Int) ≤ 2 ^ (31 - k) := Int.pow_nonneg (by decide)
      rcases (show bV x k = 0 ∨ bV x k = 1 from by omega) with h | h
      · rw [h]; simp
      · rw [h]; omega
    rw [hpl, hv]
    have em : 32 - k = (31 - k) + 1 := by omega
    rw [show 32 - (k + 1) = 31 - k from by omega, em]
    generalize hm : 31 - k = m
    have hm31 : m ≤ 31 := by omega
    have hp := Nat.pow_le_pow_right (n := 2) (by decide) hm31
    have c : ((2 : Int) ^ m) = ((2 ^ m : Nat) : Int) := by simp
    have hq : (0 : Int) < 2 ^ m := Int.pow_pos (by decide)
    have hp2 : (2 : Int) ^ m ≤ 2147483648 := by omega
    have ep : (2 : Int) ^ (m + 1) = 2 ^ m * 2 := Int.pow_succ 2 m
    have hd : x / 2 ^ (m + 1) = x / 2 ^ m / 2 := by rw [ep, Int.ediv_ediv_of_nonneg (by omega)]
    have hx := Int.mul_ediv_add_emod x (2 ^ m)
    have hx2 := Int.emod_nonneg x (show ((2 : Int) ^ m) ≠ 0 by omega)
    have hy0 : 0 ≤ x / 2 ^ m := Int.ediv_nonneg x0 (by omega)
    have hmul : x / 2 ^ m * 2 ^ m ≤ x := by rw [Int.mul_comm]; omega
    have hsum : x / 2 ^ (m + 1) * 2 ^ (m + 1) + x / 2 ^ m % 2 * 2 ^ m = x / 2 ^ m * 2 ^ m := by
      rw [hd, ep, ← Int.mul_assoc, Int.mul_right_comm, ← Int.add_mul]
      congr 1
      omega
    have hle : x / 2 ^ m % 2 * 2 ^ m ≤ 2 ^ m ∧ 0 ≤ x / 2 ^ m % 2 * 2 ^ m := by
      rcases (show x / 2 ^ m % 2 = 0 ∨ x / 2 ^ m % 2 = 1 from by omega) with h | h
      · rw [h]; omega
      · rw [h]; omega
    have hz0 : 0 ≤ x / 2 ^ (m + 1) * 2 ^ (m + 1) := Int.mul_nonneg (by rw [hd]; omega) (by rw [ep]; omega)
    rw [← hsum]
    have := or_join (x / 2 ^ (m + 1) * 2 ^ (m + 1)) (x / 2 ^ m % 2 * 2 ^ m) (m + 1) hz0 (by omega) hle.2 (by rw [ep]; omega) (by omega) (Int.mul_emod_left _ _)
    rw [← this]
    obtain ⟨P, hP⟩ := Int.eq_ofNat_of_zero_le hz0
    obtain ⟨Q, hQ⟩ := Int.eq_ofNat_of_zero_le hle.2
    rw [hP, hQ, u32_or_nat P Q (by omega) (by omega), u32_or_nat Q P (by omega) (by omega), Nat.or_comm]
theorem bpack_all (x : Int) (x0 : 0 ≤ x) (x1 : x < 4294967296) : pack bL bN (bV x) 32 = x := by
  rw [bpack x x0 x1 32 (Nat.le_refl _)]; simp
end Go.Proofs.Ytpapiimiblefaaa.W

/- Laws of the plain mirrors: fields packed, bit by bit: a field that lies across no other one is read back. -/
namespace Go.Proofs.Ytpapiimiblefaaa.W
open Go.RowKit
set_option linter.unusedVariables false

/-- Bit p of a word. -/
def tb (x : Int) (p : Nat) : Bool := x.toNat.testBit p
theorem tb_or (x y : Int) (p : Nat) (x0 : 0 ≤ x) (x1 : x < 4294967296) (y0 : 0 ≤ y) (y1 : y < 4294967296) : tb (bits .or .u32 x y) p = (tb x p || tb y p) := by
  obtain ⟨a, rfl⟩ := Int.eq_ofNat_of_zero_le x0
  obtain ⟨b, rfl⟩ := Int.eq_ofNat_of_zero_le y0
  rw [u32_or_nat a b (by omega) (by omega)]
  simp [tb]
theorem tb_and (x y : Int) (p : Nat) (x0 : 0 ≤ x) (x1 : x < 4294967296) (y0 : 0 ≤ y) (y1 : y < 4294967296) : tb (bits .and .u32 x y) p = (tb x p && tb y p) := by
  obtain ⟨a, rfl⟩ := Int.eq_ofNat_of_zero_le x0
  obtain ⟨b, rfl⟩ := Int.eq_ofNat_of_zero_le y0
  rw [u32_and_nat a b (by omega) (by omega)]
  simp [tb]
theorem or_lt (x y : Int) : 0 ≤ bits .or .u32 x y ∧ bits .or .u32 x y < 4294967296 := by
  unfold bits
  rw [IntKind.wrap_u32']
  omega
theorem and_lt (x y : Int) : 0 ≤ bits .and .u32 x y ∧ bits .and .u32 x y < 4294967296 := by
  unfold bits
  rw [IntKind.wrap_u32']
  omega
theorem or_zero (x : Int) (x0 : 0 ≤ x) (x1 : x < 4294967296) : bits .or .u32 x 0 = x := by
  obtain ⟨a, rfl⟩ := Int.eq_ofNat_of_zero_le x0
  have := u32_or_nat a 0 (by omega) (by decide)
  simpa using this
theorem tb_big (x : Int) (p : Nat) (x1 : x < 4294967296) (hp : 32 ≤ p) : tb x p = false := by
  unfold tb
  have := Nat.pow_le_pow_right (n := 2) (by decide) hp
  exact Nat.testBit_lt_two_pow (by omega)
/-- A field's bits where they lie; nothing, where it lies nowhere. -/
def placed (v low n : Int) : Int := bif within low n then place v low n else 0
theorem placed_lt (v low n : Int) : 0 ≤ placed v low n ∧ placed v low n < 4294967296 := by
  unfold placed
  cases within low n
  · simp
  · simp only [cond_true]; unfold place; omega
theorem pack_succ (L N V : Nat → Int) (k : Nat) (h0 : 0 ≤ pack L N V k) (h1 : pack L N V k < 4294967296) : bits .or .u32 (pack L N V k) (placed (V k) (L k) (N k)) = pack L N V (k + 1) := by
  rw [pack]
  unfold placed
  cases within (L k) (N k)
  · simp only [cond_false]; exact or_zero _ h0 h1
  · rfl
theorem pack_lt (L N V : Nat → Int) (k : Nat) : 0 ≤ pack L N V k ∧ pack L N V k < 4294967296 := by
  induction k with
  | zero => simp [pack]
  | succ k ih => rw [← pack_succ L N V k ih.1 ih.2]; exact or_lt _ _
theorem tb_pack (L N V : Nat → Int) (p k : Nat) : tb (pack L N V k) p = true ↔ ∃ j, j < k ∧ tb (placed (V j) (L j) (N j)) p = true := by
  induction k with
  | zero => simp [pack, tb]
  | succ k ih =>
    have h := pack_lt L N V k
    have g := placed_lt (V k) (L k) (N k)
    rw [← pack_succ L N V k h.1 h.2, tb_or _ _ p h.1 h.2 g.1 g.2, Bool.or_eq_true, ih]
    constructor
    · rintro (⟨j, hj, hb⟩ | hb)
      · exact ⟨j, by omega, hb⟩
      · exact ⟨k, by omega, hb⟩
    · rintro ⟨j, hj, hb⟩
      by_cases e : j = k
      · subst e; exact Or.inr hb
      · exact Or.inl ⟨j, by omega, hb⟩
theorem tb_placed (v low n : Int) (p : Nat) (v0 : 0 ≤ v) (v1 : v < 4294967296) (l0 : 0 ≤ low) (l1 : low ≤ 31) (n0 : 1 ≤ n) (hp : p < 32) :
    tb (placed v low n) p = (decide (low.toNat ≤ p ∧ p - low.toNat < min n.toNat 32) && tb v (p - low.toNat)) := by
  have hw : within low n = true := by simp [within, l0, l1, n0]
  unfold placed
  rw [hw, cond_true, place, lowest_eq n n0, low_and v _ (by omega) v0 v1]
  obtain ⟨a, rfl⟩ := Int.eq_ofNat_of_zero_le v0
  generalize min n.toNat 32 = m
  generalize low.toNat = l
  have e : ((a : Int) % 2 ^ m * 2 ^ l % 4294967296) = ((a % 2 ^ m * 2 ^ l % 2 ^ 32 : Nat) : Int) := by simp
  rw [e]
  unfold tb
  rw [Int.toNat_natCast, Int.toNat_natCast, Nat.testBit_mod_two_pow, Nat.testBit_mul_two_pow, Nat.testBit_mod_two_pow]
  by_cases h1 : l ≤ p
  · by_cases h2 : p - l < m
    · simp [hp, h1, h2]
    · simp [h2]
  · simp [h1]
theorem tb_placed_out (v low n : Int) (p : Nat) (h : low < 0 ∨ 31 < low ∨ n < 1) : tb (placed v low n) p = false := by
  have hw : within low n = false := by simp [within]; omega
  unfold placed
  rw [hw, cond_false]
  simp [tb]
theorem tb_left (v low : Int) (p : Nat) (v0 : 0 ≤ v) (l0 : 0 ≤ low) (l1 : low ≤ 31) (hp : p < 32) : tb (left v low) p = (decide (low.toNat ≤ p) && tb v (p - low.toNat)) := by
  unfold left
  rw [show low % 32 = low from by omega]
  obtain ⟨a, rfl⟩ := Int.eq_ofNat_of_zero_le v0
  generalize low.toNat = l
  have e : ((a : Int) * 2 ^ l % 4294967296) = ((a * 2 ^ l % 2 ^ 32 : Nat) : Int) := by simp
  rw [e]
  unfold tb
  rw [Int.toNat_natCast, Int.toNat_natCast, Nat.testBit_mod_two_pow, Nat.testBit_mul_two_pow]
  simp [hp]
theorem tb_all (q : Nat) (h : q < 32) : tb 4294967295 q = true := by
  unfold tb
  have : (4294967295 : Int).toNat = 2 ^ 32 - 1 := by decide
  rw [this, Nat.testBit_two_pow_sub_one]
  simpa using h
theorem bitsOf_ext (x y low n : Int) (x0 : 0 ≤ x) (x1 : x < 4294967296) (y0 : 0 ≤ y) (y1 : y < 4294967296) (l0 : 0 ≤ low) (l1 : low ≤ 31) (n0 : 1 ≤ n)
    (h : ∀ p, low.toNat ≤ p → p < 32 → p - low.toNat < min n.toNat 32 → tb x p = tb y p) : bitsOf x low n = bitsOf y low n := by
  rw [bitsOf_eq x low n x0 x1 l0 l1 n0, bitsOf_eq y low n y0 y1 l0 l1 n0]
  have hbx := tb_big x
  have hby := tb_big y
  obtain ⟨a, rfl⟩ := Int.eq_ofNat_of_zero_le x0
  obtain ⟨b, rfl⟩ := Int.eq_ofNat_of_zero_le y0
  generalize min n.toNat 32 = m at *
  generalize low.toNat = l at *
  have e : a / 2 ^ l % 2 ^ m = b / 2 ^ l % 2 ^ m := by
    apply Nat.eq_of_testBit_eq
    intro q
    rw [Nat.testBit_mod_two_pow, Nat.testBit_div_two_pow, Nat.testBit_mod_two_pow, Nat.testBit_div_two_pow]
    by_cases hq : q < m
    · by_cases hp : q + l < 32
      · have := h (q + l) (by omega) hp (by omega)
        simp only [tb, Int.toNat_natCast] at this
        rw [this]
      · have h1 := hbx (q + l) x1 (by omega)
        have h2 := hby (q + l) y1 (by omega)
        simp only [tb, Int.toNat_natCast] at h1 h2
        rw [h1, h2]
    · simp [hq]
  have := congrArg (Nat.cast : Nat → Int) e
  simpa using this
theorem read_back (L N V : Nat → Int) (len i : Nat) (hi : i < len) (hV : ∀ j, j < len → 0 ≤ V j ∧ V j < 4294967296) (l0 : 0 ≤ L i) (l1 : L i ≤ 31) (n0 : 1 ≤ N i) (n1 : N i ≤ 32)
    (hd : ∀ j, j < len → j ≠ i → bits .and .u32 (placed 4294967295 (L j) (N j)) (placed 4294967295 (L i) (N i)) = 0) :
    bitsOf (pack L N V len) (L i) (N i) = bitsOf (left (V i) (L i)) (L i) (N i) := by
  have hp := pack_lt L N V len
  have hl := left_lt (V i) (L i)
  refine bitsOf_ext _ _ _ _ hp.1 hp.2 hl.1 hl.2 l0 l1 n0 fun p g1 g2 g3 => ?_
  have hVi := hV i hi
  have e1 : tb (left (V i) (L i)) p = tb (V i) (p - (L i).toNat) := by rw [tb_left _ _ p hVi.1 l0 l1 g2]; simp [g1]
  have e2 : tb (placed (V i) (L i) (N i)) p = tb (V i) (p - (L i).toNat) := by rw [tb_placed _ _ _ p hVi.1 hVi.2 l0 l1 n0 g2]; simp [g1, g3]
  have e3 : tb (placed 4294967295 (L i) (N i)) p = true := by rw [tb_placed _ _ _ p (by decide) (by decide) l0 l1 n0 g2, tb_all _ (by omega)]; simp [g1, g3]
  rw [e1, ← e2, Bool.eq_iff_iff, tb_pack]
  constructor
  · rintro ⟨j, hj, hb⟩
    by_cases e : j = i
    · subst e; exact hb
    · exfalso
      have hz := hd j hj e
      have ha := placed_lt 4294967295 (L j) (N j)
      have hb' := placed_lt 4294967295 (L i) (N i)
      have ht := tb_and _ _ p ha.1 ha.2 hb'.1 hb'.2
      rw [hz, e3, Bool.and_true] at ht
      have hm : tb (placed 4294967295 (L j) (N j)) p = true := by
        by_cases ho : L j < 0 ∨ 31 < L j ∨ N j < 1
        · rw [tb_placed_out _ _ _ p ho] at hb; simp at hb
        · have hVj := hV j hj
          rw [tb_placed _ _ _ p hVj.1 hVj.2 (by omega) (by omega) (by omega) g2] at hb
          simp only [Bool.and_eq_true, decide_eq_true_eq] at hb
          rw [tb_placed _ _ _ p (by decide) (by decide) (by omega) (by omega) (by omega) g2, tb_all _ (by omega)]
          simp [hb.1]
      rw [hm] at ht
      simp [tb] at ht
  · intro hb
    exact ⟨i, hi, hb⟩
theorem placed_ref (v low n : Int) (v0 : 0 ≤ v) (v1 : v < 4294967296) (hw : within low n = true) : bitsOf v 0 n * 2 ^ low.toNat % 4294967296 = placed v low n := by
  have h3 : 0 ≤ low ∧ low ≤ 31 ∧ 1 ≤ n := by simpa [within] using hw
  unfold placed
  rw [hw, cond_true, place, bitsOf_eq v 0 n v0 v1 (by decide) (by decide) h3.2.2, lowest_eq n h3.2.2, low_and v _ (by omega) v0 v1]
  simp
end Go.Proofs.Ytpapiimiblefaaa.W

/- Mirrors of package enc on numbers, and their laws: which bit of an immediate is which bit of its word. -/
namespace Go.Proofs.Ytpapiimiblefaaa.W
open Go.RowKit
set_option linter.unusedVariables false

/-- n bits of x from bit low on, laid from bit to on. -/
def moved (x low to n : Int) : Int := pack (fun _ => to) (fun _ => n) (fun _ => bitsOf x low n) 1
/-- Pieces moved one after the other. -/
def raw (A B C : Nat → Int) (x : Int) : Nat → Int
  | 0 => 0
  | k + 1 => bits .or .u32 (raw A B C x k) (moved x (A k) (B k) (C k))
/-- Where the bits of an immediate lie in a word, and in it. -/
def pieces (f : Int) : List (Int × Int × Int) :=
  if f = 73 then [(20, 0, 12)] else if f = 83 then [(25, 5, 7), (7, 0, 5)] else if f = 66 then [(31, 12, 1), (7, 11, 1), (25, 5, 6), (8, 1, 4)]
  else if f = 85 then [(12, 12, 20)] else if f = 74 then [(31, 20, 1), (12, 12, 8), (20, 11, 1), (21, 1, 10)] else []
def wid (f : Int) : Int := if f = 73 then 12 else if f = 83 then 12 else if f = 66 then 13 else if f = 85 then 32 else if f = 74 then 21 else 0
def pW (f : Int) (j : Nat) : Int := ((pieces f).getD j (0, 0, 0)).1
def pI (f : Int) (j : Nat) : Int := ((pieces f).getD j (0, 0, 0)).2.1
def pN (f : Int) (j : Nat) : Int := ((pieces f).getD j (0, 0, 0)).2.2
def imm (f x : Int) : Int := sgn (raw (pW f) (pI f) (pN f) x 4) (wid f)
def layw (f v : Int) : Int := raw (pI f) (pW f) (pN f) v 4
def layB (f v : Int) : Bool := !(wid f == 0) && (imm f (layw f v) == v)
def layV (f v : Int) : Int := bif layB f v then layw f v else 0
/-- The formats that have an immediate. -/
def isF (f : Int) : Prop := f = 73 ∨ f = 83 ∨ f = 66 ∨ f = 85 ∨ f = 74

theorem zero_or (x : Int) (x0 : 0 ≤ x) (x1 : x < 4294967296) : bits .or .u32 0 x = x := by
  obtain ⟨a, rfl⟩ := Int.eq_ofNat_of_zero_le x0
  have := u32_or_nat 0 a (by decide) (by omega)
  simpa using this
theorem xor_lt (x y : Int) : 0 ≤ bits .xor .u32 x y ∧ bits .xor .u32 x y < 4294967296 := by
  unfold bits
  rw [IntKind.wrap_u32']
  omega
theorem tb_xor (x y : Int) (p : Nat) (x0 : 0 ≤ x) (x1 : x < 4294967296) (y0 : 0 ≤ y) (y1 : y < 4294967296) : tb (bits .xor .u32 x y) p = (tb x p ^^ tb y p) := by
  obtain ⟨a, rfl⟩ := Int.eq_ofNat_of_zero_le x0
  obtain ⟨b, rfl⟩ := Int.eq_ofNat_of_zero_le y0
  rw [u32_xor_nat a b (by omega) (by omega)]
  simp [tb]
theorem moved_placed (x low to n : Int) : moved x low to n = placed (bitsOf x low n) to n := by
  have h := placed_lt (bitsOf x low n) to n
  have := pack_succ (fun _ => to) (fun _ => n) (fun _ => bitsOf x low n) 0 (by simp [pack]) (by simp [pack])
  unfold moved
  rw [← this]
  exact zero_or _ h.1 h.2
theorem moved_lt (x low to n : Int) : 0 ≤ moved x low to n ∧ moved x low to n < 4294967296 := by
  rw [moved_placed]; exact placed_lt _ _ _
theorem raw_lt (A B C : Nat → Int) (x : Int) (k : Nat) : 0 ≤ raw A B C x k ∧ raw A B C x k < 4294967296 := by
  cases k with
  | zero => simp [raw]
  | succ k => rw [raw]; exact or_lt _ _
theorem pack_raw (A B C : Nat → Int) (x : Int) (k : Nat) : pack B C (fun j => bitsOf x (A j) (C j)) k = raw A B C x k := by
  induction k with
  | zero => rfl
  | succ k ih =>
    have h := pack_lt B C (fun j => bitsOf x (A j) (C j)) k
    rw [← pack_succ B C _ k h.1 h.2, raw, ih, moved_placed]
theorem bitsOf_lt (x low n : Int) : 0 ≤ bitsOf x low n ∧ bitsOf x low n < 4294967296 := by
  unfold bitsOf
  cases within low n
  · simp
  · exact and_lt _ _
theorem tb_bitsOf (x low n : Int) (p : Nat) (x0 : 0 ≤ x) (x1 : x < 4294967296) (l0 : 0 ≤ low) (l1 : low ≤ 31) (n0 : 1 ≤ n) :
    tb (bitsOf x low n) p = (decide (p < min n.toNat 32) && tb x (p + low.toNat)) := by
  rw [bitsOf_eq x low n x0 x1 l0 l1 n0]
  obtain ⟨a, rfl⟩ := Int.eq_ofNat_of_zero_le x0
  generalize min n.toNat 32 = m
  generalize low.toNat = l
  have e : ((a : Int) / 2 ^ l % 2 ^ m) = ((a / 2 ^ l % 2 ^ m : Nat) : Int) := by simp
  rw [e]
  unfold tb
  rw [Int.toNat_natCast, Int.toNat_natCast, Nat.testBit_mod_two_pow, Nat.testBit_div_two_pow]
theorem tb_moved (x low to n : Int) (p : Nat) (x0 : 0 ≤ x) (x1 : x < 4294967296) (l0 : 0 ≤ low) (l1 : low ≤ 31) (t0 : 0 ≤ to) (t1 : to ≤ 31) (n1 : n ≤ 32) (hp : p < 32) :
    tb (moved x low to n) p = (decide (to.toNat ≤ p ∧ p - to.toNat < n.toNat) && tb x (p - to.toNat + low.toNat)) := by
  rw [moved_placed]
  by_cases n0 : 1 ≤ n
  · have h := bitsOf_lt x low n
    rw [tb_placed _ to n p h.1 h.2 t0 t1 n0 hp, tb_bitsOf x low n _ x0 x1 l0 l1 n0, show min n.toNat 32 = n.toNat from by omega]
    by_cases h1 : to.toNat ≤ p
    · by_cases h2 : p - to.toNat < n.toNat
      · simp [h1, h2]
      · simp [h2]
    · simp [h1]
  · rw [tb_placed_out _ _ _ _ (by omega), show n.toNat = 0 from by omega]
    simp
/-- The bits of x that come to bit p. -/
def wire (A B C : Nat → Int) (p : Nat) : Nat → List Nat
  | 0 => []
  | k + 1 => wire A B C p k ++ (if (B k).toNat ≤ p ∧ p - (B k).toNat < (C k).toNat then [p - (B k).toNat + (A k).toNat] else [])
def fits (A B C : Nat → Int) (k : Nat) : Bool := (List.range k).all fun j => decide (0 ≤ A j ∧ A j ≤ 31 ∧ 0 ≤ B j ∧ B j ≤ 31 ∧ C j ≤ 32)
theorem fits_at {A B C : Nat → Int} {k j : Nat} (h : fits A B C k = true) (hj : j < k) : 0 ≤ A j ∧ A j ≤ 31 ∧ 0 ≤ B j ∧ B j ≤ 31 ∧ C j ≤ 32 := by
  have := List.all_eq_true.1 h j (List.mem_range.2 hj)
  simpa using this
theorem tb_raw (A B C : Nat → Int) (x : Int) (m : Nat) (hf : fits A B C m = true) (p : Nat) (x0 : 0 ≤ x) (x1 : x < 4294967296) (hp : p < 32) :
    ∀ k, k ≤ m → tb (raw A B C x k) p = (wire A B C p k).any (tb x) := by
  intro k
  induction k with
  | zero => intro _; simp [raw, wire, tb]
  | succ k ih =>
    intro hk
    have h := raw_lt A B C x k
    have g := moved_lt x (A k) (B k) (C k)
    obtain ⟨h1, h2, h3, h4, h5⟩ := fits_at hf (show k < m by omega)
    rw [raw, tb_or _ _ p h.1 h.2 g.1 g.2, ih (by omega), tb_moved x _ _ _ p x0 x1 h1 h2 h3 h4 h5 hp, wire, List.any_append]
    by_cases hc : (B k).toNat ≤ p ∧ p - (B k).toNat < (C k).toNat
    · simp [hc]
    · rw [if_neg hc, decide_eq_false hc]; simp
theorem tb_sgn (x n : Int) (p : Nat) (x0 : 0 ≤ x) (x1 : x < 4294967296) (n0 : 1 ≤ n) (n1 : n ≤ 32) (hp : p < 32) : tb (sgn x n) p = tb x (min p (n.toNat - 1)) := by
  have hs := sgn_lt x n x0 x1
  have low : ∀ q, q < n.toNat → tb (sgn x n) q = tb x q := by
    intro q hq
    have e := congrArg (fun z => tb z q) (sgn_low x n x0 x1 n0 n1)
    rw [tb_bitsOf _ 0 n q hs.1 hs.2 (by omega) (by omega) n0, tb_bitsOf x 0 n q x0 x1 (by omega) (by omega) n0] at e
    have : q < min n.toNat 32 := by omega
    simpa [this] using e
  by_cases h : p < n.toNat
  · rw [low p h, show min p (n.toNat - 1) = p from by omega]
  · rw [show min p (n.toNat - 1) = n.toNat - 1 from by omega, ← low (n.toNat - 1) (by omega)]
    have e := sgn_top x (n - 1) p x0 x1 (by omega) (by omega) (by omega) (by omega)
    rw [show n - 1 + 1 = n from by omega] at e
    have e2 := congrArg (fun z => tb z 0) e
    rw [tb_bitsOf _ p 1 0 hs.1 hs.2 (by omega) (by omega) (by omega), tb_bitsOf _ (n - 1) 1 0 hs.1 hs.2 (by omega) (by omega) (by omega)] at e2
    simp at e2
    exact e2
theorem eq_of_tb (x y : Int) (x0 : 0 ≤ x) (x1 : x < 4294967296) (y0 : 0 ≤ y) (y1 : y < 4294967296) (h : ∀ p, p < 32 → tb x p = tb y p) : x = y := by
  have : x.toNat = y.toNat := by
    apply Nat.eq_of_testBit_eq
    intro p
    by_cases hp : p < 32
    · exact h p hp
    · have a := tb_big x p x1 (by omega)
      have b := tb_big y p y1 (by omega)
      unfold tb at a b
      rw [a, b]
  omega
theorem imm_lt (f x : Int) : 0 ≤ imm f x ∧ imm f x < 4294967296 := by
  have h := raw_lt (pW f) (pI f) (pN f) x 4
  exact sgn_lt _ _ h.1 h.2
def iwire (f : Int) (p : Nat) : List Nat := wire (pW f) (pI f) (pN f) (min p ((wid f).toNat - 1)) 4
def lwire (f : Int) (p : Nat) : List Nat := wire (pI f) (pW f) (pN f) p 4
theorem fits_i (f : Int) (h : isF f) : fits (pW f) (pI f) (pN f) 4 = true := by
  rcases h with rfl | rfl | rfl | rfl | rfl <;> decide +kernel
theorem fits_l (f : Int) (h : isF f) : fits (pI f) (pW f) (pN f) 4 = true := by
  rcases h with rfl | rfl | rfl | rfl | rfl <;> decide +kernel
theorem wid_in (f : Int) (h : isF f) : 1 ≤ wid f ∧ wid f ≤ 32 := by
  rcases h with rfl | rfl | rfl | rfl | rfl <;> decide +kernel
theorem tb_imm (f x : Int) (p : Nat) (hf : isF f) (x0 : 0 ≤ x) (x1 : x < 4294967296) (hp : p < 32) : tb (imm f x) p = (iwire f p).any (tb x) := by
  have h := raw_lt (pW f) (pI f) (pN f) x 4
  have hw := wid_in f hf
  unfold imm iwire
  rw [tb_sgn _ _ p h.1 h.2 hw.1 hw.2 hp]
  exact tb_raw _ _ _ x 4 (fits_i f hf) _ x0 x1 (by omega) 4 (Nat.le_refl _)
theorem tb_layw (f v : Int) (p : Nat) (hf : isF f) (x0 : 0 ≤ v) (x1 : v < 4294967296) (hp : p < 32) : tb (layw f v) p = (lwire f p).any (tb v) :=
  tb_raw _ _ _ v 4 (fits_l f hf) _ x0 x1 hp 4 (Nat.le_refl _)
/-- The bits of a word that an immediate has. -/
def mask (f : Int) : Int := if f = 73 then 4293918720 else if f = 83 then 4261416832 else if f = 66 then 4261416832 else 4294963200
theorem mask_lt (f : Int) : 0 ≤ mask f ∧ mask f < 4294967296 := by
  unfold mask; repeat' split
  all_goals decide
def check (f : Int) : Bool := (List.range 32).all fun p => (lwire f p).all (fun q => decide (q < 32)) && decide ((lwire f p).flatMap (iwire f) = if tb (mask f) p then [p] else []) && (iwire f p).all (fun q => decide (q < 32) && tb (mask f) q) && decide ((iwire f p).length ≤ 1)
theorem check_all (f : Int) (h : isF f) : check f = true := by
  rcases h with rfl | rfl | rfl | rfl | rfl <;> decide +kernel
theorem check_at (f : Int) (h : isF f) (p : Nat) (hp : p < 32) : (∀ q ∈ lwire f p, q < 32) ∧ (lwire f p).flatMap (iwire f) = (if tb (mask f) p then [p] else []) ∧ (∀ q ∈ iwire f p, q < 32 ∧ tb (mask f) q = true) ∧ (iwire f p).length ≤ 1 := by
  have := List.all_eq_true.1 (check_all f h) p (List.mem_range.2 hp)
  simp only [Bool.and_eq_true, List.all_eq_true, decide_eq_true_eq] at this
  obtain ⟨⟨⟨a, b⟩, c⟩, d⟩ := this
  exact ⟨a, b, c, d⟩
theorem any_congr' {l : List Nat} {g h : Nat → Bool} (e : ∀ q ∈ l, g q = h q) : l.any g = l.any h := by
  induction l with
  | nil => rfl
  | cons a l ih =>
    simp only [List.any_cons]
    rw [e a (by simp), ih (fun q hq => e q (by simp [hq]))]
theorem lay_imm (f x : Int) (hf : isF f) (x0 : 0 ≤ x) (x1 : x < 4294967296) : layw f (imm f x) = bits .and .u32 x (mask f) := by
  have hi := imm_lt f x
  have hl := raw_lt (pI f) (pW f) (pN f) (imm f x) 4
  have ha := and_lt x (mask f)
  have hm := mask_lt f
  refine eq_of_tb _ _ hl.1 hl.2 ha.1 ha.2 fun p hp => ?_
  obtain ⟨c1, c2, c3, c4⟩ := check_at f hf p hp
  rw [tb_layw f _ p hf hi.1 hi.2 hp, tb_and _ _ p x0 x1 hm.1 hm.2, any_congr' (h := fun q => (iwire f q).any (tb x)) (fun q hq => tb_imm f x q hf x0 x1 (c1 q hq))]
  rw [← List.any_flatMap, c2]
  cases tb (mask f) p <;> simp
theorem imm_and (f x : Int) (hf : isF f) (x0 : 0 ≤ x) (x1 : x < 4294967296) : imm f (bits .and .u32 x (mask f)) = imm f x := by
  have hi := imm_lt f x
  have ha := and_lt x (mask f)
  have hj := imm_lt f (bits .and .u32 x (mask f))
  have hm := mask_lt f
  refine eq_of_tb _ _ hj.1 hj.2 hi.1 hi.2 fun p hp => ?_
  obtain ⟨c1, c2, c3, c4⟩ := check_at f hf p hp
  rw [tb_imm f _ p hf ha.1 ha.2 hp, tb_imm f _ p hf x0 x1 hp]
  exact any_congr' fun q hq => by rw [tb_and _ _ q x0 x1 hm.1 hm.2, (c3 q hq).2, Bool.and_true]
theorem imm_off (f x y : Int) (hf : isF f) (y0 : 0 ≤ y) (y1 : y < 4294967296) (h : ∀ q, tb y q = true → tb (mask f) q = false) : imm f y = 0 := by
  have hi := imm_lt f y
  refine eq_of_tb _ _ hi.1 hi.2 (by decide) (by decide) fun p hp => ?_
  obtain ⟨c1, c2, c3, c4⟩ := check_at f hf p hp
  rw [tb_imm f _ p hf y0 y1 hp, show tb 0 p = false from by simp [tb]]
  rw [List.any_eq_false]
  intro q hq ht
  have a := h q ht
  rw [(c3 q hq).2] at a
  cases a
theorem imm_or (f x y : Int) (hf : isF f) (x0 : 0 ≤ x) (x1 : x < 4294967296) (y0 : 0 ≤ y) (y1 : y < 4294967296) : imm f (bits .or .u32 x y) = bits .or .u32 (imm f x) (imm f y) := by
  have h1 := imm_lt f x
  have h2 := imm_lt f y
  have h3 := imm_lt f (bits .or .u32 x y)
  have h4 := or_lt (imm f x) (imm f y)
  have h5 := or_lt x y
  refine eq_of_tb _ _ h3.1 h3.2 h4.1 h4.2 fun p hp => ?_
  obtain ⟨c1, c2, c3, c4⟩ := check_at f hf p hp
  rw [tb_or _ _ p h1.1 h1.2 h2.1 h2.2, tb_imm f _ p hf h5.1 h5.2 hp, tb_imm f x p hf x0 x1 hp, tb_imm f y p hf y0 y1 hp]
  match hl : iwire f p, c4 with
  | [], _ => simp
  | [q], _ => simp [tb_or _ _ q x0 x1 y0 y1]
theorem imm_xor (f x y : Int) (hf : isF f) (x0 : 0 ≤ x) (x1 : x < 4294967296) (y0 : 0 ≤ y) (y1 : y < 4294967296) : imm f (bits .xor .u32 x y) = bits .xor .u32 (imm f x) (imm f y) := by
  have h1 := imm_lt f x
  have h2 := imm_lt f y
  have h3 := imm_lt f (bits .xor .u32 x y)
  have h4 := xor_lt (imm f x) (imm f y)
  have h5 := xor_lt x y
  refine eq_of_tb _ _ h3.1 h3.2 h4.1 h4.2 fun p hp => ?_
  obtain ⟨c1, c2, c3, c4⟩ := check_at f hf p hp
  rw [tb_xor _ _ p h1.1 h1.2 h2.1 h2.2, tb_imm f _ p hf h5.1 h5.2 hp, tb_imm f x p hf x0 x1 hp, tb_imm f y p hf y0 y1 hp]
  match hl : iwire f p, c4 with
  | [], _ => simp
  | [q], _ => simp [tb_xor _ _ q x0 x1 y0 y1]
theorem lay_back (f x : Int) (hf : isF f) (x0 : 0 ≤ x) (x1 : x < 4294967296) : layB f (imm f x) = true := by
  have hw := wid_in f hf
  unfold layB
  rw [lay_imm f x hf x0 x1, imm_and f x hf x0 x1]
  have : (wid f == 0) = false := by
    have : ¬ wid f = 0 := by omega
    simpa using this
  simp [this]
/-- The fields that all words have. -/
def hL (j : Nat) : Int := [0, 7, 12, 15, 20, 25].getD j 0
def hN (j : Nat) : Int := [7, 5, 3, 5, 5, 7].getD j 0
theorem join_split (x : Int) (x0 : 0 ≤ x) (x1 : x < 4294967296) : pack hL hN (fun j => bitsOf x (hL j) (hN j)) 6 = x := by
  rw [pack_raw hL hL hN x 6]
  have h := raw_lt hL hL hN x 6
  refine eq_of_tb _ _ h.1 h.2 x0 x1 fun p hp => ?_
  rw [tb_raw hL hL hN x 6 (by decide +kernel) p x0 x1 hp 6 (Nat.le_refl _)]
  have : wire hL hL hN p 6 = [p] := by
    have hc : ((List.range 32).all fun p => decide (wire hL hL hN p 6 = [p])) = true := by decide +kernel
    have := List.all_eq_true.1 hc p (List.mem_range.2 hp)
    simpa using this
  simp [this]
theorem apart : ((List.range 6).all fun i => (List.range 6).all fun j => decide (j = i) || decide (bits .and .u32 (placed 4294967295 (hL j) (hN j)) (placed 4294967295 (hL i) (hN i)) = 0)) = true := by decide +kernel
theorem split_join (V : Nat → Int) (hV : ∀ j, j < 6 → 0 ≤ V j ∧ V j < 4294967296) (i : Nat) (hi : i < 6) : bitsOf (pack hL hN V 6) (hL i) (hN i) = V i % 2 ^ (hN i).toNat := by
  have hd : ∀ j, j < 6 → j ≠ i → bits .and .u32 (placed 4294967295 (hL j) (hN j)) (placed 4294967295 (hL i) (hN i)) = 0 := by
    intro j hj hne
    have := List.all_eq_true.1 (List.all_eq_true.1 apart i (List.mem_range.2 hi)) j (List.mem_range.2 hj)
    simpa [hne] using this
  have hl := left_lt (V i) (hL i)
  have v := hV i hi
  match i, hi with
  | 0, _ | 1, _ | 2, _ | 3, _ | 4, _ | 5, _ =>
    rw [read_back hL hN V 6 _ (by decide) hV (by decide) (by decide) (by decide) (by decide) hd, bitsOf_eq _ _ _ hl.1 hl.2 (by decide) (by decide) (by decide)]
    unfold left
    simp only [hL, hN, List.getD_cons_zero, List.getD_cons_succ, Int.reduceToNat, Int.reducePow, Int.reduceMod, Nat.reduceLeDiff, Nat.min_eq_left]
    omega
end Go.Proofs.Ytpapiimiblefaaa.W

/- The immediates and their words, spelled format by format. -/
namespace Go.Proofs.Ytpapiimiblefaaa.W
open Go.RowKit
set_option linter.unusedVariables false

theorem bitsOf_low (x low n : Int) (x0 : 0 ≤ x) (x1 : x < 4294967296) (l0 : 0 ≤ low) (l1 : low ≤ 31) (n0 : 1 ≤ n) : bits .and .u32 (bitsOf x low n) (lowest n) = bitsOf x low n := by
  have h := bitsOf_lt x low n
  rw [lowest_eq n n0, low_and _ _ (by omega) h.1 h.2, bitsOf_eq x low n x0 x1 l0 l1 n0]
  exact Int.emod_emod_of_dvd _ (Int.dvd_refl _)
theorem moved_eq (x low to n : Int) (x0 : 0 ≤ x) (x1 : x < 4294967296) (l0 : 0 ≤ low) (l1 : low ≤ 31) (t0 : 0 ≤ to) (t1 : to ≤ 31) (n0 : 1 ≤ n) :
    moved x low to n = bitsOf x low n * 2 ^ to.toNat % 4294967296 := by
  have hw : within to n = true := by simp [within, t0, t1, n0]
  rw [moved_placed]
  unfold placed
  rw [hw, cond_true, place, bitsOf_low x low n x0 x1 l0 l1 n0]
theorem moved_shift (x low to n : Int) (x0 : 0 ≤ x) (x1 : x < 4294967296) (l0 : 0 ≤ low) (l1 : low ≤ 31) (t0 : 0 ≤ to) (t1 : to ≤ 31) (n0 : 1 ≤ n) :
    moved x low to n = placed (x / 2 ^ low.toNat) to n := by
  have hw : within to n = true := by simp [within, t0, t1, n0]
  have hw2 : within low n = true := by simp [within, l0, l1, n0]
  rw [moved_eq x low to n x0 x1 l0 l1 t0 t1 n0]
  unfold placed
  rw [hw, cond_true, place, bitsOf, hw2, cond_true]
theorem moved_nil (x low to : Int) : moved x low to 0 = 0 := by
  have hw : within to 0 = false := by simp [within]
  rw [moved_placed]
  unfold placed
  rw [hw, cond_false]
theorem moved_low (x low n : Int) (x0 : 0 ≤ x) (x1 : x < 4294967296) (l0 : 0 ≤ low) (l1 : low ≤ 31) (n0 : 1 ≤ n) : moved x low 0 n = bitsOf x low n := by
  have h := bitsOf_lt x low n
  rw [moved_eq x low 0 n x0 x1 l0 l1 (by decide) (by decide) n0]
  simp
  omega
theorem or1 (a : Int) (h : 0 ≤ a ∧ a < 4294967296) : bits .or .u32 (bits .or .u32 (bits .or .u32 (bits .or .u32 0 a) 0) 0) 0 = a := by
  rw [zero_or a h.1 h.2, or_zero a h.1 h.2, or_zero a h.1 h.2, or_zero a h.1 h.2]
theorem or2 (a b : Int) (h : 0 ≤ a ∧ a < 4294967296) : bits .or .u32 (bits .or .u32 (bits .or .u32 (bits .or .u32 0 a) b) 0) 0 = bits .or .u32 a b := by
  have g := or_lt a b
  rw [zero_or a h.1 h.2, or_zero _ g.1 g.2, or_zero _ g.1 g.2]
theorem or4 (a b c d : Int) (h : 0 ≤ a ∧ a < 4294967296) : bits .or .u32 (bits .or .u32 (bits .or .u32 (bits .or .u32 0 a) b) c) d = bits .or .u32 (bits .or .u32 (bits .or .u32 a b) c) d := by
  rw [zero_or a h.1 h.2]

theorem imm_I (x : Int) (x0 : 0 ≤ x) (x1 : x < 4294967296) : sgn (bitsOf x 20 12) 12 = imm 73 x := by
  have e : imm 73 x = sgn (bits .or .u32 (bits .or .u32 (bits .or .u32 (bits .or .u32 0 (moved x 20 0 12)) (moved x 0 0 0)) (moved x 0 0 0)) (moved x 0 0 0)) 12 := rfl
  rw [e, moved_nil, or1 _ (moved_lt _ _ _ _), moved_low x 20 12 x0 x1 (by decide) (by decide) (by decide)]
theorem imm_S (x : Int) (x0 : 0 ≤ x) (x1 : x < 4294967296) : sgn (bits .or .u32 (bitsOf x 25 7 * 32 % 4294967296) (bitsOf x 7 5)) 12 = imm 83 x := by
  have e : imm 83 x = sgn (bits .or .u32 (bits .or .u32 (bits .or .u32 (bits .or .u32 0 (moved x 25 5 7)) (moved x 7 0 5)) (moved x 0 0 0)) (moved x 0 0 0)) 12 := rfl
  rw [e, moved_nil, or2 _ _ (moved_lt _ _ _ _), moved_low x 7 5 x0 x1 (by decide) (by decide) (by decide), moved_eq x 25 5 7 x0 x1 (by decide) (by decide) (by decide) (by decide) (by decide)]
  rfl
theorem imm_B (x : Int) (x0 : 0 ≤ x) (x1 : x < 4294967296) : sgn (bits .or .u32 (bits .or .u32 (bits .or .u32 (bitsOf x 31 1 * 4096 % 4294967296) (bitsOf x 7 1 * 2048 % 4294967296)) (bitsOf x 25 6 * 32 % 4294967296)) (bitsOf x 8 4 * 2 % 4294967296)) 13 = imm 66 x := by
  have e : imm 66 x = sgn (bits .or .u32 (bits .or .u32 (bits .or .u32 (bits .or .u32 0 (moved x 31 12 1)) (moved x 7 11 1)) (moved x 25 5 6)) (moved x 8 1 4)) 13 := rfl
  rw [e, or4 _ _ _ _ (moved_lt _ _ _ _), moved_eq x 31 12 1 x0 x1 (by decide) (by decide) (by decide) (by decide) (by decide), moved_eq x 7 11 1 x0 x1 (by decide) (by decide) (by decide) (by decide) (by decide), moved_eq x 25 5 6 x0 x1 (by decide) (by decide) (by decide) (by decide) (by decide), moved_eq x 8 1 4 x0 x1 (by decide) (by decide) (by decide) (by decide) (by decide)]
  rfl
theorem imm_U (x : Int) (x0 : 0 ≤ x) (x1 : x < 4294967296) : bitsOf x 12 20 * 4096 % 4294967296 = imm 85 x := by
  have e : imm 85 x = sgn (bits .or .u32 (bits .or .u32 (bits .or .u32 (bits .or .u32 0 (moved x 12 12 20)) (moved x 0 0 0)) (moved x 0 0 0)) (moved x 0 0 0)) 32 := rfl
  rw [e, moved_nil, or1 _ (moved_lt _ _ _ _), sgn, if_neg (by decide), if_pos (by decide), moved_eq x 12 12 20 x0 x1 (by decide) (by decide) (by decide) (by decide) (by decide)]
  rfl
theorem imm_J (x : Int) (x0 : 0 ≤ x) (x1 : x < 4294967296) : sgn (bits .or .u32 (bits .or .u32 (bits .or .u32 (bitsOf x 31 1 * 1048576 % 4294967296) (bitsOf x 12 8 * 4096 % 4294967296)) (bitsOf x 20 1 * 2048 % 4294967296)) (bitsOf x 21 10 * 2 % 4294967296)) 21 = imm 74 x := by
  have e : imm 74 x = sgn (bits .or .u32 (bits .or .u32 (bits .or .u32 (bits .or .u32 0 (moved x 31 20 1)) (moved x 12 12 8)) (moved x 20 11 1)) (moved x 21 1 10)) 21 := rfl
  rw [e, or4 _ _ _ _ (moved_lt _ _ _ _), moved_eq x 31 20 1 x0 x1 (by decide) (by decide) (by decide) (by decide) (by decide), moved_eq x 12 12 8 x0 x1 (by decide) (by decide) (by decide) (by decide) (by decide), moved_eq x 20 11 1 x0 x1 (by decide) (by decide) (by decide) (by decide) (by decide), moved_eq x 21 1 10 x0 x1 (by decide) (by decide) (by decide) (by decide) (by decide)]
  rfl

theorem lay_I (x : Int) (x0 : 0 ≤ x) (x1 : x < 4294967296) : placed x 20 12 = layw 73 x := by
  have e : layw 73 x = bits .or .u32 (bits .or .u32 (bits .or .u32 (bits .or .u32 0 (moved x 0 20 12)) (moved x 0 0 0)) (moved x 0 0 0)) (moved x 0 0 0) := rfl
  rw [e, moved_nil, or1 _ (moved_lt _ _ _ _), moved_shift x 0 20 12 x0 x1 (by decide) (by decide) (by decide) (by decide) (by decide)]
  simp
theorem lay_S (x : Int) (x0 : 0 ≤ x) (x1 : x < 4294967296) : bits .or .u32 (placed (x / 32) 25 7) (placed x 7 5) = layw 83 x := by
  have e : layw 83 x = bits .or .u32 (bits .or .u32 (bits .or .u32 (bits .or .u32 0 (moved x 5 25 7)) (moved x 0 7 5)) (moved x 0 0 0)) (moved x 0 0 0) := rfl
  rw [e, moved_nil, or2 _ _ (moved_lt _ _ _ _), moved_shift x 5 25 7 x0 x1 (by decide) (by decide) (by decide) (by decide) (by decide), moved_shift x 0 7 5 x0 x1 (by decide) (by decide) (by decide) (by decide) (by decide)]
  simp
theorem lay_B (x : Int) (x0 : 0 ≤ x) (x1 : x < 4294967296) : bits .or .u32 (bits .or .u32 (bits .or .u32 (placed (x / 4096) 31 1) (placed (x / 2048) 7 1)) (placed (x / 32) 25 6)) (placed (x / 2) 8 4) = layw 66 x := by
  have e : layw 66 x = bits .or .u32 (bits .or .u32 (bits .or .u32 (bits .or .u32 0 (moved x 12 31 1)) (moved x 11 7 1)) (moved x 5 25 6)) (moved x 1 8 4) := rfl
  rw [e, or4 _ _ _ _ (moved_lt _ _ _ _), moved_shift x 12 31 1 x0 x1 (by decide) (by decide) (by decide) (by decide) (by decide), moved_shift x 11 7 1 x0 x1 (by decide) (by decide) (by decide) (by decide) (by decide), moved_shift x 5 25 6 x0 x1 (by decide) (by decide) (by decide) (by decide) (by decide), moved_shift x 1 8 4 x0 x1 (by decide) (by decide) (by decide) (by decide) (by decide)]
  simp
theorem lay_U (x : Int) (x0 : 0 ≤ x) (x1 : x < 4294967296) : placed (x / 4096) 12 20 = layw 85 x := by
  have e : layw 85 x = bits .or .u32 (bits .or .u32 (bits .or .u32 (bits .or .u32 0 (moved x 12 12 20)) (moved x 0 0 0)) (moved x 0 0 0)) (moved x 0 0 0) := rfl
  rw [e, moved_nil, or1 _ (moved_lt _ _ _ _), moved_shift x 12 12 20 x0 x1 (by decide) (by decide) (by decide) (by decide) (by decide)]
  simp
theorem lay_J (x : Int) (x0 : 0 ≤ x) (x1 : x < 4294967296) : bits .or .u32 (bits .or .u32 (bits .or .u32 (placed (x / 1048576) 31 1) (placed (x / 4096) 12 8)) (placed (x / 2048) 20 1)) (placed (x / 2) 21 10) = layw 74 x := by
  have e : layw 74 x = bits .or .u32 (bits .or .u32 (bits .or .u32 (bits .or .u32 0 (moved x 20 31 1)) (moved x 12 12 8)) (moved x 11 20 1)) (moved x 1 21 10) := rfl
  rw [e, or4 _ _ _ _ (moved_lt _ _ _ _), moved_shift x 20 31 1 x0 x1 (by decide) (by decide) (by decide) (by decide) (by decide), moved_shift x 12 12 8 x0 x1 (by decide) (by decide) (by decide) (by decide) (by decide), moved_shift x 11 20 1 x0 x1 (by decide) (by decide) (by decide) (by decide) (by decide), moved_shift x 1 21 10 x0 x1 (by decide) (by decide) (by decide) (by decide) (by decide)]
  simp

theorem heads (x : Int) (x0 : 0 ≤ x) (x1 : x < 4294967296) : (bitsOf x 0 7 != bits .and .u32 x 127) = false ∧ (bitsOf x 7 5 != bits .and .u32 (x / 128) 31) = false ∧ (bitsOf x 12 3 != bits .and .u32 (x / 4096) 7) = false
    ∧ (bitsOf x 15 5 != bits .and .u32 (x / 32768) 31) = false ∧ (bitsOf x 20 5 != bits .and .u32 (x / 1048576) 31) = false ∧ (bitsOf x 25 7 != x / 33554432) = false := by
  have h : ∀ (l n : Int) (c d : Int), 0 ≤ l → l ≤ 31 → 1 ≤ n → (2 : Int) ^ l.toNat = c → lowest n = d → bitsOf x l n = bits .and .u32 (x / c) d := by
    intro l n c d l0 l1 n0 hc hd
    have hw : within l n = true := by simp [within, l0, l1, n0]
    rw [bitsOf, hw, cond_true, hc, hd]
  have e0 := h 0 7 1 127 (by decide) (by decide) (by decide) (by decide) (by decide)
  rw [Int.ediv_one] at e0
  have e5 : bitsOf x 25 7 = x / 33554432 := by
    rw [bitsOf_eq x 25 7 x0 x1 (by decide) (by decide) (by decide)]
    simp only [Int.reduceToNat, Int.reducePow, Nat.reduceLeDiff, Nat.min_eq_left]
    omega
  rw [e0, h 7 5 128 31 (by decide) (by decide) (by decide) (by decide) (by decide), h 12 3 4096 7 (by decide) (by decide) (by decide) (by decide) (by decide), h 15 5 32768 31 (by decide) (by decide) (by decide) (by decide) (by decide), h 20 5 1048576 31 (by decide) (by decide) (by decide) (by decide) (by decide), e5]
  simp
end Go.Proofs.Ytpapiimiblefaaa.W

/- Mirrors of package isa on numbers: shapes, fields, reading and laying instructions; without any Go. -/
namespace Go.Proofs.Ytpapiimiblefaaa.W
open Go.RowKit
set_option linter.unusedVariables false

/-- What the words of like instructions have in common. -/
structure Sh where
  fixed : Int
  rd : Bool
  rs1 : Bool
  rs2 : Bool
  csr : Bool
  ord : Bool
  fmt : Int
  low : Int
  size : Int
/-- An instruction. -/
structure I where
  op : Int
  rd : Int
  rs1 : Int
  rs2 : Int
  csr : Int
  imm : Int
  aq : Bool
  rl : Bool
def fr (a b c : Int) : Bool := decide (a ≤ b) && decide (b ≤ c)
def known (op : Int) : Bool := fr 1 op 69

def shp (op : Int) : Sh :=
  bif op == 1 then ⟨127, true, false, false, false, false, 85, 0, 0⟩ else
  bif op == 2 then ⟨127, true, false, false, false, false, 85, 0, 0⟩ else
  bif op == 3 then ⟨127, true, false, false, false, false, 74, 0, 0⟩ else
  bif op == 4 then ⟨28799, true, true, false, false, false, 73, 0, 0⟩ else
  bif fr 11 op 15 then ⟨28799, true, true, false, false, false, 73, 0, 0⟩ else
  bif fr 19 op 24 then ⟨28799, true, true, false, false, false, 73, 0, 0⟩ else
  bif fr 5 op 10 then ⟨28799, false, true, true, false, false, 66, 0, 0⟩ else
  bif fr 16 op 18 then ⟨28799, false, true, true, false, false, 83, 0, 0⟩ else
  bif fr 25 op 27 then ⟨4261441663, true, true, false, false, false, 0, 20, 5⟩ else
  bif fr 28 op 37 then ⟨4261441663, true, true, true, false, false, 0, 0, 0⟩ else
  bif fr 51 op 58 then ⟨4261441663, true, true, true, false, false, 0, 0, 0⟩ else
  bif op == 38 then ⟨4027580415, false, false, false, false, false, 0, 20, 8⟩ else
  bif fr 39 op 43 then ⟨4294967295, false, false, false, false, false, 0, 0, 0⟩ else
  bif op == 44 then ⟨4261445631, false, true, true, false, false, 0, 0, 0⟩ else
  bif fr 45 op 47 then ⟨28799, true, true, false, true, false, 0, 0, 0⟩ else
  bif fr 48 op 50 then ⟨28799, true, false, false, true, false, 0, 15, 5⟩ else
  bif op == 59 then ⟨4193284223, true, true, false, false, true, 0, 0, 0⟩ else
  bif fr 60 op 69 then ⟨4160778367, true, true, true, false, true, 0, 0, 0⟩ else
  ⟨0, false, false, false, false, false, 0, 0, 0⟩
def codes : List Int := [0, 55, 23, 111, 103, 99, 4195, 16483, 20579, 24675, 28771, 3, 4099, 8195, 16387, 20483, 35, 4131, 8227, 19, 8211, 12307, 16403, 24595, 28691, 4115, 20499, 1073762323, 51, 1073741875, 4147, 8243, 12339, 16435, 20531, 1073762355, 24627, 28723, 15, 4111, 115, 1048691, 807403635, 273678451, 301990003, 4211, 8307, 12403, 20595, 24691, 28787, 33554483, 33558579, 33562675, 33566771, 33570867, 33574963, 33579059, 33583155, 268443695, 402661423, 134225967, 8239, 536879151, 1610620975, 1073750063, 2147491887, 2684362799, 3221233711, 3758104623]
def code (k : Nat) : Int := codes.getD k 0
def hasI (fmt size : Int) : Bool := (fmt != 0) || decide (0 < size)
def hasImm (s : Sh) : Bool := hasI s.fmt s.size
def immS (s : Sh) (x : Int) : Int := bif decide (0 < s.size) then bitsOf x s.low s.size else imm s.fmt x
def only (s : Sh) (i : I) : I :=
  ⟨i.op, bif s.rd then i.rd else 0, bif s.rs1 then i.rs1 else 0, bif s.rs2 then i.rs2 else 0, bif s.csr then i.csr else 0, bif hasImm s then i.imm else 0, s.ord && i.aq, s.ord && i.rl⟩
def readAll (s : Sh) (op x : Int) : I := ⟨op, bitsOf x 7 5, bitsOf x 15 5, bitsOf x 20 5, bitsOf x 20 12, immS s x, bitsOf x 26 1 == 1, bitsOf x 25 1 == 1⟩
def read (s : Sh) (op x : Int) : I := only s (readAll s op x)
def one (b : Bool) : Int := bif b then 1 else 0
/-- A field alone. -/
def lone (v low n : Int) : Int := pack (fun _ => low) (fun _ => n) (fun _ => v) 1
def layIV (s : Sh) (v : Int) : Int := bif hasImm s then (bif decide (0 < s.size) then lone v s.low s.size else layV s.fmt v) else 0
def layIB (s : Sh) (v : Int) : Bool := bif hasImm s then (bif decide (0 < s.size) then immS s (lone v s.low s.size) == v else layB s.fmt v) else true
def inRange (i : I) : Bool := fr 0 i.rd 31 && (fr 0 i.rs1 31 && (fr 0 i.rs2 31 && fr 0 i.csr 4095))
def same (a b : I) : Bool := (a.op == b.op) && ((a.rd == b.rd) && ((a.rs1 == b.rs1) && ((a.rs2 == b.rs2) && ((a.csr == b.csr) && ((a.imm == b.imm) && ((a.aq == b.aq) && (a.rl == b.rl)))))))
def gL (j : Nat) : Int := [20, 26, 25].getD j 0
def gN (j : Nat) : Int := [12, 1, 1].getD j 0
def three (a b c : Int) (j : Nat) : Int := [a, b, c].getD j 0
def six (a b c d e f : Int) (j : Nat) : Int := [a, b, c, d, e, f].getD j 0
def u32 (z : Int) : Int := z % 4294967296
def layF (i : I) : Int := bits .or .u32 (pack hL hN (six 0 (u32 i.rd) 0 (u32 i.rs1) (u32 i.rs2) 0) 6) (pack gL gN (three (u32 i.csr) (one i.aq) (one i.rl)) 3)
/-- Has the word x what op's words have in common? -/
def hit (x : Int) (k : Nat) : Bool := !(bits .and .u32 (bits .xor .u32 x (code k)) 127 != 0) && (bits .and .u32 x (shp k).fixed == code k)
def decFrom (x : Int) : Nat → Nat → Nat
  | _, 0 => 0
  | k, n + 1 => bif hit x k then k else decFrom x (k + 1) n
/-- The instruction whose word x is; 0: there is none. -/
def dec (x : Int) : Nat := decFrom x 1 69
def decI (x : Int) : I := read (shp (dec x)) (dec x) x
def decB (x : Int) : Bool := dec x != 0
/-- Why i has no word: 0: it has one. -/
def encE (i : I) : Nat := bif known i.op then (bif layIB (shp i.op) i.imm && inRange i then (bif same (only (shp i.op) i) i then 0 else 3) else 2) else 1
def encV (i : I) : Int := bif encE i == 0 then bits .or .u32 (bits .or .u32 (code i.op.toNat) (layIV (shp i.op) i.imm)) (layF i) else 0
def kind (op : Int) : Int :=
  bif !known op then 0 else bif fr 1 op 2 then 1 else bif fr 19 op 37 then 1 else bif fr 51 op 58 then 1 else bif fr 3 op 4 then 2 else bif fr 5 op 10 then 3 else bif fr 11 op 15 then 4 else bif op == 59 then 4 else
  bif fr 16 op 18 then 5 else bif fr 60 op 69 then 6 else 7
/-- The shapes that there are, by which fields they use. -/
def okSh (s : Sh) : Bool := [(true, false, false, false, false, true), (true, true, false, false, false, true), (false, true, true, false, false, true), (true, true, true, false, false, false), (false, false, false, false, false, true),
  (false, false, false, false, false, false), (false, true, true, false, false, false), (true, true, false, true, false, false), (true, false, false, true, false, true), (true, true, false, false, true, false), (true, true, true, false, true, false)].contains (s.rd, s.rs1, s.rs2, s.csr, s.ord, hasImm s)
theorem okSh_shp (op : Int) : okSh (shp op) = true := by
  unfold shp
  cases (op == 1); case true => rfl
  cases (op == 2); case true => rfl
  cases (op == 3); case true => rfl
  cases (op == 4); case true => rfl
  cases (fr 11 op 15); case true => rfl
  cases (fr 19 op 24); case true => rfl
  cases (fr 5 op 10); case true => rfl
  cases (fr 16 op 18); case true => rfl
  cases (fr 25 op 27); case true => rfl
  cases (fr 28 op 37); case true => rfl
  cases (fr 51 op 58); case true => rfl
  cases (op == 38); case true => rfl
  cases (fr 39 op 43); case true => rfl
  cases (op == 44); case true => rfl
  cases (fr 45 op 47); case true => rfl
  cases (fr 48 op 50); case true => rfl
  cases (op == 59); case true => rfl
  cases (fr 60 op 69); case true => rfl
  rfl
end Go.Proofs.Ytpapiimiblefaaa.W

/- Mirrors of package alu on numbers; without any Go. -/
namespace Go.Proofs.Ytpapiimiblefaaa.W
open Go.RowKit
set_option linter.unusedVariables false

/-- The instruction without an immediate that reckons the same. -/
def pl (op : Int) : Int :=
  bif op == 19 then 28 else bif op == 20 then 31 else bif op == 21 then 32 else bif op == 22 then 33 else bif op == 23 then 36 else bif op == 24 then 37 else bif op == 25 then 30 else bif op == 26 then 34 else bif op == 27 then 35 else op
def doP (p a b : Int) : Int :=
  bif p == 28 then (a + b) % 4294967296 else
  bif p == 29 then (a - b) % 4294967296 else
  bif p == 30 then left a b else
  bif p == 31 then one (less a b true) else
  bif p == 32 then one (less a b false) else
  bif p == 33 then bits .xor .u32 a b else
  bif p == 34 then right a b false else
  bif p == 35 then right a b true else
  bif p == 36 then bits .or .u32 a b else
  bif p == 37 then bits .and .u32 a b else
  bif p == 51 then a * b % 4294967296 else
  bif p == 52 then high a b true true else
  bif p == 53 then high a b true false else
  bif p == 54 then high a b false false else
  bif p == 55 then div a b true else
  bif p == 56 then div a b false else
  bif p == 57 then rem a b true else
  bif p == 58 then rem a b false else 0
def doV (op a b : Int) : Int := doP (pl op) a b
def doB (op : Int) : Bool := fr 19 op 37 || fr 51 op 58
theorem doB_cases {op : Int} (h : doB op = true) : op = 19 ∨ op = 20 ∨ op = 21 ∨ op = 22 ∨ op = 23 ∨ op = 24 ∨ op = 25 ∨ op = 26 ∨ op = 27 ∨ op = 28 ∨ op = 29 ∨ op = 30 ∨ op = 31 ∨ op = 32 ∨ op = 33 ∨ op = 34 ∨ op = 35 ∨ op = 36 ∨ op = 37 ∨ op = 51 ∨ op = 52 ∨ op = 53 ∨ op = 54 ∨ op = 55 ∨ op = 56 ∨ op = 57 ∨ op = 58 := by
  simp [doB, fr] at h; omega
theorem doB_none {op : Int} (h : doB op = false) : (op == 19) = false ∧ (op == 20) = false ∧ (op == 21) = false ∧ (op == 22) = false ∧ (op == 23) = false ∧ (op == 24) = false ∧ (op == 25) = false ∧ (op == 26) = false ∧ (op == 27) = false ∧ (op == 28) = false ∧ (op == 29) = false ∧ (op == 30) = false ∧ (op == 31) = false ∧ (op == 32) = false ∧ (op == 33) = false ∧ (op == 34) = false ∧ (op == 35) = false ∧ (op == 36) = false ∧ (op == 37) = false ∧ (op == 51) = false ∧ (op == 52) = false ∧ (op == 53) = false ∧ (op == 54) = false ∧ (op == 55) = false ∧ (op == 56) = false ∧ (op == 57) = false ∧ (op == 58) = false := by
  simp [doB, fr] at h; simp; omega
theorem doV_none {op : Int} (a b : Int) (h : doB op = false) : doV op a b = 0 := by
  obtain ⟨h19, h20, h21, h22, h23, h24, h25, h26, h27, h28, h29, h30, h31, h32, h33, h34, h35, h36, h37, h51, h52, h53, h54, h55, h56, h57, h58⟩ := doB_none h
  simp only [doV, doP, pl, cond_false, *]

def takB (op : Int) : Bool := fr 5 op 10
def takV (op a b : Int) : Bool :=
  bif op == 5 then a == b else bif op == 6 then a != b else bif op == 7 then less a b true else bif op == 8 then !less a b true else bif op == 9 then less a b false else bif op == 10 then !less a b false else false
theorem takB_cases {op : Int} (h : takB op = true) : op = 5 ∨ op = 6 ∨ op = 7 ∨ op = 8 ∨ op = 9 ∨ op = 10 := by
  simp [takB, fr] at h; omega
theorem takB_none {op : Int} (h : takB op = false) : (op == 5) = false ∧ (op == 6) = false ∧ (op == 7) = false ∧ (op == 8) = false ∧ (op == 9) = false ∧ (op == 10) = false := by
  simp [takB, fr] at h; simp; omega
theorem takV_none {op : Int} (a b : Int) (h : takB op = false) : takV op a b = false := by
  obtain ⟨h5, h6, h7, h8, h9, h10⟩ := takB_none h
  simp only [takV, cond_false, *]

def least (a b : Int) (s : Bool) : Int := bif less b a s then b else a
def most (a b : Int) (s : Bool) : Int := bif less a b s then b else a
def amoB (op : Int) : Bool := fr 61 op 69
def amoV (op a b : Int) : Int :=
  bif op == 61 then b else bif op == 62 then (a + b) % 4294967296 else bif op == 63 then bits .xor .u32 a b else bif op == 64 then bits .and .u32 a b else bif op == 65 then bits .or .u32 a b else
  bif op == 66 then least a b true else bif op == 67 then most a b true else bif op == 68 then least a b false else bif op == 69 then most a b false else 0
theorem amoB_cases {op : Int} (h : amoB op = true) : op = 61 ∨ op = 62 ∨ op = 63 ∨ op = 64 ∨ op = 65 ∨ op = 66 ∨ op = 67 ∨ op = 68 ∨ op = 69 := by
  simp [amoB, fr] at h; omega
theorem amoB_none {op : Int} (h : amoB op = false) : (op == 61) = false ∧ (op == 62) = false ∧ (op == 63) = false ∧ (op == 64) = false ∧ (op == 65) = false ∧ (op == 66) = false ∧ (op == 67) = false ∧ (op == 68) = false ∧ (op == 69) = false := by
  simp [amoB, fr] at h; simp; omega
theorem amoV_none {op : Int} (a b : Int) (h : amoB op = false) : amoV op a b = 0 := by
  obtain ⟨h61, h62, h63, h64, h65, h66, h67, h68, h69⟩ := amoB_none h
  simp only [amoV, cond_false, *]

def sz (op : Int) : Int := bif (op == 11) || ((op == 14) || (op == 16)) then 1 else bif (op == 12) || ((op == 15) || (op == 17)) then 2 else bif (op == 13) || ((op == 18) || fr 59 op 69) then 4 else 0
/-- What has to do with memory. -/
def memB (op : Int) : Bool := fr 11 op 18 || fr 59 op 69
theorem memB_cases {op : Int} (h : memB op = true) : op = 11 ∨ op = 12 ∨ op = 13 ∨ op = 14 ∨ op = 15 ∨ op = 16 ∨ op = 17 ∨ op = 18 ∨ op = 59 ∨ op = 60 ∨ op = 61 ∨ op = 62 ∨ op = 63 ∨ op = 64 ∨ op = 65 ∨ op = 66 ∨ op = 67 ∨ op = 68 ∨ op = 69 := by
  simp [memB, fr] at h; omega
theorem memB_none {op : Int} (h : memB op = false) : (op == 11) = false ∧ (op == 12) = false ∧ (op == 13) = false ∧ (op == 14) = false ∧ (op == 15) = false ∧ (op == 16) = false ∧ (op == 17) = false ∧ (op == 18) = false ∧ (op == 59) = false ∧ (op == 60) = false ∧ (kind op == 4) = false ∧ (kind op == 5) = false ∧ (kind op == 6) = false ∧ sz op = 0 ∧ (decide (59 ≤ op) && decide (op ≤ 69)) = false ∧ (decide (61 ≤ op) && decide (op ≤ 69)) = false := by
  have h' := h
  simp [memB, fr] at h
  have a1 : fr 11 op 15 = false := by simp [fr]; omega
  have a2 : (op == 59) = false := by simp; omega
  have a3 : fr 16 op 18 = false := by simp [fr]; omega
  have a4 : fr 60 op 69 = false := by simp [fr]; omega
  have a5 : fr 59 op 69 = false := by simp [fr]; omega
  have e : ∀ k, (11 ≤ k ∧ k ≤ 18) ∨ k = 60 → (op == k) = false := fun k hk => by simp; omega
  refine ⟨e _ (by omega), e _ (by omega), e _ (by omega), e _ (by omega), e _ (by omega), e _ (by omega), e _ (by omega), e _ (by omega), a2, e _ (by omega), ?_, ?_, ?_, ?_, ?_, ?_⟩
  · simp only [kind, a1, a2, a3, a4, cond_false]; cases known op <;> cases fr 1 op 2 <;> cases fr 19 op 37 <;> cases fr 51 op 58 <;> cases fr 3 op 4 <;> cases fr 5 op 10 <;> decide
  · simp only [kind, a1, a2, a3, a4, cond_false]; cases known op <;> cases fr 1 op 2 <;> cases fr 19 op 37 <;> cases fr 51 op 58 <;> cases fr 3 op 4 <;> cases fr 5 op 10 <;> decide
  · simp only [kind, a1, a2, a3, a4, cond_false]; cases known op <;> cases fr 1 op 2 <;> cases fr 19 op 37 <;> cases fr 51 op 58 <;> cases fr 3 op 4 <;> cases fr 5 op 10 <;> decide
  · simp only [sz, a5, e 11 (by omega), e 12 (by omega), e 13 (by omega), e 14 (by omega), e 15 (by omega), e 16 (by omega), e 17 (by omega), e 18 (by omega), Bool.or_false, cond_false]
  · simp; omega
  · simp; omega
def ext (op x : Int) : Int :=
  bif op == 11 then sgn x 8 else bif op == 12 then sgn x 16 else bif fr 13 op 15 || ((op == 59) || fr 61 op 69) then bitsOf x 0 (8 * sz op) else 0
def cut (op x : Int) : Int := bif fr 16 op 18 || (op == 60) then bitsOf x 0 (8 * sz op) else 0
theorem ext_none {op : Int} (x : Int) (h : memB op = false) : ext op x = 0 := by
  obtain ⟨h11, h12, h13, h14, h15, h16, h17, h18, h59, h60, _⟩ := memB_none h
  simp [memB, fr] at h
  have a1 : fr 13 op 15 = false := by simp [fr]; omega
  have a2 : fr 61 op 69 = false := by simp [fr]; omega
  simp only [ext, h11, h12, h59, a1, a2, Bool.or_false, cond_false]
theorem cut_none {op : Int} (x : Int) (h : memB op = false) : cut op x = 0 := by
  obtain ⟨h11, h12, h13, h14, h15, h16, h17, h18, h59, h60, _⟩ := memB_none h
  simp [memB, fr] at h
  have a1 : fr 16 op 18 = false := by simp [fr]; omega
  simp only [cut, h60, a1, Bool.or_false, cond_false]
end Go.Proofs.Ytpapiimiblefaaa.W

/- What word.Pack returns for whatever fields lie in memory. -/
namespace Go.Proofs.Ytpapiimiblefaaa
open Go.ChangeShapes Go.WideShapes Go.ChangeAt Go.RowKit

theorem pack_any (b off len cap : Nat) (L N V : Nat → Int) (w : World) (hl : len ≤ 4611686018427387904) (hbB : b < w.heap.size)
    (hc0 : ∀ j, j < len → w.cell? ⟨b, off + j * 3, none⟩ = some (.int .i64 (L j)))
    (hc1 : ∀ j, j < len → w.cell? ⟨b, off + j * 3 + 1, none⟩ = some (.int .i64 (N j)))
    (hc2 : ∀ j, j < len → w.cell? ⟨b, off + j * 3 + 2, none⟩ = some (.int .u32 (V j))) :
    Calls Try.prog 61 #[.slice (some ⟨b, off, none⟩) len cap] w fun e w' => e = .returned (.int .u32 (W.pack L N V len)) ∧ Below w.heap.size w w' := by
  go_enter Try.func61, Try.ntmps61
  go_wp2
  go_loopw [3, 8] (fun t i wr => ∃ k : Nat, k ≤ len ∧ i = .int .i64 k ∧ t = .int .u32 (W.pack L N V k) ∧ Below w.heap.size w wr) (fun _ i _ => len - (intOf i).toNat)
  case atStart => exact ⟨0, Nat.zero_le _, rfl, rfl, Below.refl _ _⟩
  case round =>
    obtain ⟨k, hk, rfl, rfl, hbl⟩ := hrel
    by_cases hlt : k < len
    · have g0 : wr.cell? ⟨b, off + k * 3, none⟩ = some (.int .i64 (L k)) := (hbl.cell (by exact hbB)).trans (hc0 k hlt)
      have g1 : wr.cell? ⟨b, off + k * 3 + 1, none⟩ = some (.int .i64 (N k)) := (hbl.cell (by exact hbB)).trans (hc1 k hlt)
      have g2 : wr.cell? ⟨b, off + k * 3 + 2, none⟩ = some (.int .u32 (V k)) := (hbl.cell (by exact hbB)).trans (hc2 k hlt)
      clear hc0 hc1 hc2
      cases hw : W.within (L k) (N k)
      · have hp : Hid (W.pack L N V (k + 1) = W.pack L N V k) := by
          have : W.pack L N V (k + 1) = W.pack L N V k := by rw [W.pack, hw]; rfl
          exact this
        go_wp2_with (go_at_call 53; refine (within_any _ _ _).mono ?_; rintro e w' ⟨rfl, rfl⟩)
        go_roundw
        case rel => exact ⟨k + 1, by omega, by go_num, by rw [hp.out], hbl.alloc (by have := hbl.size; omega) _⟩
        case measure => simp [intOf]; omega
      · have hp : Hid (W.pack L N V (k + 1) = bits .or .u32 (W.pack L N V k) (W.place (V k) (L k) (N k))) := by
          have : W.pack L N V (k + 1) = bits .or .u32 (W.pack L N V k) (W.place (V k) (L k) (N k)) := by rw [W.pack, hw]; rfl
          exact this
        have h1 : 0 ≤ L k ∧ L k ≤ 31 ∧ 1 ≤ N k := by simpa [W.within] using hw
        obtain ⟨h1, h2, h3⟩ := h1
        go_wp2_with (go_at_call 53; refine (within_any _ _ _).mono ?_; rintro e w' ⟨rfl, rfl⟩)
        go_quiet ((go_at_call 54; exact Calls.quiet_of_same (lowest_any _ h3 _)))
        go_wp2
        go_roundw
        case rel => exact ⟨k + 1, by omega, by go_num, by rw [hp.out]; rfl, below_drewN (hbl.alloc (by have := hbl.size; omega) _) _⟩
        case measure => simp [intOf]; omega
    · go_wp2
      go_ret
      have : k = len := by omega
      subst this
      exact ⟨rfl, hbl⟩

theorem ex_cells (w : World) : (∀ j, j < 2 → (w.alloc (.cells #[.int .i64 0, .int .i64 7, .int .u32 19, .int .i64 7, .int .i64 5, .int .u32 1] 103)).cell? ⟨w.heap.size, 0 + j * 3, none⟩ = some (.int .i64 (W.exL j)))
    ∧ (∀ j, j < 2 → (w.alloc (.cells #[.int .i64 0, .int .i64 7, .int .u32 19, .int .i64 7, .int .i64 5, .int .u32 1] 103)).cell? ⟨w.heap.size, 0 + j * 3 + 1, none⟩ = some (.int .i64 (W.exN j)))
    ∧ (∀ j, j < 2 → (w.alloc (.cells #[.int .i64 0, .int .i64 7, .int .u32 19, .int .i64 7, .int .i64 5, .int .u32 1] 103)).cell? ⟨w.heap.size, 0 + j * 3 + 2, none⟩ = some (.int .u32 (W.exV j))) := by
  refine ⟨?_, ?_, ?_⟩
  all_goals
    intro j hj
    match j, hj with
    | 0, _ => simp [go_sem, W.exL, W.exN, W.exV]
    | 1, _ => simp [go_sem, W.exL, W.exN, W.exV]

end Go.Proofs.Ytpapiimiblefaaa

/- What each function of package enc returns, as a plain function of its numbers: a contract a function. -/
namespace Go.Proofs.Ytpapiimiblefaaa
open Go.ChangeShapes Go.WideShapes Go.ChangeAt Go.RowKit
set_option linter.unusedVariables false

theorem one_cells (w : World) (t : TypeId) (a b c : Value) : (w.alloc (.cells #[a, b, c] t)).cell? ⟨w.heap.size, 0, none⟩ = some a ∧ (w.alloc (.cells #[a, b, c] t)).cell? ⟨w.heap.size, 1, none⟩ = some b ∧ (w.alloc (.cells #[a, b, c] t)).cell? ⟨w.heap.size, 2, none⟩ = some c := by
  simp [go_sem]

theorem move_any (x low to n : Int) (w : World) :
    Calls Try.prog 59 #[.int .u32 x, .int .i64 low, .int .i64 to, .int .i64 n] w fun e w' => e = .returned (.int .u32 (W.moved x low to n)) ∧ Below w.heap.size w w' := by
  go_enter Try.func59, Try.ntmps59
  go_wp2_with (go_at_call 46; refine (bits_any _ _ _ _).mono ?_; rintro e w' ⟨rfl, kq, rfl⟩)
  have hx := one_cells (w.drewN kq) 103 (.int .i64 to) (.int .i64 n) (.int .u32 (W.bitsOf x low n))
  refine (pack_any w.heap.size 0 1 1 (fun _ => to) (fun _ => n) (fun _ => W.bitsOf x low n) _ (by decide) (by simp) ?_ ?_ ?_).mono ?_
  · intro j hj; obtain rfl : j = 0 := by omega
    exact hx.1
  · intro j hj; obtain rfl : j = 0 := by omega
    exact hx.2.1
  · intro j hj; obtain rfl : j = 0 := by omega
    exact hx.2.2
  clear hx
  rintro e w' ⟨rfl, hb⟩
  go_wp2
  go_ret
  exact ⟨rfl, ((below_drewN (Below.refl _ _) _).alloc (by simp) _).trans (hb.mono (by simp))⟩

/-- A layout, as the program has it. -/
def layoutV (f : Int) : Value := .agg #[.int .i64 (W.wid f), .int .i64 (W.pW f 0), .int .i64 (W.pI f 0), .int .i64 (W.pN f 0), .int .i64 (W.pW f 1), .int .i64 (W.pI f 1), .int .i64 (W.pN f 1), .int .i64 (W.pW f 2), .int .i64 (W.pI f 2), .int .i64 (W.pN f 2), .int .i64 (W.pW f 3), .int .i64 (W.pI f 3), .int .i64 (W.pN f 3)]

theorem layout_other (f : Int) (h : ¬ W.isF f) : W.wid f = 0 ∧ W.pieces f = [] := by
  unfold W.isF at h
  simp only [not_or] at h
  obtain ⟨h1, h2, h3, h4, h5⟩ := h
  simp [W.wid, W.pieces, h1, h2, h3, h4, h5]

set_option maxHeartbeats 1600000 in
theorem layoutOf_any (f : Int) (w : World) :
    Calls Try.prog 58 #[.int .u8 f] w fun e w' => e = .returned (layoutV f) ∧ Below w.heap.size w w' := by
  by_cases h : W.isF f
  · rcases h with rfl | rfl | rfl | rfl | rfl
    all_goals
      go_enter Try.func58, Try.ntmps58
      go_wp2
      exact bodyPost_ret (v := layoutV _) (by simp [results, Try.results58, go_sem]; rfl) rfl ⟨rfl, (Below.refl _ _).alloc (Nat.le_refl _) _⟩
  · have hv : Hid (layoutV f = .agg #[.int .i64 0, .int .i64 0, .int .i64 0, .int .i64 0, .int .i64 0, .int .i64 0, .int .i64 0, .int .i64 0, .int .i64 0, .int .i64 0, .int .i64 0, .int .i64 0, .int .i64 0]) := by
      have e := layout_other f h
      have : layoutV f = .agg #[.int .i64 0, .int .i64 0, .int .i64 0, .int .i64 0, .int .i64 0, .int .i64 0, .int .i64 0, .int .i64 0, .int .i64 0, .int .i64 0, .int .i64 0, .int .i64 0, .int .i64 0] := by
        simp [layoutV, W.pW, W.pI, W.pN, e.1, e.2]
      exact this
    unfold W.isF at h
    simp only [not_or] at h
    obtain ⟨h1, h2, h3, h4, h5⟩ := h
    have e1 : (f == 73) = false := by simpa using h1
    have e2 : (f == 83) = false := by simpa using h2
    have e3 : (f == 66) = false := by simpa using h3
    have e4 : (f == 85) = false := by simpa using h4
    have e5 : (f == 74) = false := by simpa using h5
    clear h1 h2 h3 h4 h5
    go_enter Try.func58, Try.ntmps58
    go_wp2
    exact bodyPost_ret (v := layoutV f) (by simp [results, Try.results58, go_sem]; exact hv.out.symm) rfl ⟨rfl, (Below.refl _ _).alloc (Nat.le_refl _) _⟩

theorem piece_at (a0 a1 a2 b0 b1 b2 c0 c1 c2 d0 d1 d2 : Value) :
    (∀ w, (Instr.index 96 (.agg #[a0, a1, a2, b0, b1, b2, c0, c1, c2, d0, d1, d2]) (.int .i64 0)).run Try.prog w = .ok (.agg #[a0, a1, a2]) w)
    ∧ (∀ w, (Instr.index 96 (.agg #[a0, a1, a2, b0, b1, b2, c0, c1, c2, d0, d1, d2]) (.int .i64 1)).run Try.prog w = .ok (.agg #[b0, b1, b2]) w)
    ∧ (∀ w, (Instr.index 96 (.agg #[a0, a1, a2, b0, b1, b2, c0, c1, c2, d0, d1, d2]) (.int .i64 2)).run Try.prog w = .ok (.agg #[c0, c1, c2]) w)
    ∧ (∀ w, (Instr.index 96 (.agg #[a0, a1, a2, b0, b1, b2, c0, c1, c2, d0, d1, d2]) (.int .i64 3)).run Try.prog w = .ok (.agg #[d0, d1, d2]) w) :=
  ⟨fun _ => by kernel_rfl, fun _ => by kernel_rfl, fun _ => by kernel_rfl, fun _ => by kernel_rfl⟩

theorem keep_cell {w wr w' : World} {g : Nat} {o : Obj} {v : Value} (hbl : Below w.heap.size w wr) (hc : wr.cell? ⟨g, 0, none⟩ = some v) (hs : g < wr.heap.size) (hm : Below (wr.alloc o).heap.size (wr.alloc o) w') :
    Below w.heap.size w w' ∧ w'.cell? ⟨g, 0, none⟩ = some v ∧ g < w'.heap.size := by
  have hz := hbl.size
  have hz2 := hm.size
  have hz3 : (wr.alloc o).heap.size = wr.heap.size + 1 := by simp
  refine ⟨(hbl.alloc hz _).trans (hm.mono (by omega)), ?_, by omega⟩
  refine (hm.cell (p := ⟨g, 0, none⟩) (by show g < _; omega)).trans ?_
  rw [World.cell?_alloc_past _ _ _ hs]
  exact hc

set_option maxHeartbeats 1600000 in
theorem imm_any (f x : Int) (w : World) :
    Calls Try.prog 55 #[.int .u8 f, .int .u32 x] w fun e w' => e = .returned (.int .u32 (W.imm f x)) ∧ Below w.heap.size w w' := by
  obtain ⟨i0, i1, i2, i3⟩ := piece_at (.int .i64 (W.pW f 0)) (.int .i64 (W.pI f 0)) (.int .i64 (W.pN f 0)) (.int .i64 (W.pW f 1)) (.int .i64 (W.pI f 1)) (.int .i64 (W.pN f 1)) (.int .i64 (W.pW f 2)) (.int .i64 (W.pI f 2)) (.int .i64 (W.pN f 2)) (.int .i64 (W.pW f 3)) (.int .i64 (W.pI f 3)) (.int .i64 (W.pN f 3))
  go_enter Try.func55, Try.ntmps55
  go_wp2_with (go_at_call 58; refine (layoutOf_any _ _).mono ?_; rintro e w1 ⟨rfl, hw1⟩; unfold layoutV)
  go_loopw [6, 13] (fun t i wr => ∃ k : Nat, k ≤ 4 ∧ i = .int .i64 k ∧ t = .int .u32 (W.raw (W.pW f) (W.pI f) (W.pN f) x k) ∧ Below w.heap.size w wr ∧ wr.cell? ⟨w1.heap.size, 0, none⟩ = some (.int .i64 (W.wid f)) ∧ w1.heap.size < wr.heap.size) (fun _ i _ => 4 - (intOf i).toNat)
  case atStart => exact ⟨0, by omega, rfl, rfl, hw1.alloc hw1.size _, by simp [go_sem], by simp⟩
  case round =>
    obtain ⟨k, hk, rfl, rfl, hbl, hc, hs⟩ := hrel
    have hk5 : k = 0 ∨ k = 1 ∨ k = 2 ∨ k = 3 ∨ k = 4 := by omega
    clear hk
    rcases hk5 with rfl | rfl | rfl | rfl | rfl
    case inr.inr.inr.inr =>
      go_wp2_with (go_at_call 60; refine (sgn_any _ _ _).mono ?_; rintro e w' ⟨rfl, rfl⟩)
      go_ret
      exact ⟨rfl, hbl⟩
    all_goals
      go_wp2_with (go_at_call 59; refine (move_any _ _ _ _ _).mono ?_; rintro e w' ⟨rfl, hm⟩)
      go_roundw
      case rel => exact ⟨_, by decide, rfl, rfl, keep_cell hbl hc hs hm⟩
      case measure => simp [intOf]

end Go.Proofs.Ytpapiimiblefaaa

/- What enc.Lay, enc.Split and enc.Join return, and the chapter's examples. -/
namespace Go.Proofs.Ytpapiimiblefaaa
open Go.ChangeShapes Go.WideShapes Go.ChangeAt Go.RowKit
set_option linter.unusedVariables false

theorem from_ {P : Program} {f : FuncId} {args : Array Value} {w0 w : World} {v : Value} (h : Calls P f args w fun e w' => e = .returned v ∧ Below w.heap.size w w') (hb : Below w0.heap.size w0 w) :
    Calls P f args w fun e w' => e = .returned v ∧ Below w0.heap.size w0 w' :=
  h.mono fun _ _ ⟨a, b⟩ => ⟨a, hb.trans (b.mono hb.size)⟩

end Go.Proofs.Ytpapiimiblefaaa

/- What enc.Split and enc.Join return. -/
namespace Go.Proofs.Ytpapiimiblefaaa
open Go.ChangeShapes Go.WideShapes Go.ChangeAt Go.RowKit
set_option linter.unusedVariables false

/-- The six fields of a word. -/
def headV (x : Int) : Value := .agg #[.int .u32 (W.bitsOf x 0 7), .int .u32 (W.bitsOf x 7 5), .int .u32 (W.bitsOf x 12 3), .int .u32 (W.bitsOf x 15 5), .int .u32 (W.bitsOf x 20 5), .int .u32 (W.bitsOf x 25 7)]
theorem drewN_alloc' (w : World) (o : Obj) : Below w.heap.size w (w.alloc o) := (Below.refl _ _).alloc (Nat.le_refl _) _

set_option maxHeartbeats 1600000 in
theorem split_any (x : Int) (w : World) :
    Calls Try.prog 44 #[.int .u32 x] w fun e w' => e = .returned (headV x) ∧ Below w.heap.size w w' := by
  go_enter Try.func44, Try.ntmps44
  go_wp2_with (go_at_call 46; refine (bits_any _ _ _ _).mono ?_; rintro e w' ⟨rfl, kq, rfl⟩)
  exact bodyPost_ret (v := headV x) (by simp [results, Try.results44, go_sem]; rfl) rfl ⟨rfl, ((((((below_drewN ((Below.refl _ _).alloc (Nat.le_refl _) _) _).setCell (Nat.le_refl _) _).setCell (Nat.le_refl _) _).setCell (Nat.le_refl _) _).setCell (Nat.le_refl _) _).setCell (Nat.le_refl _) _).setCell (Nat.le_refl _) _⟩

/-- Six numbers, by their place. -/
def six (a b c d e f : Int) (j : Nat) : Int := [a, b, c, d, e, f].getD j 0
theorem six_cells (w : World) (t : TypeId) (a b c d e f : Int) :
    (∀ j, j < 6 → (w.alloc (.cells #[.int .i64 0, .int .i64 7, .int .u32 a, .int .i64 7, .int .i64 5, .int .u32 b, .int .i64 12, .int .i64 3, .int .u32 c, .int .i64 15, .int .i64 5, .int .u32 d, .int .i64 20, .int .i64 5, .int .u32 e, .int .i64 25, .int .i64 7, .int .u32 f] t)).cell? ⟨w.heap.size, 0 + j * 3, none⟩ = some (.int .i64 (W.hL j)))
    ∧ (∀ j, j < 6 → (w.alloc (.cells #[.int .i64 0, .int .i64 7, .int .u32 a, .int .i64 7, .int .i64 5, .int .u32 b, .int .i64 12, .int .i64 3, .int .u32 c, .int .i64 15, .int .i64 5, .int .u32 d, .int .i64 20, .int .i64 5, .int .u32 e, .int .i64 25, .int .i64 7, .int .u32 f] t)).cell? ⟨w.heap.size, 0 + j * 3 + 1, none⟩ = some (.int .i64 (W.hN j)))
    ∧ (∀ j, j < 6 → (w.alloc (.cells #[.int .i64 0, .int .i64 7, .int .u32 a, .int .i64 7, .int .i64 5, .int .u32 b, .int .i64 12, .int .i64 3, .int .u32 c, .int .i64 15, .int .i64 5, .int .u32 d, .int .i64 20, .int .i64 5, .int .u32 e, .int .i64 25, .int .i64 7, .int .u32 f] t)).cell? ⟨w.heap.size, 0 + j * 3 + 2, none⟩ = some (.int .u32 (six a b c d e f j))) := by
  refine ⟨?_, ?_, ?_⟩
  all_goals
    intro j hj
    match j, hj with
    | 0, _ | 1, _ | 2, _ | 3, _ | 4, _ | 5, _ => simp [go_sem, W.hL, W.hN, six]

end Go.Proofs.Ytpapiimiblefaaa

/- What the small functions of package isa return: a contract a function. -/
namespace Go.Proofs.Ytpapiimiblefaaa
open Go.ChangeShapes Go.WideShapes Go.ChangeAt Go.RowKit
set_option linter.unusedVariables false

def shV (s : W.Sh) : Value := .agg #[.int .u32 s.fixed, .bool s.rd, .bool s.rs1, .bool s.rs2, .bool s.csr, .bool s.ord, .int .u8 s.fmt, .int .i64 s.low, .int .i64 s.size]
def inV (i : W.I) : Value := .agg #[.int .i64 i.op, .int .i64 i.rd, .int .i64 i.rs1, .int .i64 i.rs2, .int .i64 i.csr, .int .u32 i.imm, .bool i.aq, .bool i.rl]
theorem ret_bool' {a b : Bool} (h : a = b) : Ending.returned (.bool a) = .returned (.bool b) := by rw [h]
def codesV : Value := .agg (W.codes.map fun z => Value.int .u32 z).toArray

theorem fr_any (a b c : Int) (w : World) :
    Calls Try.prog 39 #[.int .i64 a, .int .i64 b, .int .i64 c] w fun e w' => e = .returned (.bool (W.fr a b c)) ∧ w = w' := by
  by_cases h1 : a ≤ b
  · go_enter Try.func39, Try.ntmps39
    go_wp2
    go_ret
    exact ⟨by simp [W.fr, h1], rfl⟩
  · go_enter Try.func39, Try.ntmps39
    go_wp2
    go_ret
    exact ⟨by simp [W.fr]; omega, rfl⟩

theorem known_any (op : Int) (w : World) :
    Calls Try.prog 38 #[.int .i64 op] w fun e w' => e = .returned (.bool (W.known op)) ∧ w = w' := by
  go_enter Try.func38, Try.ntmps38
  go_wp2_with (go_at_call 39; refine (fr_any _ _ _ _).mono ?_; rintro e w' ⟨rfl, rfl⟩)
  go_ret
  exact ⟨rfl, rfl⟩

theorem hasImm_any (s : W.Sh) (w : World) :
    Calls Try.prog 52 #[shV s] w fun e w' => e = .returned (.bool (W.hasImm s)) ∧ Below w.heap.size w w' := by
  unfold shV
  cases h1 : (s.fmt != 0)
  · have hr : Hid (W.hasImm s = decide (0 < s.size)) := by
      have : W.hasImm s = decide (0 < s.size) := by simp [W.hasImm, W.hasI, h1]
      exact this
    go_enter Try.func52, Try.ntmps52
    go_wp2
    go_ret
    exact ⟨ret_bool' hr.out.symm, (Below.refl _ _).alloc (Nat.le_refl _) _⟩
  · have hr : Hid (W.hasImm s = true) := by
      have : W.hasImm s = true := by simp [W.hasImm, W.hasI, h1]
      exact this
    go_enter Try.func52, Try.ntmps52
    go_wp2
    go_ret
    exact ⟨ret_bool' hr.out.symm, (Below.refl _ _).alloc (Nat.le_refl _) _⟩

theorem immS_any (s : W.Sh) (x : Int) (w : World) :
    Calls Try.prog 47 #[shV s, .int .u32 x] w fun e w' => e = .returned (.int .u32 (W.immS s x)) ∧ Below w.heap.size w w' := by
  unfold shV
  have hb : Below w.heap.size w w := Below.refl _ _
  cases h1 : decide (0 < s.size)
  · have hr : Hid (W.immS s x = W.imm s.fmt x) := by
      have : W.immS s x = W.imm s.fmt x := by simp [W.immS, h1]
      exact this
    go_enter Try.func47, Try.ntmps47
    go_wp2_with (go_at_call 55; refine (from_ (imm_any _ _ _) (hb.alloc hb.size _)).mono ?_; clear hb; rintro e w' ⟨rfl, hb⟩)
    go_ret
    exact ⟨ret_int hr.out.symm, hb⟩
  · have hr : Hid (W.immS s x = W.bitsOf x s.low s.size) := by
      have : W.immS s x = W.bitsOf x s.low s.size := by simp [W.immS, h1]
      exact this
    go_enter Try.func47, Try.ntmps47
    go_wp2_with (go_at_call 46; refine (bits_any _ _ _ _).mono ?_; rintro e w' ⟨rfl, kq, rfl⟩)
    go_ret
    exact ⟨ret_int hr.out.symm, below_drewN (hb.alloc hb.size _) _⟩

end Go.Proofs.Ytpapiimiblefaaa

/- What the calls of package alu return: a contract a call, by instruction. -/
namespace Go.Proofs.Ytpapiimiblefaaa
open Go.ChangeShapes Go.WideShapes Go.ChangeAt Go.RowKit
set_option linter.unusedVariables false
set_option linter.unusedSimpArgs false

theorem wrap_word {b : Int} (b0 : 0 ≤ b) (b1 : b < 4294967296) : wrap64 b = b := by unfold wrap64; omega

end Go.Proofs.Ytpapiimiblefaaa
