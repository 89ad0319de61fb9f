/- Texts in one: Plain, DepM, Word, Math. -/
import Derived.RowKit
import Derived.IntWalk
import Derived.Laws.BitsAllLaws
import Derived.Test.YtopehmpjfndgjaaRows
import Derived.WalkKit
import Derived.ProofKit
import Derived.OpenShut
import Derived.Deep.QuietTactic
import Derived.BigQuiet

/- Plain mirrors of package word's functions on numbers, without any Go: what each call comes to; their laws stand behind. -/
namespace Go.Proofs.Ytopehmpjfndgjaa.W
open Go.RowKit

/-- The number that a stands for, with its sign or without. -/
def wide (a : Int) (s : Bool) : Int := wrap64 (bif s then wrap32 a else a)
def less (a b : Int) (s : Bool) : Bool := decide (wide a s < wide b s)
def right (a n : Int) (s : Bool) : Int := wide a s / 2 ^ (n % 32).toNat % 4294967296
def left (a n : Int) : Int := a * 2 ^ (n % 32).toNat % 4294967296
def sgn (a n : Int) : Int := if n < 1 then 0 else if 31 < n then a else wrap32 (a * 2 ^ (32 - n).toNat % 4294967296) / 2 ^ (32 - n).toNat % 4294967296
def within (low n : Int) : Bool := decide (0 ≤ low) && (decide (low ≤ 31) && decide (1 ≤ n))
def lowest (n : Int) : Int := if 31 < n then 4294967295 else (2 ^ n.toNat % 4294967296 - 1) % 4294967296
def bitsOf (x low n : Int) : Int := bif within low n then bits .and .u32 (x / 2 ^ low.toNat) (lowest n) else 0

def high (a b : Int) (s t : Bool) : Int := IntKind.u64.wrap (wrap64 (wide a s * wide b t)) / 4294967296 % 4294967296
def div (a b : Int) (s : Bool) : Int := if b = 0 then 4294967295 else wrap64 ((wide a s).tdiv (wide b s)) % 4294967296
def rem (a b : Int) (s : Bool) : Int := if b = 0 then a else (wide a s).tmod (wide b s) % 4294967296
def place (v low n : Int) : Int := bits .and .u32 v (lowest n) * 2 ^ low.toNat % 4294967296
def pack (L N V : Nat → Int) : Nat → Int
  | 0 => 0
  | k + 1 => bif within (L k) (N k) then bits .or .u32 (pack L N V k) (place (V k) (L k) (N k)) else pack L N V k

/-- The fields of the chapter's example. -/
def exL (j : Nat) : Int := if j = 0 then 0 else 7
def exN (j : Nat) : Int := if j = 0 then 7 else 5
def exV (j : Nat) : Int := if j = 0 then 19 else 1

theorem and31 (n : Int) : bits .and .i64 n 31 = n % 32 := by
  have h : ((BitVec.ofInt 64 n &&& BitVec.ofInt 64 31 : BitVec 64).toNat : Int) = n % 32 := by
    rw [BitVec.toNat_and]
    have h31 : (BitVec.ofInt 64 31).toNat = 31 := by decide
    rw [h31, nat_mask5, BitVec.toNat_ofInt]
    simp
    omega
  show IntKind.i64.wrap ((BitVec.ofInt 64 n &&& BitVec.ofInt 64 31 : BitVec 64).toNat : Int) = n % 32
  rw [h]
  exact IntWalk.i64_in _ (by omega)

theorem wide_ne (b : Int) (s : Bool) (h0 : 0 ≤ b) (h1 : b < 4294967296) (hb : ¬ b = 0) : ¬ wide b s = 0 := by
  cases s
  · simp only [wide, cond_false, wrap64]; omega
  · simp only [wide, cond_true, wrap64, wrap32]; omega
end Go.Proofs.Ytopehmpjfndgjaa.W

/- Rising lists; what an instruction has to do with memory: without any Go. -/
namespace Go.Proofs.Ytopehmpjfndgjaa.W
open Go.RowKit
set_option linter.unusedVariables false
set_option linter.unusedSimpArgs false

structure Sl where
  a : Option Addr
  n : Nat
  c : Nat
def Sl.nil : Sl := ⟨none, 0, 0⟩
def Rg (v : Int) : Prop := 0 ≤ v ∧ v < 4294967296

/-- Rising, each from 0 to below n. -/
def Rise (n : Int) (l : List Int) : Prop := l.Pairwise (· < ·) ∧ ∀ x ∈ l, 0 ≤ x ∧ x < n
theorem rise_nil (n : Int) : Rise n [] := ⟨List.Pairwise.nil, by simp⟩
theorem Rise.mono {n m : Int} {l : List Int} (h : Rise n l) (hm : n ≤ m) : Rise m l := ⟨h.1, fun x hx => ⟨(h.2 x hx).1, Int.lt_of_lt_of_le (h.2 x hx).2 hm⟩⟩
theorem rise_len : ∀ (l : List Int) (a b : Int), l.Pairwise (· < ·) → (∀ x ∈ l, a ≤ x ∧ x < b) → (l.length : Int) ≤ b - a ∨ l = []
  | [], _, _, _, _ => Or.inr rfl
  | x :: t, a, b, hp, hx => by
    left
    have h0 := hx x (by simp)
    rw [List.pairwise_cons] at hp
    rcases rise_len t (x + 1) b hp.2 (fun y hy => ⟨by have := hp.1 y hy; omega, (hx y (by simp [hy])).2⟩) with h | h
    · simp only [List.length_cons, Int.natCast_add]; omega
    · subst h; simp; omega
theorem Rise.len {n : Nat} {l : List Int} (h : Rise n l) : l.length ≤ n := by
  rcases rise_len l 0 n h.1 h.2 with h | h
  · omega
  · subst h; simp
/-- A rising list is known by what is in it. -/
theorem rise_eq : ∀ (l k : List Int), l.Pairwise (· < ·) → k.Pairwise (· < ·) → (∀ x, x ∈ l ↔ x ∈ k) → l = k
  | [], [], _, _, _ => rfl
  | [], y :: k, _, _, h => absurd ((h y).2 (by simp)) (by simp)
  | x :: l, [], _, _, h => absurd ((h x).1 (by simp)) (by simp)
  | x :: l, y :: k, hl, hk, h => by
    rw [List.pairwise_cons] at hl hk
    have e : x = y := by
      have h1 := (h x).1 (by simp)
      have h2 := (h y).2 (by simp)
      simp only [List.mem_cons] at h1 h2
      rcases h1 with h1 | h1
      · exact h1
      · rcases h2 with h2 | h2
        · exact h2.symm
        · have := hk.1 x h1; have := hl.1 y h2; omega
    subst e
    congr 1
    refine rise_eq l k hl.2 hk.2 fun z => ⟨fun hz => ?_, fun hz => ?_⟩
    · have h1 := (h z).1 (by simp [hz])
      simp only [List.mem_cons] at h1
      rcases h1 with h1 | h1
      · have := hl.1 z hz; omega
      · exact h1
    · have h1 := (h z).2 (by simp [hz])
      simp only [List.mem_cons] at h1
      rcases h1 with h1 | h1
      · have := hk.1 z hz; omega
      · exact h1
/-- Put among rising ones. -/
def insU (x : Int) : List Int → List Int
  | [] => [x]
  | y :: t => if x < y then x :: y :: t else if x = y then y :: t else y :: insU x t
theorem mem_insU (x z : Int) : ∀ l : List Int, z ∈ insU x l ↔ z = x ∨ z ∈ l
  | [] => by simp [insU]
  | y :: t => by
    unfold insU
    split
    · simp
    · split
      · rename_i h; subst h; simp
      · simp only [List.mem_cons, mem_insU x z t]
        constructor
        · rintro (h | h | h) <;> simp [h]
        · rintro (h | h | h) <;> simp [h]
theorem pw_insU (x : Int) : ∀ l : List Int, l.Pairwise (· < ·) → (insU x l).Pairwise (· < ·)
  | [], _ => by simp [insU]
  | y :: t, h => by
    rw [List.pairwise_cons] at h
    unfold insU
    split
    · rename_i hxy
      refine List.pairwise_cons.2 ⟨fun z hz => ?_, List.pairwise_cons.2 h⟩
      simp only [List.mem_cons] at hz
      rcases hz with rfl | hz
      · exact hxy
      · have := h.1 z hz; omega
    · split
      · exact List.pairwise_cons.2 h
      · refine List.pairwise_cons.2 ⟨fun z hz => ?_, pw_insU x t h.2⟩
        rcases (mem_insU x z t).1 hz with rfl | hz
        · omega
        · exact h.1 z hz
/-- What is in a or in b. -/
def uni (a b : List Int) : List Int := a.foldr insU b
theorem mem_uni (a b : List Int) (z : Int) : z ∈ uni a b ↔ z ∈ a ∨ z ∈ b := by
  induction a with
  | nil => simp [uni]
  | cons x t ih =>
    show z ∈ insU x (uni t b) ↔ _
    rw [mem_insU, ih]
    simp only [List.mem_cons]
    constructor
    · rintro (h | h | h) <;> simp [h]
    · rintro ((h | h) | h) <;> simp [h]
theorem pw_uni (a b : List Int) (hb : b.Pairwise (· < ·)) : (uni a b).Pairwise (· < ·) := by
  induction a with
  | nil => exact hb
  | cons x t ih => exact pw_insU x _ ih
theorem Rise.uni {n : Int} {a b : List Int} (ha : Rise n a) (hb : Rise n b) : Rise n (uni a b) :=
  ⟨pw_uni a b hb.1, fun x hx => ((mem_uni a b x).1 hx).elim (ha.2 x) (hb.2 x)⟩
theorem uni_nil_r {a : List Int} (ha : a.Pairwise (· < ·)) : uni a [] = a :=
  rise_eq _ _ (pw_uni a [] List.Pairwise.nil) ha fun x => by rw [mem_uni]; simp
theorem uni_nil_l (b : List Int) : uni [] b = b := rfl

theorem insU_len (x : Int) : ∀ l : List Int, (insU x l).length ≤ l.length + 1
  | [] => by simp [insU]
  | y :: t => by
    unfold insU
    have := insU_len x t
    split
    · simp
    · split
      · simp
      · simp; omega
theorem uni_len (a b : List Int) : (uni a b).length ≤ a.length + b.length := by
  induction a with
  | nil => simp [uni]
  | cons x t ih =>
    show (insU x (uni t b)).length ≤ _
    have := insU_len x (uni t b)
    simp only [List.length_cons]
    omega

/-- How many of a lie below v, from the left. -/
def bel (a : List Int) (v : Int) : Nat := (a.takeWhile fun x => decide (x < v)).length
theorem bel_cons (x : Int) (t : List Int) (v : Int) : bel (x :: t) v = if x < v then bel t v + 1 else 0 := by
  unfold bel
  rw [List.takeWhile_cons]
  by_cases h : x < v <;> simp [h]
theorem bel_le : ∀ (a : List Int) (v : Int), bel a v ≤ a.length
  | [], v => by simp [bel]
  | x :: t, v => by
    rw [bel_cons]
    have := bel_le t v
    split <;> simp <;> omega
theorem bel_lt : ∀ (a : List Int) (v : Int) (j : Nat) (x : Int), j < bel a v → a[j]? = some x → x < v
  | [], v, j, x, h, _ => by simp [bel] at h
  | y :: t, v, j, x, h, hx => by
    rw [bel_cons] at h
    split at h
    · rename_i hy
      match j, h, hx with
      | 0, _, hx => simp at hx; omega
      | j + 1, h, hx => exact bel_lt t v j x (by omega) (by simpa using hx)
    · omega
theorem bel_at : ∀ (a : List Int) (v : Int) (x : Int), a[bel a v]? = some x → ¬ x < v
  | [], v, x, h => by simp at h
  | y :: t, v, x, h => by
    rw [bel_cons] at h
    split at h
    · exact bel_at t v x (by simpa using h)
    · rename_i hy
      simp at h
      omega
/-- The one round of the merge: what stays of a. -/
def cutH (a : List Int) (y : Int) : List Int := match a with | [] => [] | x :: t => if x = y then t else x :: t
/-- What the merge keeps true. -/
structure Mg (A B all a b : List Int) : Prop where
  pa : a.Pairwise (· < ·)
  pb : b.Pairwise (· < ·)
  pl : all.Pairwise (· < ·)
  la : ∀ x ∈ all, ∀ y ∈ a, x < y
  lb : ∀ x ∈ all, ∀ y ∈ b, x < y
  me : ∀ x, (x ∈ all ∨ x ∈ a ∨ x ∈ b) ↔ (x ∈ A ∨ x ∈ B)
  ne : a ≠ []
theorem mem_cutH (a : List Int) (y x : Int) (h : x ∈ cutH a y) : x ∈ a := by
  unfold cutH at h
  split at h
  · exact h
  · split at h
    · simp [h]
    · exact h
theorem mem_cutH' (a : List Int) (y x : Int) (h : x ∈ a) : x = y ∨ x ∈ cutH a y := by
  unfold cutH
  split
  · exact Or.inr h
  · split
    · rename_i e
      simp only [List.mem_cons] at h
      rcases h with h | h
      · exact Or.inl (h.trans e)
      · exact Or.inr h
    · exact Or.inr h
theorem pw_cutH (a : List Int) (y : Int) (h : a.Pairwise (· < ·)) : (cutH a y).Pairwise (· < ·) := by
  unfold cutH
  split
  · exact h
  · split
    · exact (List.pairwise_cons.1 h).2
    · exact h
theorem Mg.step {A B all a b : List Int} {y : Int} (h : Mg A B all a (y :: b)) : Mg A B (all ++ a.take (bel a y)) (y :: b) (cutH (a.drop (bel a y)) y) := by
  have hp : (a.take (bel a y) ++ a.drop (bel a y)).Pairwise (· < ·) := by rw [List.take_append_drop]; exact h.pa
  rw [List.pairwise_append] at hp
  have hm : ∀ x, x ∈ a ↔ x ∈ a.take (bel a y) ∨ x ∈ a.drop (bel a y) := fun x => by
    conv => lhs; rw [← List.take_append_drop (bel a y) a]
    exact List.mem_append
  have hlt : ∀ x ∈ a.take (bel a y), x < y := fun x hx => by
    obtain ⟨j, hj, e⟩ := List.getElem_of_mem hx
    rw [List.length_take] at hj
    refine bel_lt a y j x (by omega) ?_
    rw [List.getElem_take] at e
    rw [List.getElem?_eq_getElem (by omega), e]
  have pb := List.pairwise_cons.1 h.pb
  refine ⟨h.pb, pw_cutH _ _ hp.2.1, List.pairwise_append.2 ⟨h.pl, hp.1, fun x hx z hz => h.la x hx z ((hm z).2 (Or.inl hz))⟩, fun x hx z hz => ?_, fun x hx z hz => ?_, fun x => ?_, by simp⟩
  · rcases List.mem_append.1 hx with hx | hx
    · exact h.lb x hx z hz
    · have := hlt x hx
      simp only [List.mem_cons] at hz
      rcases hz with rfl | hz
      · exact this
      · have := pb.1 z hz; omega
  · have hz' := mem_cutH _ _ _ hz
    rcases List.mem_append.1 hx with hx | hx
    · exact h.la x hx z ((hm z).2 (Or.inr hz'))
    · exact hp.2.2 x hx z hz'
  · rw [← h.me x, hm x, List.mem_append]
    constructor
    · rintro ((h1 | h1) | h1 | h1)
      · exact Or.inl h1
      · exact Or.inr (Or.inl (Or.inl h1))
      · exact Or.inr (Or.inr h1)
      · exact Or.inr (Or.inl (Or.inr (mem_cutH _ _ _ h1)))
    · rintro (h1 | (h1 | h1) | h1)
      · exact Or.inl (Or.inl h1)
      · exact Or.inl (Or.inr h1)
      · rcases mem_cutH' _ y _ h1 with h2 | h2
        · exact Or.inr (Or.inl (by simp [h2]))
        · exact Or.inr (Or.inr h2)
      · exact Or.inr (Or.inl h1)
theorem Mg.done {A B all a : List Int} (hB : B.Pairwise (· < ·)) (h : Mg A B all a []) : all ++ a = uni A B := by
  refine rise_eq _ _ (List.pairwise_append.2 ⟨h.pl, h.pa, h.la⟩) (pw_uni A B hB) fun x => ?_
  rw [mem_uni, ← h.me x, List.mem_append]
  simp
theorem Mg.start {A B : List Int} (hA : A.Pairwise (· < ·)) (hB : B.Pairwise (· < ·)) (ne : A ≠ []) : Mg A B [] A B :=
  ⟨hA, hB, List.Pairwise.nil, by simp, by simp, by simp, ne⟩
theorem cutH_len (a : List Int) (y : Int) : (cutH a y).length ≤ a.length := by
  unfold cutH
  split
  · simp
  · split <;> simp
end Go.Proofs.Ytopehmpjfndgjaa.W

/- What each function of package word returns, as a plain function of its numbers: a contract a function. -/
namespace Go.Proofs.Ytopehmpjfndgjaa
open Go.ChangeShapes Go.WideShapes Go.ChangeAt Go.RowKit

theorem ret_int {k : IntKind} {a b : Int} (h : a = b) : Ending.returned (.int k a) = .returned (.int k b) := by rw [h]

theorem sgn_any (a n : Int) (w : World) :
    Calls Try.prog 60 #[.int .u32 a, .int .i64 n] w fun e w' => e = .returned (.int .u32 (W.sgn a n)) ∧ w = w' := by
  by_cases h1 : n < 1
  · go_enter Try.func60, Try.ntmps60
    go_wp2
    go_ret
    exact ⟨ret_int (by rw [W.sgn, if_pos h1]), rfl⟩
  · by_cases h2 : 31 < n
    · go_enter Try.func60, Try.ntmps60
      go_wp2
      go_ret
      exact ⟨ret_int (by rw [W.sgn, if_neg (by omega), if_pos (by omega)]), rfl⟩
    · go_enter Try.func60, Try.ntmps60
      go_wp2
      go_ret
      exact ⟨ret_int (by rw [W.sgn, if_neg (by omega), if_neg (by omega)]), rfl⟩

theorem within_any (low n : Int) (w : World) :
    Calls Try.prog 53 #[.int .i64 low, .int .i64 n] w fun e w' => e = .returned (.bool (W.within low n)) ∧ w' = w := by
  by_cases h1 : 0 ≤ low
  · by_cases h2 : low ≤ 31
    · go_enter Try.func53, Try.ntmps53
      go_wp2
      go_ret
      exact ⟨by simp [W.within, h1, h2], rfl⟩
    · go_enter Try.func53, Try.ntmps53
      go_wp2
      go_ret
      exact ⟨by simp [W.within]; omega, rfl⟩
  · go_enter Try.func53, Try.ntmps53
    go_wp2
    go_ret
    exact ⟨by simp [W.within]; omega, rfl⟩

theorem lowest_any (n : Int) (h : 1 ≤ n) (w : World) :
    Calls Try.prog 54 #[.int .i64 n] w fun e w' => e = .returned (.int .u32 (W.lowest n)) ∧ w' = w := by
  by_cases h2 : 31 < n
  · go_enter Try.func54, Try.ntmps54
    go_wp2
    go_ret
    exact ⟨ret_int (by rw [W.lowest, if_pos h2]), rfl⟩
  · go_enter Try.func54, Try.ntmps54
    go_wp2
    go_ret
    exact ⟨ret_int (by rw [W.lowest, if_neg (by omega)]; simp), rfl⟩

theorem bits_any (x low n : Int) (w : World) :
    Calls Try.prog 46 #[.int .u32 x, .int .i64 low, .int .i64 n] w fun e w' => e = .returned (.int .u32 (W.bitsOf x low n)) ∧ ∃ k, w' = w.drewN k := by
  cases hw : W.within low n
  · have hb : W.bitsOf x low n = 0 := by rw [W.bitsOf, hw]; rfl
    go_enter Try.func46, Try.ntmps46
    go_wp2_with (go_at_call 53; refine (within_any _ _ _).mono ?_; rintro e w' ⟨rfl, rfl⟩)
    go_ret
    exact ⟨ret_int hb.symm, 0, rfl⟩
  · have h1 : 0 ≤ low ∧ low ≤ 31 ∧ 1 ≤ n := by simpa [W.within] using hw
    obtain ⟨h1, h2, h3⟩ := h1
    have hb : Hid (W.bitsOf x low n = bits .and .u32 (x / 2 ^ low.toNat) (W.lowest n)) := by
      have : W.bitsOf x low n = bits .and .u32 (x / 2 ^ low.toNat) (W.lowest n) := by rw [W.bitsOf, hw]; rfl
      exact this
    go_enter Try.func46, Try.ntmps46
    go_wp2_with (go_at_call 53; refine (within_any _ _ _).mono ?_; rintro e w' ⟨rfl, rfl⟩)
    go_quiet ((go_at_call 54; exact Calls.quiet_of_same (lowest_any _ h3 _)))
    go_wp2
    go_ret
    exact ⟨ret_int hb.out.symm, _, rfl⟩

end Go.Proofs.Ytopehmpjfndgjaa

/- Laws of the plain mirrors, for words (0 to 2^32 - 1): what the parts and shifts come to in sums, quotients and rests. -/
namespace Go.Proofs.Ytopehmpjfndgjaa.W
open Go.RowKit
set_option linter.unusedVariables false

theorem cases31 (k : Int) (h0 : 0 ≤ k) (h1 : k ≤ 31) : k = 0 ∨ k = 1 ∨ k = 2 ∨ k = 3 ∨ k = 4 ∨ k = 5 ∨ k = 6 ∨ k = 7 ∨ k = 8 ∨ k = 9 ∨ k = 10 ∨ k = 11 ∨ k = 12 ∨ k = 13 ∨ k = 14 ∨ k = 15 ∨ k = 16 ∨ k = 17 ∨ k = 18 ∨ k = 19 ∨ k = 20 ∨ k = 21 ∨ k = 22 ∨ k = 23 ∨ k = 24 ∨ k = 25 ∨ k = 26 ∨ k = 27 ∨ k = 28 ∨ k = 29 ∨ k = 30 ∨ k = 31 := by omega

theorem pow_le32 (m : Nat) (h : m ≤ 32) : (2 : Nat) ^ m ≤ 4294967296 := by
  have := Nat.pow_le_pow_right (n := 2) (by decide) h
  simpa using this

theorem wide_f (a : Int) (h0 : 0 ≤ a) (h1 : a < 4294967296) : wide a false = a := by
  simp only [wide, cond_false, wrap64]; omega
theorem wide_t (a : Int) (h0 : 0 ≤ a) (h1 : a < 4294967296) : wide a true = if a < 2147483648 then a else a - 4294967296 := by
  simp only [wide, cond_true, wrap64, wrap32]; split <;> omega

theorem low_and (a : Int) (m : Nat) (hm : m ≤ 32) (h0 : 0 ≤ a) (h1 : a < 4294967296) : bits .and .u32 a (2 ^ m - 1) = a % 2 ^ m := by
  have hp := pow_le32 m hm
  have hq : 1 ≤ (2 : Nat) ^ m := Nat.one_le_two_pow
  have e : ((2 : Int) ^ m - 1) = ((2 ^ m - 1 : Nat) : Int) := by
    rw [Int.ofNat_sub hq]; simp
  obtain ⟨x, rfl⟩ := Int.eq_ofNat_of_zero_le h0
  rw [e, u32_and_nat x (2 ^ m - 1) (by omega) (by omega), Nat.and_two_pow_sub_one_eq_mod]
  simp

theorem lowest_eq (n : Int) (h : 1 ≤ n) : lowest n = 2 ^ (min n.toNat 32) - 1 := by
  unfold lowest
  split
  · have e : min n.toNat 32 = 32 := by omega
    rw [e]; rfl
  · have e : min n.toNat 32 = n.toNat := by omega
    rw [e]
    have hp := Nat.pow_le_pow_right (n := 2) (by decide) (show n.toNat ≤ 31 by omega)
    have hq : 1 ≤ (2 : Nat) ^ n.toNat := Nat.one_le_two_pow
    have e2 : ((2 : Int) ^ n.toNat) = ((2 ^ n.toNat : Nat) : Int) := by simp
    rw [e2]
    omega

theorem bitsOf_eq (x low n : Int) (h0 : 0 ≤ x) (h1 : x < 4294967296) (l0 : 0 ≤ low) (l1 : low ≤ 31) (hn : 1 ≤ n) :
    bitsOf x low n = x / 2 ^ low.toNat % 2 ^ (min n.toNat 32) := by
  have hw : within low n = true := by simp [within, l0, l1, hn]
  rw [bitsOf, hw, cond_true, lowest_eq n hn]
  have hq : (0 : Int) < 2 ^ low.toNat := Int.pow_pos (by decide)
  refine low_and _ _ (by omega) (Int.ediv_nonneg h0 (by omega)) ?_
  have := Int.ediv_le_self (2 ^ low.toNat) h0
  omega
theorem bitsOf_out (x low n : Int) (h : low < 0 ∨ 31 < low ∨ n < 1) : bitsOf x low n = 0 := by
  have hw : within low n = false := by
    simp [within]; omega
  rw [bitsOf, hw, cond_false]

theorem left_lt (x n : Int) : 0 ≤ left x n ∧ left x n < 4294967296 := by unfold left; omega
theorem right_lt (x n : Int) (s : Bool) : 0 ≤ right x n s ∧ right x n s < 4294967296 := by unfold right; omega

theorem left_mod (x n : Int) : left x n = left x (n % 32) := by unfold left; rw [Int.emod_emod_of_dvd n (Int.dvd_refl 32)]
theorem right_mod (x n : Int) (s : Bool) : right x n s = right x (n % 32) s := by unfold right; rw [Int.emod_emod_of_dvd n (Int.dvd_refl 32)]

theorem sh_bits (x k : Int) (h0 : 0 ≤ x) (h1 : x < 4294967296) (k0 : 0 < k) (k1 : k ≤ 31) : right (left x k) k false = bitsOf x 0 (32 - k) := by
  rw [bitsOf_eq x 0 (32 - k) h0 h1 (by omega) (by omega) (by omega), show min (32 - k).toNat 32 = (32 - k).toNat from by omega]
  have hl := left_lt x k
  unfold right
  rw [wide_f _ hl.1 hl.2]
  unfold left
  rcases cases31 k (by omega) k1 with rfl | rfl | rfl | rfl | rfl | rfl | rfl | rfl | rfl | rfl | rfl | rfl | rfl | rfl | rfl | rfl | rfl | rfl | rfl | rfl | rfl | rfl | rfl | rfl | rfl | rfl | rfl | rfl | rfl | rfl | rfl | rfl
  all_goals simp only [Int.reduceToNat, Int.reducePow, Int.reduceMod, Int.reduceSub]; omega

theorem wide_w (a : Int) : wide a true = wrap32 a := by
  simp only [wide, cond_true, wrap64, wrap32]; omega
theorem sh_sgn (x k : Int) (k0 : 0 < k) (k1 : k ≤ 31) : right (left x k) k true = sgn x (32 - k) := by
  unfold right sgn
  rw [wide_w, if_neg (by omega), if_neg (by omega), show (32 : Int) - (32 - k) = k from by omega]
  unfold left
  rw [show k % 32 = k from by omega]

theorem and1 (x : Int) (h0 : 0 ≤ x) (h1 : x < 4294967296) : bits .and .u32 x 1 = x % 2 := low_and x 1 (by decide) h0 h1

theorem halves (x : Int) (h0 : 0 ≤ x) (h1 : x < 4294967296) : (right x 1 true + right x 1 true + bits .and .u32 x 1) % 4294967296 = x := by
  rw [and1 x h0 h1]
  unfold right
  rw [wide_t x h0 h1]
  simp only [Int.reduceToNat, Int.reducePow, Int.reduceMod]
  split <;> omega

theorem half_sign (x : Int) (h0 : 0 ≤ x) (h1 : x < 4294967296) : less (right x 1 true) 0 true = less x 0 true := by
  have hr := right_lt x 1 true
  unfold less
  rw [wide_t _ hr.1 hr.2, wide_t x h0 h1, wide_t 0 (by decide) (by decide)]
  unfold right
  rw [wide_t x h0 h1]
  simp only [Int.reduceToNat, Int.reducePow, Int.reduceMod]
  rw [decide_eq_decide]
  by_cases hx : x < 2147483648
  · rw [if_pos hx]; split <;> simp <;> omega
  · rw [if_neg hx]; split <;> simp <;> omega
end Go.Proofs.Ytopehmpjfndgjaa.W
