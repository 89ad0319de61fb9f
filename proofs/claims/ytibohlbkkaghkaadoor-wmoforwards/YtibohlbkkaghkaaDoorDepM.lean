/- Rising lists; what an instruction has to do with memory: without any Go. -/
import Derived.Test.YtibohlbkkaghkaaDoorPlain
namespace Go.Proofs.YtibohlbkkaghkaaDoor.W
open Go.RowKit
set_option linter.unusedVariables false
set_option linter.unusedSimpArgs false

structure Sl where
  a : Option Addr
  n : Nat
  c : Nat
def Sl.nil : Sl := ⟨none, 0, 0⟩
def Rg (v : Int) : Prop := 0 ≤ v ∧ v < 4294967296

/-- Rising, each from 0 to below n. -/
def Rise (n : Int) (l : List Int) : Prop := l.Pairwise (· < ·) ∧ ∀ x ∈ l, 0 ≤ x ∧ x < n
theorem rise_nil (n : Int) : Rise n [] := ⟨List.Pairwise.nil, by simp⟩
theorem Rise.mono {n m : Int} {l : List Int} (h : Rise n l) (hm : n ≤ m) : Rise m l := ⟨h.1, fun x hx => ⟨(h.2 x hx).1, Int.lt_of_lt_of_le (h.2 x hx).2 hm⟩⟩
theorem rise_len : ∀ (l : List Int) (a b : Int), l.Pairwise (· < ·) → (∀ x ∈ l, a ≤ x ∧ x < b) → (l.length : Int) ≤ b - a ∨ l = []
  | [], _, _, _, _ => Or.inr rfl
  | x :: t, a, b, hp, hx => by
    left
    have h0 := hx x (by simp)
    rw [List.pairwise_cons] at hp
    rcases rise_len t (x + 1) b hp.2 (fun y hy => ⟨by have := hp.1 y hy; omega, (hx y (by simp [hy])).2⟩) with h | h
    · simp only [List.length_cons, Int.natCast_add]; omega
    · subst h; simp; omega
theorem Rise.len {n : Nat} {l : List Int} (h : Rise n l) : l.length ≤ n := by
  rcases rise_len l 0 n h.1 h.2 with h | h
  · omega
  · subst h; simp
/-- A rising list is known by what is in it. -/
theorem rise_eq : ∀ (l k : List Int), l.Pairwise (· < ·) → k.Pairwise (· < ·) → (∀ x, x ∈ l ↔ x ∈ k) → l = k
  | [], [], _, _, _ => rfl
  | [], y :: k, _, _, h => absurd ((h y).2 (by simp)) (by simp)
  | x :: l, [], _, _, h => absurd ((h x).1 (by simp)) (by simp)
  | x :: l, y :: k, hl, hk, h => by
    rw [List.pairwise_cons] at hl hk
    have e : x = y := by
      have h1 := (h x).1 (by simp)
      have h2 := (h y).2 (by simp)
      simp only [List.mem_cons] at h1 h2
      rcases h1 with h1 | h1
      · exact h1
      · rcases h2 with h2 | h2
        · exact h2.symm
        · have := hk.1 x h1; have := hl.1 y h2; omega
    subst e
    congr 1
    refine rise_eq l k hl.2 hk.2 fun z => ⟨fun hz => ?_, fun hz => ?_⟩
    · have h1 := (h z).1 (by simp [hz])
      simp only [List.mem_cons] at h1
      rcases h1 with h1 | h1
      · have := hl.1 z hz; omega
      · exact h1
    · have h1 := (h z).2 (by simp [hz])
      simp only [List.mem_cons] at h1
      rcases h1 with h1 | h1
      · have := hk.1 z hz; omega
      · exact h1
/-- Put among rising ones. -/
def insU (x : Int) : List Int → List Int
  | [] => [x]
  | y :: t => if x < y then x :: y :: t else if x = y then y :: t else y :: insU x t
theorem mem_insU (x z : Int) : ∀ l : List Int, z ∈ insU x l ↔ z = x ∨ z ∈ l
  | [] => by simp [insU]
  | y :: t => by
    unfold insU
    split
    · simp
    · split
      · rename_i h; subst h; simp
      · simp only [List.mem_cons, mem_insU x z t]
        constructor
        · rintro (h | h | h) <;> simp [h]
        · rintro (h | h | h) <;> simp [h]
theorem pw_insU (x : Int) : ∀ l : List Int, l.Pairwise (· < ·) → (insU x l).Pairwise (· < ·)
  | [], _ => by simp [insU]
  | y :: t, h => by
    rw [List.pairwise_cons] at h
    unfold insU
    split
    · rename_i hxy
      refine List.pairwise_cons.2 ⟨fun z hz => ?_, List.pairwise_cons.2 h⟩
      simp only [List.mem_cons] at hz
      rcases hz with rfl | hz
      · exact hxy
      · have := h.1 z hz; omega
    · split
      · exact List.pairwise_cons.2 h
      · refine List.pairwise_cons.2 ⟨fun z hz => ?_, pw_insU x t h.2⟩
        rcases (mem_insU x z t).1 hz with rfl | hz
        · omega
        · exact h.1 z hz
/-- What is in a or in b. -/
def uni (a b : List Int) : List Int := a.foldr insU b
theorem mem_uni (a b : List Int) (z : Int) : z ∈ uni a b ↔ z ∈ a ∨ z ∈ b := by
  induction a with
  | nil => simp [uni]
  | cons x t ih =>
    show z ∈ insU x (uni t b) ↔ _
    rw [mem_insU, ih]
    simp only [List.mem_cons]
    constructor
    · rintro (h | h | h) <;> simp [h]
    · rintro ((h | h) | h) <;> simp [h]
theorem pw_uni (a b : List Int) (hb : b.Pairwise (· < ·)) : (uni a b).Pairwise (· < ·) := by
  induction a with
  | nil => exact hb
  | cons x t ih => exact pw_insU x _ ih
theorem Rise.uni {n : Int} {a b : List Int} (ha : Rise n a) (hb : Rise n b) : Rise n (uni a b) :=
  ⟨pw_uni a b hb.1, fun x hx => ((mem_uni a b x).1 hx).elim (ha.2 x) (hb.2 x)⟩
theorem uni_nil_r {a : List Int} (ha : a.Pairwise (· < ·)) : uni a [] = a :=
  rise_eq _ _ (pw_uni a [] List.Pairwise.nil) ha fun x => by rw [mem_uni]; simp
theorem uni_nil_l (b : List Int) : uni [] b = b := rfl

theorem insU_len (x : Int) : ∀ l : List Int, (insU x l).length ≤ l.length + 1
  | [] => by simp [insU]
  | y :: t => by
    unfold insU
    have := insU_len x t
    split
    · simp
    · split
      · simp
      · simp; omega
theorem uni_len (a b : List Int) : (uni a b).length ≤ a.length + b.length := by
  induction a with
  | nil => simp [uni]
  | cons x t ih =>
    show (insU x (uni t b)).length ≤ _
    have := insU_len x (uni t b)
    simp only [List.length_cons]
    omega

/-- How many of a lie below v, from the left. -/
def bel (a : List Int) (v : Int) : Nat := (a.takeWhile fun x => decide (x < v)).length
theorem bel_cons (x : Int) (t : List Int) (v : Int) : bel (x :: t) v = if x < v then bel t v + 1 else 0 := by
  unfold bel
  rw [List.takeWhile_cons]
  by_cases h : x < v <;> simp [h]
theorem bel_le : ∀ (a : List Int) (v : Int), bel a v ≤ a.length
  | [], v => by simp [bel]
  | x :: t, v => by
    rw [bel_cons]
    have := bel_le t v
    split <;> simp <;> omega
theorem bel_lt : ∀ (a : List Int) (v : Int) (j : Nat) (x : Int), j < bel a v → a[j]? = some x → x < v
  | [], v, j, x, h, _ => by simp [bel] at h
  | y :: t, v, j, x, h, hx => by
    rw [bel_cons] at h
    split at h
    · rename_i hy
      match j, h, hx with
      | 0, _, hx => simp at hx; omega
      | j + 1, h, hx => exact bel_lt t v j x (by omega) (by simpa using hx)
    · omega
theorem bel_at : ∀ (a : List Int) (v : Int) (x : Int), a[bel a v]? = some x → ¬ x < v
  | [], v, x, h => by simp at h
  | y :: t, v, x, h => by
    rw [bel_cons] at h
    split at h
    · exact bel_at t v x (by simpa using h)
    · rename_i hy
      simp at h
      omega
/-- The one round of the merge: what stays of a. -/
def cutH (a : List Int) (y : Int) : List Int := match a with | [] => [] | x :: t => if x = y then t else x :: t
/-- What the merge keeps true. -/
structure Mg (A B all a b : List Int) : Prop where
  pa : a.Pairwise (· < ·)
  pb : b.Pairwise (· < ·)
  pl : all.Pairwise (· < ·)
  la : ∀ x ∈ all, ∀ y ∈ a, x < y
  lb : ∀ x ∈ all, ∀ y ∈ b, x < y
  me : ∀ x, (x ∈ all ∨ x ∈ a ∨ x ∈ b) ↔ (x ∈ A ∨ x ∈ B)
  ne : a ≠ []
theorem mem_cutH (a : List Int) (y x : Int) (h : x ∈ cutH a y) : x ∈ a := by
  unfold cutH at h
  split at h
  · exact h
  · split at h
    · simp [h]
    · exact h
theorem mem_cutH' (a : List Int) (y x : Int) (h : x ∈ a) : x = y ∨ x ∈ cutH a y := by
  unfold cutH
  split
  · exact Or.inr h
  · split
    · rename_i e
      simp only [List.mem_cons] at h
      rcases h with h | h
      · exact Or.inl (h.trans e)
      · exact Or.inr h
    · exact Or.inr h
theorem pw_cutH (a : List Int) (y : Int) (h : a.Pairwise (· < ·)) : (cutH a y).Pairwise (· < ·) := by
  unfold cutH
  split
  · exact h
  · split
    · exact (List.pairwise_cons.1 h).2
    · exact h
theorem Mg.step {A B all a b : List Int} {y : Int} (h : Mg A B all a (y :: b)) : Mg A B (all ++ a.take (bel a y)) (y :: b) (cutH (a.drop (bel a y)) y) := by
  have hp : (a.take (bel a y) ++ a.drop (bel a y)).Pairwise (· < ·) := by rw [List.take_append_drop]; exact h.pa
  rw [List.pairwise_append] at hp
  have hm : ∀ x, x ∈ a ↔ x ∈ a.take (bel a y) ∨ x ∈ a.drop (bel a y) := fun x => by
    conv => lhs; rw [← List.take_append_drop (bel a y) a]
    exact List.mem_append
  have hlt : ∀ x ∈ a.take (bel a y), x < y := fun x hx => by
    obtain ⟨j, hj, e⟩ := List.getElem_of_mem hx
    rw [List.length_take] at hj
    refine bel_lt a y j x (by omega) ?_
    rw [List.getElem_take] at e
    rw [List.getElem?_eq_getElem (by omega), e]
  have pb := List.pairwise_cons.1 h.pb
  refine ⟨h.pb, pw_cutH _ _ hp.2.1, List.pairwise_append.2 ⟨h.pl, hp.1, fun x hx z hz => h.la x hx z ((hm z).2 (Or.inl hz))⟩, fun x hx z hz => ?_, fun x hx z hz => ?_, fun x => ?_, by simp⟩
  · rcases List.mem_append.1 hx with hx | hx
    · exact h.lb x hx z hz
    · have := hlt x hx
      simp only [List.mem_cons] at hz
      rcases hz with rfl | hz
      · exact this
      · have := pb.1 z hz; omega
  · have hz' := mem_cutH _ _ _ hz
    rcases List.mem_append.1 hx with hx | hx
    · exact h.la x hx z ((hm z).2 (Or.inr hz'))
    · exact hp.2.2 x hx z hz'
  · rw [← h.me x, hm x, List.mem_append]
    constructor
    · rintro ((h1 | h1) | h1 | h1)
      · exact Or.inl h1
      · exact Or.inr (Or.inl (Or.inl h1))
      · exact Or.inr (Or.inr h1)
      · exact Or.inr (Or.inl (Or.inr (mem_cutH _ _ _ h1)))
    · rintro (h1 | (h1 | h1) | h1)
      · exact Or.inl (Or.inl h1)
      · exact Or.inl (Or.inr h1)
      · rcases mem_cutH' _ y _ h1 with h2 | h2
        · exact Or.inr (Or.inl (by simp [h2]))
        · exact Or.inr (Or.inr h2)
      · exact Or.inr (Or.inl h1)
theorem Mg.done {A B all a : List Int} (hB : B.Pairwise (· < ·)) (h : Mg A B all a []) : all ++ a = uni A B := by
  refine rise_eq _ _ (List.pairwise_append.2 ⟨h.pl, h.pa, h.la⟩) (pw_uni A B hB) fun x => ?_
  rw [mem_uni, ← h.me x, List.mem_append]
  simp
theorem Mg.start {A B : List Int} (hA : A.Pairwise (· < ·)) (hB : B.Pairwise (· < ·)) (ne : A ≠ []) : Mg A B [] A B :=
  ⟨hA, hB, List.Pairwise.nil, by simp, by simp, by simp, ne⟩
theorem cutH_len (a : List Int) (y : Int) : (cutH a y).length ≤ a.length := by
  unfold cutH
  split
  · simp
  · split <;> simp
end Go.Proofs.YtibohlbkkaghkaaDoor.W
