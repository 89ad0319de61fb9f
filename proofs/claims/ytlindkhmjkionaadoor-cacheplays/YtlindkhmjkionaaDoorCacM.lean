/- cache: entries as numbers; lists of entries. -/
import Derived.WalkKit
namespace Go.Proofs.YtlindkhmjkionaaDoor
set_option linter.unusedVariables false
set_option linter.unusedSimpArgs false

namespace W
structure En where
  l : Int
  s : Int
  d0 : Int
  d1 : Int
  d2 : Int
  d3 : Int
deriving DecidableEq
def en0 : En := ⟨0, 0, 0, 0, 0, 0⟩
/-- Has it this line? -/
def is (x : Int) (e : En) : Bool := decide (e.l = x)
def fnd (l : List En) (x : Int) : Option En := l.find? (is x)
def drp (l : List En) (x : Int) : List En := l.eraseP (is x)
def has (l : List En) (x : Int) : Bool := l.any (is x)
def lst (l : List En) (e : En) : List En := drp l e.l ++ [e]
def updS (S : Nat → List En) (k : Nat) (v : List En) : Nat → List En := fun j => if j = k then v else S j
theorem updS_same (S : Nat → List En) (k : Nat) (v : List En) : updS S k v k = v := if_pos rfl
theorem updS_other (S : Nat → List En) (k j : Nat) (v : List En) (h : j ≠ k) : updS S k v j = S j := if_neg h
theorem updS_self (S : Nat → List En) (k : Nat) : updS S k (S k) = S := by
  funext j
  unfold updS
  by_cases h : j = k
  · rw [if_pos h, h]
  · rw [if_neg h]
theorem updS_twice (S : Nat → List En) (k : Nat) (u v : List En) : updS (updS S k u) k v = updS S k v := by
  funext j
  unfold updS
  by_cases h : j = k
  · rw [if_pos h, if_pos h]
  · rw [if_neg h, if_neg h, if_neg h]
/-- Where it is: what stands ahead, and behind. -/
theorem split : ∀ (l : List En) (x : Int), has l x = true → ∃ L1 f L2, l = L1 ++ f :: L2 ∧ f.l = x ∧ ∀ e ∈ L1, e.l ≠ x
  | [], x, h => by simp [has] at h
  | e :: l, x, h => by
    by_cases q : e.l = x
    · exact ⟨[], e, l, rfl, q, by simp⟩
    · have : has l x = true := by
        unfold has at h ⊢
        rw [List.any_cons] at h
        simpa [is, q] using h
      obtain ⟨L1, f, L2, rfl, h1, h2⟩ := split l x this
      refine ⟨e :: L1, f, L2, rfl, h1, fun y hy => ?_⟩
      rcases List.mem_cons.1 hy with rfl | hy
      · exact q
      · exact h2 y hy
theorem has_false {l : List En} {x : Int} (h : has l x = false) : ∀ e ∈ l, e.l ≠ x := by
  intro e he hx
  unfold has at h
  have := List.any_eq_false.1 h e he
  simp [is, hx] at this
theorem has_mem {l : List En} {e : En} (h : e ∈ l) : has l e.l = true := List.any_eq_true.2 ⟨e, h, by simp [is]⟩
theorem has_iff (l : List En) (x : Int) : has l x = true ↔ x ∈ l.map (·.l) := by
  unfold has
  rw [List.any_eq_true, List.mem_map]
  constructor
  · rintro ⟨e, h1, h2⟩; exact ⟨e, h1, by simpa [is] using h2⟩
  · rintro ⟨e, h1, h2⟩; exact ⟨e, h1, by simpa [is] using h2⟩
theorem fnd_mid (L1 L2 : List En) (f : En) (h : ∀ e ∈ L1, e.l ≠ f.l) : fnd (L1 ++ f :: L2) f.l = some f := by
  unfold fnd
  rw [List.find?_append, List.find?_eq_none.2 (fun e he => by simpa [is] using h e he)]
  simp [is]
theorem fnd_none {l : List En} {x : Int} (h : has l x = false) : fnd l x = none := List.find?_eq_none.2 (fun e he => by simpa [is] using has_false h e he)
theorem fnd_some {l : List En} {x : Int} (h : has l x = true) : ∃ f, fnd l x = some f ∧ f ∈ l ∧ f.l = x := by
  obtain ⟨L1, f, L2, rfl, rfl, h2⟩ := split l x h
  exact ⟨f, fnd_mid L1 L2 f h2, by simp, rfl⟩
theorem drp_mid (L1 L2 : List En) (f : En) (h : ∀ e ∈ L1, e.l ≠ f.l) : drp (L1 ++ f :: L2) f.l = L1 ++ L2 := by
  unfold drp
  rw [List.eraseP_append_right _ (fun e he => by simpa [is] using h e he)]
  simp [is]
theorem drp_none {l : List En} {x : Int} (h : has l x = false) : drp l x = l := List.eraseP_of_forall_not (fun e he => by simpa [is] using has_false h e he)
theorem drp_len (l : List En) (x : Int) : (drp l x).length ≤ l.length := List.length_eraseP_le
theorem drp_hit_len {l : List En} {x : Int} (h : has l x = true) : (drp l x).length + 1 = l.length := by
  obtain ⟨L1, f, L2, rfl, rfl, h2⟩ := split l x h
  rw [drp_mid L1 L2 f h2]
  simp
  omega
theorem drp_map (l : List En) (x : Int) : (drp l x).map (·.l) = (l.map (·.l)).erase x := by
  unfold drp
  induction l with
  | nil => rfl
  | cons e l ih =>
    by_cases h : e.l = x
    · rw [List.eraseP_cons_of_pos (by simp [is, h]), List.map_cons, h, List.erase_cons_head]
    · rw [List.eraseP_cons_of_neg (by simp [is, h]), List.map_cons, List.map_cons, List.erase_cons_tail (by simpa using h), ih]
end W

/-! ## Rising lists -/
namespace W
/-- x among them, in its place, if it is not there. -/
def ins (x : Int) : List Int → List Int
  | [] => [x]
  | y :: l => if y < x then y :: ins x l else if y = x then y :: l else x :: y :: l
def Up1 (l : List Int) : Prop := l.Pairwise (· < ·)
theorem ins_mem (x : Int) : ∀ (l : List Int) (y : Int), y ∈ ins x l ↔ y = x ∨ y ∈ l
  | [], y => by simp [ins]
  | z :: l, y => by
    unfold ins
    split
    · rw [List.mem_cons, ins_mem x l y, List.mem_cons]
      constructor
      · rintro (h | h | h) <;> simp [h]
      · rintro (h | h | h) <;> simp [h]
    · split
      · rename_i h
        subst h
        simp
      · simp
theorem ins_up (x : Int) : ∀ (l : List Int), Up1 l → Up1 (ins x l)
  | [], h => by simp [ins, Up1]
  | z :: l, h => by
    have h' := List.pairwise_cons.1 h
    unfold ins
    split
    · rename_i hz
      refine List.pairwise_cons.2 ⟨fun y hy => ?_, ins_up x l h'.2⟩
      rcases (ins_mem x l y).1 hy with rfl | hy
      · exact hz
      · exact h'.1 y hy
    · split
      · exact h
      · rename_i h1 h2
        refine List.pairwise_cons.2 ⟨fun y hy => ?_, h⟩
        rcases List.mem_cons.1 hy with rfl | hy
        · omega
        · have := h'.1 y hy; omega
def srt (l : List Int) : List Int := l.foldl (fun t x => ins x t) []
theorem srt_snoc (l : List Int) (x : Int) : srt (l ++ [x]) = ins x (srt l) := by simp [srt]
theorem fold_up : ∀ (l t : List Int), Up1 t → Up1 (l.foldl (fun t x => ins x t) t)
  | [], t, h => h
  | x :: l, t, h => fold_up l _ (ins_up x t h)
theorem srt_up (l : List Int) : Up1 (srt l) := fold_up l [] List.Pairwise.nil
theorem fold_mem : ∀ (l t : List Int) (y : Int), y ∈ l.foldl (fun t x => ins x t) t ↔ y ∈ t ∨ y ∈ l
  | [], t, y => by simp
  | x :: l, t, y => by
    rw [List.foldl_cons, fold_mem l _ y, ins_mem, List.mem_cons]
    constructor
    · rintro ((h | h) | h) <;> simp [h]
    · rintro (h | h | h) <;> simp [h]
theorem srt_mem (l : List Int) (y : Int) : y ∈ srt l ↔ y ∈ l := by
  unfold srt
  rw [fold_mem]
  simp
/-- Rising lists of the same numbers are the same. -/
theorem up_eq : ∀ (l m : List Int), Up1 l → Up1 m → (∀ y, y ∈ l ↔ y ∈ m) → l = m
  | [], [], _, _, _ => rfl
  | [], y :: m, _, _, h => by have := (h y).2 (by simp); simp at this
  | x :: l, [], _, _, h => by have := (h x).1 (by simp); simp at this
  | x :: l, y :: m, hl, hm, h => by
    have hl' := List.pairwise_cons.1 hl
    have hm' := List.pairwise_cons.1 hm
    have e : x = y := by
      have a := (h x).1 (by simp)
      have b := (h y).2 (by simp)
      rcases List.mem_cons.1 a with a | a
      · exact a
      · rcases List.mem_cons.1 b with b | b
        · exact b.symm
        · have := hl'.1 y b; have := hm'.1 x a; omega
    subst e
    rw [up_eq l m hl'.2 hm'.2 (fun z => ?_)]
    have := h z
    rw [List.mem_cons, List.mem_cons] at this
    constructor
    · intro hz
      rcases this.1 (Or.inr hz) with e | e
      · have := hl'.1 z hz; omega
      · exact e
    · intro hz
      rcases this.2 (Or.inr hz) with e | e
      · have := hm'.1 z hz; omega
      · exact e
theorem srt_self (l : List Int) (h : Up1 l) : srt l = l := up_eq _ _ (srt_up l) h (srt_mem l)
theorem up_nodup {l : List Int} (h : Up1 l) : l.Nodup := List.Pairwise.imp (fun h e => by subst e; omega) h
theorem ins_len (x : Int) : ∀ (l : List Int), x ∉ l → (ins x l).length = l.length + 1
  | [], _ => rfl
  | y :: l, h => by
    unfold ins
    have h1 : ¬ x = y := fun e => h (by simp [e])
    split
    · rw [List.length_cons, ins_len x l (fun q => h (by simp [q])), List.length_cons]
    · rw [if_neg (fun e => h1 e.symm)]
      rfl
theorem ins_at (x : Int) : ∀ (l : List Int) (k : Nat), k ≤ l.length → (∀ j (hj : j < l.length), j < k → l[j] < x) → (∀ (hk : k < l.length), x < l[k]) → ins x l = l.take k ++ x :: l.drop k
  | [], 0, h, _, _ => rfl
  | [], k + 1, h, _, _ => by simp at h
  | y :: l, 0, _, _, h2 => by
    have := h2 (by simp)
    simp at this
    unfold ins
    rw [if_neg (by omega), if_neg (by omega)]
    rfl
  | y :: l, k + 1, h, h1, h2 => by
    have := h1 0 (by simp) (by omega)
    simp at this
    unfold ins
    rw [if_pos this, ins_at x l k (by simpa using h) (fun j hj hk => by have := h1 (j + 1) (by simpa using hj) (by omega); simpa using this) (fun hk => by have := h2 (by simpa using hk); simpa using this)]
    rfl
theorem ins_in (x : Int) : ∀ (l : List Int), Up1 l → x ∈ l → ins x l = l := fun l h hx => up_eq _ _ (ins_up x l h) h (fun y => by
  rw [ins_mem]
  constructor
  · rintro (rfl | h)
    · exact hx
    · exact h
  · exact Or.inr)
end W
end Go.Proofs.YtlindkhmjkionaaDoor
