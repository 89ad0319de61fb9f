/- home: messages, what a home knows, takes and sends, on numbers. -/
import Derived.WalkKit
namespace Go.Proofs.Ytadkpelcbnljbaa
set_option linter.unusedVariables false
set_option linter.unusedSimpArgs false

namespace W
structure Mg where
  k : Int
  l : Int
  f : Int
  t : Int
  d0 : Int
  d1 : Int
  d2 : Int
  d3 : Int
  h : Bool
  d : Bool
  a : Bool
deriving DecidableEq
def mg0 : Mg := ⟨0, 0, 0, 0, 0, 0, 0, 0, false, false, false⟩
/-- Without one. -/
def wo (l : List Int) (x : Int) : List Int := l.filter (fun y => decide (y ≠ x))
/-- x among them, in its place, if it is not there. -/
def ins (x : Int) : List Int → List Int
  | [] => [x]
  | y :: l => if y < x then y :: ins x l else if y = x then y :: l else x :: y :: l
def Up1 (l : List Int) : Prop := l.Pairwise (· < ·)
theorem ins_mem (x : Int) : ∀ (l : List Int) (y : Int), y ∈ ins x l ↔ y = x ∨ y ∈ l
  | [], y => by simp [ins]
  | z :: l, y => by
    unfold ins
    split
    · rw [List.mem_cons, ins_mem x l y, List.mem_cons]
      constructor
      · rintro (h | h | h) <;> simp [h]
      · rintro (h | h | h) <;> simp [h]
    · split
      · rename_i h
        subst h
        simp
      · simp
theorem ins_up (x : Int) : ∀ (l : List Int), Up1 l → Up1 (ins x l)
  | [], h => by simp [ins, Up1]
  | z :: l, h => by
    have h' := List.pairwise_cons.1 h
    unfold ins
    split
    · rename_i hz
      refine List.pairwise_cons.2 ⟨fun y hy => ?_, ins_up x l h'.2⟩
      rcases (ins_mem x l y).1 hy with rfl | hy
      · exact hz
      · exact h'.1 y hy
    · split
      · exact h
      · rename_i h1 h2
        refine List.pairwise_cons.2 ⟨fun y hy => ?_, h⟩
        rcases List.mem_cons.1 hy with rfl | hy
        · omega
        · have := h'.1 y hy; omega
theorem up_eq : ∀ (l m : List Int), Up1 l → Up1 m → (∀ y, y ∈ l ↔ y ∈ m) → l = m
  | [], [], _, _, _ => rfl
  | [], y :: m, _, _, h => by have := (h y).2 (by simp); simp at this
  | x :: l, [], _, _, h => by have := (h x).1 (by simp); simp at this
  | x :: l, y :: m, hl, hm, h => by
    have hl' := List.pairwise_cons.1 hl
    have hm' := List.pairwise_cons.1 hm
    have e : x = y := by
      have a := (h x).1 (by simp)
      have b := (h y).2 (by simp)
      rcases List.mem_cons.1 a with a | a
      · exact a
      · rcases List.mem_cons.1 b with b | b
        · exact b.symm
        · have := hl'.1 y b; have := hm'.1 x a; omega
    subst e
    rw [up_eq l m hl'.2 hm'.2 (fun z => ?_)]
    have := h z
    rw [List.mem_cons, List.mem_cons] at this
    constructor
    · intro hz
      rcases this.1 (Or.inr hz) with e | e
      · have := hl'.1 z hz; omega
      · exact e
    · intro hz
      rcases this.2 (Or.inr hz) with e | e
      · have := hm'.1 z hz; omega
      · exact e
theorem ins_in (x : Int) : ∀ (l : List Int), Up1 l → x ∈ l → ins x l = l := fun l h hx => up_eq _ _ (ins_up x l h) h (fun y => by
  rw [ins_mem]
  constructor
  · rintro (rfl | h)
    · exact hx
    · exact h
  · exact Or.inr)
/-- A rising list is what lies ahead of x, x perhaps, and what lies behind. -/
theorem up_split (x : Int) : ∀ (l : List Int), Up1 l → ∃ L1 L2, (∀ y ∈ L1, y < x) ∧ (∀ y ∈ L2, x < y) ∧ (l = L1 ++ L2 ∨ l = L1 ++ x :: L2)
  | [], _ => ⟨[], [], by simp, by simp, Or.inl rfl⟩
  | z :: l, h => by
    have h' := List.pairwise_cons.1 h
    by_cases h1 : z < x
    · obtain ⟨L1, L2, a, b, c⟩ := up_split x l h'.2
      refine ⟨z :: L1, L2, fun y hy => ?_, b, ?_⟩
      · rcases List.mem_cons.1 hy with rfl | hy
        · exact h1
        · exact a y hy
      · rcases c with rfl | rfl
        · exact Or.inl rfl
        · exact Or.inr rfl
    · by_cases h2 : z = x
      · subst h2
        exact ⟨[], l, by simp, h'.1, Or.inr rfl⟩
      · refine ⟨[], z :: l, by simp, fun y hy => ?_, Or.inl rfl⟩
        rcases List.mem_cons.1 hy with rfl | hy
        · omega
        · have := h'.1 y hy; omega
theorem wo_mem (l : List Int) (x y : Int) : y ∈ wo l x ↔ y ∈ l ∧ y ≠ x := by simp [wo]
theorem wo_up {l : List Int} (h : Up1 l) (x : Int) : Up1 (wo l x) := List.Pairwise.filter _ h
theorem wo_len (l : List Int) (x : Int) : (wo l x).length ≤ l.length := List.length_filter_le _ _
theorem wo_out {l : List Int} {x : Int} (h : x ∉ l) : wo l x = l := List.filter_eq_self.2 (fun y hy => by
  have : y ≠ x := fun e => h (e ▸ hy)
  simpa using this)
theorem wo_mid {L1 L2 : List Int} {x : Int} (h1 : ∀ y ∈ L1, y < x) (h2 : ∀ y ∈ L2, x < y) : wo (L1 ++ x :: L2) x = L1 ++ L2 := by
  have a : x ∉ L1 := fun e => by have := h1 x e; omega
  have b : x ∉ L2 := fun e => by have := h2 x e; omega
  have qa := wo_out a
  have qb := wo_out b
  unfold wo at *
  rw [List.filter_append, List.filter_cons_of_neg (by simp), qa, qb]
theorem ins_mid {L1 L2 : List Int} {x : Int} (h1 : ∀ y ∈ L1, y < x) (h2 : ∀ y ∈ L2, x < y) : ins x (L1 ++ L2) = L1 ++ x :: L2 := by
  induction L1 with
  | nil =>
    cases L2 with
    | nil => rfl
    | cons y l =>
      have := h2 y (by simp)
      show ins x (y :: l) = _
      unfold ins
      rw [if_neg (by omega), if_neg (by omega)]
      rfl
  | cons z l ih =>
    have := h1 z (by simp)
    show ins x (z :: (l ++ L2)) = _
    unfold ins
    rw [if_pos this, ih (fun y hy => h1 y (by simp [hy]))]
    rfl
theorem up_len : ∀ (l : List Int) (a b : Int), Up1 l → (∀ x ∈ l, a ≤ x ∧ x < b) → (l.length : Int) ≤ max 0 (b - a)
  | [], a, b, _, _ => by simp; omega
  | x :: l, a, b, h, hb => by
    have h' := List.pairwise_cons.1 h
    have hx := hb x (by simp)
    have := up_len l (x + 1) b h'.2 (fun y hy => ⟨by have := h'.1 y hy; omega, (hb y (by simp [hy])).2⟩)
    simp only [List.length_cons]
    omega

/-- What is known of a line. -/
structure Hm where
  ln : Int
  hs : Int
  e0 : Int
  e1 : Int
  e2 : Int
  e3 : Int
  ow : Int
  sh : List Int
  sv : Int
  b_ : Int
  ac : List Int
  te : Int
  bk : Mg
def wt (s : Hm) : Bool := !s.ac.isEmpty || decide (s.te ≠ -1)
def tk (s : Hm) (m : Mg) : Bool :=
  if m.l ≠ s.ln ∨ m.t ≠ -1 ∨ m.f < 0 ∨ s.hs ≤ m.f then false
  else if m.k = 1 ∨ m.k = 2 ∨ m.k = 3 then decide (s.sv = -1)
  else if m.k = 10 then decide (m.f ∈ s.ac)
  else if m.k = 11 then decide (m.f = s.te)
  else if m.k = 12 then decide (m.f = s.sv) && !wt s
  else false
def msg (s : Hm) (k t : Int) : Mg := ⟨k, s.ln, -1, t, 0, 0, 0, 0, false, false, false⟩
def dat (s : Hm) (t x0 x1 x2 x3 : Int) (d a : Bool) : Mg := ⟨7, s.ln, -1, t, x0, x1, x2, x3, true, d, a⟩
def gS (s : Hm) (r : Int) : Hm × List Mg :=
  if s.ow ≠ -1 ∧ s.ow ≠ r then ({ s with sv := r, b_ := 1, te := s.ow }, [msg s 5 s.ow])
  else if wo s.sh r = [] then ({ s with sv := r, b_ := 1, ow := r, sh := [] }, [dat s r s.e0 s.e1 s.e2 s.e3 false true])
  else ({ s with sv := r, b_ := 1, ow := -1, sh := ins r (wo s.sh r) }, [dat s r s.e0 s.e1 s.e2 s.e3 false false])
/-- What is sent when nobody is waited for any more. -/
def gv (s : Hm) : Mg :=
  if s.ow = s.sv then msg s 8 s.sv
  else if s.bk.h = true then dat s s.sv s.bk.d0 s.bk.d1 s.bk.d2 s.bk.d3 s.bk.d true
  else dat s s.sv s.e0 s.e1 s.e2 s.e3 false true
def ow (s : Hm) : Hm × List Mg := if wt s = true then (s, []) else ({ s with ow := s.sv, sh := [], bk := mg0 }, [gv s])
/-- The harts that are told, rising, and what. -/
def inv (s : Hm) (r : Int) : List Int := if s.ow ≠ r ∧ s.ow ≠ -1 then ins s.ow (wo s.sh r) else wo s.sh r
def invM (s : Hm) (r : Int) : List Mg := (inv s r).map (fun k => msg s (if k = s.ow then 6 else 4) k)
def gM0 (s : Hm) (r : Int) : Hm := { s with sv := r, b_ := 2, ac := wo s.sh r, te := if s.ow ≠ r ∧ s.ow ≠ -1 then s.ow else s.te }
def gM (s : Hm) (r : Int) : Hm × List Mg := ((ow (gM0 s r)).1, invM s r ++ (ow (gM0 s r)).2)
def pt (s : Hm) (m : Mg) : Hm × List Mg :=
  ({ s with
      e0 := if m.f = s.ow ∧ m.d = true then m.d0 else s.e0, e1 := if m.f = s.ow ∧ m.d = true then m.d1 else s.e1
      e2 := if m.f = s.ow ∧ m.d = true then m.d2 else s.e2, e3 := if m.f = s.ow ∧ m.d = true then m.d3 else s.e3
      ow := if m.f = s.ow then -1 else s.ow, sh := wo s.sh m.f }, [msg s 9 m.f])
def sB (s : Hm) (m : Mg) : Hm × List Mg :=
  if m.d = true then ({ s with sh := ins s.sv s.sh }, [dat s s.sv m.d0 m.d1 m.d2 m.d3 false false])
  else if m.h = true then ({ s with ow := -1, sh := ins s.sv (ins m.f s.sh) }, [dat s s.sv m.d0 m.d1 m.d2 m.d3 false false])
  else ({ s with ow := -1, sh := ins s.sv s.sh }, [dat s s.sv s.e0 s.e1 s.e2 s.e3 false false])
def take (s : Hm) (m : Mg) : Hm × List Mg :=
  if tk s m = false then (s, [])
  else if m.k = 1 then gS s m.f
  else if m.k = 2 then gM s m.f
  else if m.k = 3 then pt s m
  else if m.k = 10 then ow { s with ac := wo s.ac m.f }
  else if m.k = 11 then (if s.b_ = 1 then sB { s with te := -1 } m else ow { s with te := -1, bk := m })
  else ({ s with sv := -1 }, [])
def hm0 (ln hs e0 e1 e2 e3 : Int) : Hm := ⟨ln, hs, e0, e1, e2, e3, -1, [], -1, 0, [], -1, mg0⟩
/-- What holds of it at any time. -/
structure Hok (s : Hm) : Prop where
  us : Up1 s.sh
  ua : Up1 s.ac
  ls : ∀ x ∈ s.sh, 0 ≤ x ∧ x < s.hs
  la : ∀ x ∈ s.ac, 0 ≤ x ∧ x < s.hs
  h1 : 1 ≤ s.hs
  h4 : s.hs ≤ 4
  no : s.ow ∉ s.sh
  o0 : -1 ≤ s.ow
  o1 : s.ow < s.hs
  s0 : -1 ≤ s.sv
  s1 : s.sv < s.hs
  bz : s.sv = -1 → s.te = -1 ∧ s.ac = []
  tw : s.te ≠ -1 → s.te = s.ow ∧ s.ow ≠ s.sv
theorem Hok.new (ln hs e0 e1 e2 e3 : Int) (h1 : 1 ≤ hs) (h4 : hs ≤ 4) : Hok (hm0 ln hs e0 e1 e2 e3) :=
  ⟨List.Pairwise.nil, List.Pairwise.nil, by simp [hm0], by simp [hm0], h1, h4, by simp [hm0], by simp [hm0], by simp [hm0]; omega, by simp [hm0], by simp [hm0]; omega, fun _ => ⟨rfl, rfl⟩, fun h => absurd rfl h⟩
theorem Hok.lens {s : Hm} (H : Hok s) : s.sh.length ≤ 4 := by
  have := up_len s.sh 0 s.hs H.us H.ls
  have := H.h4
  omega
theorem Hok.lena {s : Hm} (H : Hok s) : s.ac.length ≤ 4 := by
  have := up_len s.ac 0 s.hs H.ua H.la
  have := H.h4
  omega
theorem wt_false {s : Hm} (h : wt s = false) : s.ac = [] ∧ s.te = -1 := by
  unfold wt at h
  rw [Bool.or_eq_false_iff] at h
  refine ⟨by simpa using h.1, ?_⟩
  have := of_decide_eq_false h.2
  omega
theorem tk_from {s : Hm} {m : Mg} (h : tk s m = true) : 0 ≤ m.f ∧ m.f < s.hs ∧ m.l = s.ln ∧ m.t = -1 := by
  unfold tk at h
  split at h
  · cases h
  · omega
theorem Hok.ow {s : Hm} (H : Hok s) (hs : s.sv ≠ -1) : Hok (ow s).1 := by
  unfold W.ow
  split
  · exact H
  · rename_i h
    have := wt_false (by simpa using h)
    exact ⟨List.Pairwise.nil, H.ua, by simp, H.la, H.h1, H.h4, by simp, H.s0, H.s1, H.s0, H.s1, H.bz, fun h => absurd this.2 h⟩
theorem Hok.gS {s : Hm} (H : Hok s) (r : Int) (h0 : 0 ≤ r) (h1 : r < s.hs) (hi : s.sv = -1) : Hok (gS s r).1 := by
  have hz := H.bz hi
  unfold W.gS
  split
  · rename_i h
    exact ⟨H.us, H.ua, H.ls, H.la, H.h1, H.h4, H.no, H.o0, H.o1, by show -1 ≤ r; omega, h1, fun h => by simp at h; omega, fun _ => ⟨rfl, h.2⟩⟩
  · split
    · exact ⟨List.Pairwise.nil, H.ua, by simp, H.la, H.h1, H.h4, by simp, by show -1 ≤ r; omega, h1, by show -1 ≤ r; omega, h1, fun h => by simp at h; omega, fun h => absurd hz.1 h⟩
    · refine ⟨ins_up _ _ (wo_up H.us _), H.ua, fun x hx => ?_, H.la, H.h1, H.h4, fun hx => ?_, by simp, by show -1 < s.hs; omega, by show -1 ≤ r; omega, h1, fun h => by simp at h; omega, fun h => absurd hz.1 h⟩
      · rcases (ins_mem _ _ _).1 hx with rfl | hx
        · exact ⟨h0, h1⟩
        · exact H.ls x ((wo_mem _ _ _).1 hx).1
      · rcases (ins_mem _ _ _).1 hx with hx | hx
        · simp at hx; omega
        · have := H.ls _ ((wo_mem _ _ _).1 hx).1
          simp at this
theorem Hok.gM0 {s : Hm} (H : Hok s) (r : Int) (h0 : 0 ≤ r) (h1 : r < s.hs) (hi : s.sv = -1) : Hok (gM0 s r) := by
  have hz := H.bz hi
  unfold W.gM0
  refine ⟨H.us, wo_up H.us _, H.ls, fun x hx => H.ls x ((wo_mem _ _ _).1 hx).1, H.h1, H.h4, H.no, H.o0, H.o1, by show -1 ≤ r; omega, h1, fun h => by simp at h; omega, fun h => ?_⟩
  by_cases q : s.ow ≠ r ∧ s.ow ≠ -1
  · dsimp only
    rw [if_pos q]
    exact ⟨rfl, q.1⟩
  · dsimp only at h
    rw [if_neg q] at h
    exact absurd hz.1 h
theorem Hok.take {s : Hm} (H : Hok s) (m : Mg) : Hok (take s m).1 := by
  unfold W.take
  split
  · exact H
  · rename_i hk
    have hk : tk s m = true := by simpa using hk
    obtain ⟨f0, f1, _, _⟩ := tk_from hk
    have hnot : ¬ (m.l ≠ s.ln ∨ m.t ≠ -1 ∨ m.f < 0 ∨ s.hs ≤ m.f) := fun h => by unfold tk at hk; rw [if_pos h] at hk; cases hk
    unfold tk at hk
    rw [if_neg hnot] at hk
    split
    · rename_i e; rw [if_pos (Or.inl e)] at hk; exact H.gS _ f0 f1 (of_decide_eq_true hk)
    split
    · rename_i e; rw [if_pos (Or.inr (Or.inl e))] at hk
      exact (H.gM0 _ f0 f1 (of_decide_eq_true hk)).ow (by show m.f ≠ -1; omega)
    split
    · rename_i e; rw [if_pos (Or.inr (Or.inr e))] at hk
      have hi := of_decide_eq_true hk
      have hz := H.bz hi
      unfold pt
      refine ⟨wo_up H.us _, H.ua, fun x hx => H.ls x ((wo_mem _ _ _).1 hx).1, H.la, H.h1, H.h4, fun hx => ?_, ?_, ?_, H.s0, H.s1, H.bz, fun h => absurd hz.1 h⟩
      · have hx := (wo_mem _ _ _).1 hx
        dsimp only at hx
        by_cases q : m.f = s.ow
        · rw [if_pos q] at hx
          have := H.ls _ hx.1
          omega
        · rw [if_neg q] at hx
          exact H.no hx.1
      · dsimp only; have := H.o0; split <;> omega
      · dsimp only; have := H.o1; have := H.h1; split <;> omega
    rename_i n1 n2 n3
    rw [if_neg (by omega)] at hk
    split
    · rename_i e
      rw [if_pos e] at hk
      have hm := of_decide_eq_true hk
      have hne : s.sv ≠ -1 := fun q => by have := (H.bz q).2; rw [this] at hm; simp at hm
      refine Hok.ow (s := { s with ac := wo s.ac m.f }) ⟨H.us, wo_up H.ua _, H.ls, fun x hx => H.la x ((wo_mem _ _ _).1 hx).1, H.h1, H.h4, H.no, H.o0, H.o1, H.s0, H.s1, fun h => absurd h hne, H.tw⟩ hne
    rename_i n10
    rw [if_neg n10] at hk
    split
    · rename_i e
      rw [if_pos e] at hk
      have ht := of_decide_eq_true hk
      have hte : s.te ≠ -1 := by omega
      have hw := H.tw hte
      have hne : s.sv ≠ -1 := fun q => hte (H.bz q).1
      have hs0 := H.s0
      have hs1 := H.s1
      have hl : ∀ x ∈ ins s.sv s.sh, 0 ≤ x ∧ x < s.hs := fun x hx => by
        rcases (ins_mem _ _ _).1 hx with rfl | hx
        · omega
        · exact H.ls x hx
      split
      · unfold sB
        split
        · refine ⟨ins_up _ _ H.us, H.ua, hl, H.la, H.h1, H.h4, fun hx => ?_, H.o0, H.o1, H.s0, H.s1, fun h => absurd h hne, fun h => absurd rfl h⟩
          rcases (ins_mem _ _ _).1 hx with hx | hx
          · exact hw.2 hx
          · exact H.no hx
        · split
          · refine ⟨ins_up _ _ (ins_up _ _ H.us), H.ua, fun x hx => ?_, H.la, H.h1, H.h4, fun hx => ?_, by simp, by show -1 < s.hs; have := H.h1; omega, H.s0, H.s1, fun h => absurd h hne, fun h => absurd rfl h⟩
            · rcases (ins_mem _ _ _).1 hx with rfl | hx
              · exact ⟨by show 0 ≤ s.sv; omega, hs1⟩
              · rcases (ins_mem _ _ _).1 hx with rfl | hx
                · exact ⟨f0, f1⟩
                · exact H.ls x hx
            · rcases (ins_mem _ _ _).1 hx with hx | hx
              · simp at hx; omega
              · rcases (ins_mem _ _ _).1 hx with hx | hx
                · simp at hx; omega
                · have := H.ls _ hx; simp at this
          · refine ⟨ins_up _ _ H.us, H.ua, hl, H.la, H.h1, H.h4, fun hx => ?_, by simp, by show -1 < s.hs; have := H.h1; omega, H.s0, H.s1, fun h => absurd h hne, fun h => absurd rfl h⟩
            have := hl _ hx
            simp at this
      · exact Hok.ow (s := { s with te := -1, bk := m }) ⟨H.us, H.ua, H.ls, H.la, H.h1, H.h4, H.no, H.o0, H.o1, H.s0, H.s1, fun h => absurd h hne, fun h => absurd rfl h⟩ hne
    · rename_i n11
      rw [if_neg n11] at hk
      split at hk
      · rw [Bool.and_eq_true] at hk
        have hw := wt_false (by simpa using hk.2)
        exact ⟨H.us, H.ua, H.ls, H.la, H.h1, H.h4, H.no, H.o0, H.o1, by simp, by show -1 < s.hs; have := H.h1; omega, fun _ => ⟨hw.2, hw.1⟩, fun h => absurd hw.2 h⟩
      · cases hk
end W
end Go.Proofs.Ytadkpelcbnljbaa
