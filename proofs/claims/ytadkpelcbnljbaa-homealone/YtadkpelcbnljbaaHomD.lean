/- home: the document's home on numbers; it knows, takes and sends the same. -/
import Derived.Test.YtadkpelcbnljbaaHomM
namespace Go.Proofs.Ytadkpelcbnljbaa
set_option linter.unusedVariables false
set_option linter.unusedSimpArgs false
namespace W
structure Dm where
  ln : Int
  hs : Int
  e0 : Int
  e1 : Int
  e2 : Int
  e3 : Int
  ow : Int
  sh : List Int
  bz : Bool
  k : Int
  by_ : Int
  ws : List Int
  fr : Int
  had : Mg
  own : Bool
def srt (l : List Int) : List Int := l.foldl (fun t x => ins x t) []
theorem srt_snoc (l : List Int) (x : Int) : srt (l ++ [x]) = ins x (srt l) := by simp [srt]
theorem fold_up : ∀ (l t : List Int), Up1 t → Up1 (l.foldl (fun t x => ins x t) t)
  | [], t, h => h
  | x :: l, t, h => fold_up l _ (ins_up x t h)
theorem srt_up (l : List Int) : Up1 (srt l) := fold_up l [] List.Pairwise.nil
theorem fold_mem : ∀ (l t : List Int) (y : Int), y ∈ l.foldl (fun t x => ins x t) t ↔ y ∈ t ∨ y ∈ l
  | [], t, y => by simp
  | x :: l, t, y => by
    rw [List.foldl_cons, fold_mem l _ y, ins_mem, List.mem_cons]
    constructor
    · rintro ((h | h) | h) <;> simp [h]
    · rintro (h | h | h) <;> simp [h]
theorem srt_mem (l : List Int) (y : Int) : y ∈ srt l ↔ y ∈ l := by
  unfold srt
  rw [fold_mem]
  simp
theorem srt_self (l : List Int) (h : Up1 l) : srt l = l := up_eq _ _ (srt_up l) h (srt_mem l)
def dtk (d : Dm) (m : Mg) : Bool :=
  if m.l ≠ d.ln ∨ m.t ≠ -1 ∨ m.f < 0 ∨ d.hs ≤ m.f then false
  else if m.k = 1 ∨ m.k = 2 ∨ m.k = 3 then !d.bz
  else if m.k = 10 then d.bz && decide (m.f ∈ d.ws)
  else if m.k = 11 then d.bz && decide (d.fr = m.f)
  else if m.k = 12 then d.bz && (decide (d.ws = []) && (decide (d.fr < 0) && decide (d.by_ = m.f)))
  else false
def dmsg (d : Dm) (k t : Int) : Mg := ⟨k, d.ln, -1, t, 0, 0, 0, 0, false, false, false⟩
def ddat (d : Dm) (x0 x1 x2 x3 : Int) (di al : Bool) : Mg := ⟨7, d.ln, -1, d.by_, x0, x1, x2, x3, true, di, al⟩
def dgv (d : Dm) : Dm × List Mg :=
  ({ d with ow := d.by_, sh := [] },
    if d.own = true then [dmsg d 8 d.by_]
    else if d.had.h = true then [ddat d d.had.d0 d.had.d1 d.had.d2 d.had.d3 d.had.d true]
    else [ddat d d.e0 d.e1 d.e2 d.e3 false true])
/-- What is sent to hart k at the start of a GetM. -/
def dto (d : Dm) (r : Int) (ws : List Int) (k : Int) : List Mg :=
  (if k ∈ ws ∧ k ≠ d.ow then [dmsg d 4 k] else []) ++ (if k = d.ow ∧ k ≠ r then [dmsg d 6 k] else [])
def dout (d : Dm) (r : Int) (ws : List Int) : Nat → List Mg
  | 0 => []
  | n + 1 => dout d r ws n ++ dto d r ws n
/-- Whom Take was sent to among the first n harts. -/
def dfr (d : Dm) (r : Int) (n : Nat) : Int := if 0 ≤ d.ow ∧ d.ow < n ∧ d.ow ≠ r then d.ow else d.fr
def dM0 (d : Dm) (r : Int) : Dm := { d with bz := true, k := 2, by_ := r, had := mg0, own := decide (d.ow = r), ws := wo d.sh r }
def dM1 (d : Dm) (r : Int) : Dm := { dM0 d r with fr := dfr d r d.hs.toNat, ws := if 0 ≤ d.ow then wo (wo d.sh r) d.ow else wo d.sh r }
def dM (d : Dm) (r : Int) : Dm × List Mg :=
  if (dM1 d r).ws = [] ∧ (dM1 d r).fr < 0 then dgv (dM1 d r) else (dM1 d r, dout d r (wo d.sh r) d.hs.toNat)
def dS (d : Dm) (r : Int) : Dm × List Mg :=
  if 0 ≤ d.ow ∧ d.ow ≠ r then ({ d with bz := true, k := 1, by_ := r, fr := d.ow }, [dmsg d 5 d.ow])
  else if wo d.sh r = [] then ({ d with bz := true, k := 1, by_ := r, ow := r, sh := [] }, [ddat { d with by_ := r } d.e0 d.e1 d.e2 d.e3 false true])
  else ({ d with bz := true, k := 1, by_ := r, ow := -1, sh := srt (d.sh ++ [r]) }, [ddat { d with by_ := r } d.e0 d.e1 d.e2 d.e3 false false])
def dP (d : Dm) (m : Mg) : Dm × List Mg :=
  ({ d with
      e0 := if d.ow = m.f ∧ m.d = true then m.d0 else d.e0, e1 := if d.ow = m.f ∧ m.d = true then m.d1 else d.e1
      e2 := if d.ow = m.f ∧ m.d = true then m.d2 else d.e2, e3 := if d.ow = m.f ∧ m.d = true then m.d3 else d.e3
      ow := if d.ow = m.f then -1 else d.ow, sh := wo d.sh m.f }, [dmsg d 9 m.f])
def dB (d : Dm) (m : Mg) : Dm × List Mg :=
  if m.d = true then ({ d with fr := -1, sh := srt (d.sh ++ [d.by_]) }, [ddat d m.d0 m.d1 m.d2 m.d3 false false])
  else if m.h = true then ({ d with fr := -1, ow := -1, sh := srt (srt (d.sh ++ [d.by_]) ++ [m.f]) }, [ddat d m.d0 m.d1 m.d2 m.d3 false false])
  else ({ d with fr := -1, ow := -1, sh := srt (d.sh ++ [d.by_]) }, [ddat d d.e0 d.e1 d.e2 d.e3 false false])
def dA (d : Dm) : Dm × List Mg := if d.ws = [] ∧ d.fr < 0 then dgv d else (d, [])
def dtake (d : Dm) (m : Mg) : Dm × List Mg :=
  if m.k = 1 then dS d m.f
  else if m.k = 2 then dM d m.f
  else if m.k = 3 then dP d m
  else if m.k = 10 then dA { d with ws := wo d.ws m.f }
  else if m.k = 11 then (if d.k = 2 then dA { d with fr := -1, had := m } else dB d m)
  else ({ d with bz := false }, [])
def dm0 (ln hs e0 e1 e2 e3 : Int) : Dm := ⟨ln, hs, e0, e1, e2, e3, -1, [], false, 0, 0, [], -1, mg0, false⟩
/-- They know the same. -/
structure Rl0 (s : Hm) (d : Dm) : Prop where
  ln : d.ln = s.ln
  hs : d.hs = s.hs
  e0 : d.e0 = s.e0
  e1 : d.e1 = s.e1
  e2 : d.e2 = s.e2
  e3 : d.e3 = s.e3
  ow : d.ow = s.ow
  sh : d.sh = s.sh
  bz : d.bz = decide (s.sv ≠ -1)
  by_ : s.sv ≠ -1 → d.by_ = s.sv ∧ d.k = s.b_ ∧ (s.b_ = 1 ∨ s.b_ = 2)
  ws : d.ws = s.ac
  fr : d.fr = s.te
  ac : s.ac ≠ [] → s.b_ = 2
structure Rl (s : Hm) (d : Dm) : Prop where
  r : Rl0 s d
  w2 : wt s = true → s.b_ = 2 → d.had = s.bk ∧ d.own = decide (s.ow = s.sv)
  bk : wt s = false ∨ s.b_ = 1 → s.bk = mg0
theorem Rl.new (ln hs e0 e1 e2 e3 : Int) : Rl (hm0 ln hs e0 e1 e2 e3) (dm0 ln hs e0 e1 e2 e3) :=
  ⟨⟨rfl, rfl, rfl, rfl, rfl, rfl, rfl, rfl, rfl, fun h => absurd rfl h, rfl, rfl, fun h => absurd rfl h⟩, fun h => by simp [wt, hm0] at h, fun _ => rfl⟩
variable {s : Hm} {d : Dm}
theorem Rl0.tk (R : Rl0 s d) (H : Hok s) (m : Mg) : dtk d m = tk s m := by
  have h0 := R.by_
  unfold dtk W.tk
  rw [R.ln, R.hs, R.bz, R.ws, R.fr]
  split
  · rfl
  rename_i q
  split
  · by_cases e : s.sv = -1 <;> simp [e]
  split
  · by_cases e : s.sv = -1
    · have := (H.bz e).2
      simp [e, this]
    · simp [e]
  split
  · by_cases e : s.sv = -1
    · have := (H.bz e).1
      have : ¬ m.f = s.te := by omega
      simp [e, this]
    · simp [e, eq_comm]
  split
  · by_cases e : s.sv = -1
    · have : ¬ m.f = s.sv := by omega
      simp [e, this]
      omega
    · rw [(R.by_ e).1]
      have h1 : s.te = -1 ∨ 0 ≤ s.te := by
        by_cases q : s.te = -1
        · exact Or.inl q
        · have := H.tw q; have := H.o0; omega
      unfold wt
      cases hz : s.ac with
      | nil =>
        rcases h1 with h1 | h1
        · simp [e, h1, eq_comm]
        · have a : ¬ s.te = -1 := by omega
          have b : ¬ s.te < 0 := by omega
          simp [a, b]
      | cons x l => simp
  · rfl
theorem ddat_eq (R : Rl0 s d) (x0 x1 x2 x3 : Int) (a b : Bool) (hb : d.by_ = s.sv) : ddat d x0 x1 x2 x3 a b = dat s s.sv x0 x1 x2 x3 a b := by
  unfold ddat dat
  rw [R.ln, hb]
/-- All have come, on both sides. -/
theorem Rl0.give (R : Rl0 s d) (hs : s.sv ≠ -1) (h2 : s.b_ = 2) (hh : d.had = s.bk) (ho : d.own = decide (s.ow = s.sv)) (hw : wt s = false) : Rl (W.ow s).1 (dgv d).1 ∧ (dgv d).2 = (W.ow s).2 := by
  obtain ⟨q1, q2, q3⟩ := R.by_ hs
  have hz := wt_false hw
  unfold W.ow
  rw [hw, if_neg (by simp)]
  refine ⟨⟨⟨R.ln, R.hs, R.e0, R.e1, R.e2, R.e3, q1, rfl, R.bz, fun _ => ⟨q1, q2, q3⟩, R.ws, R.fr, R.ac⟩, fun h => ?_, fun _ => rfl⟩, ?_⟩
  · exfalso
    unfold wt at h hw
    rw [hw] at h
    cases h
  · unfold dgv gv
    dsimp only
    by_cases e : s.ow = s.sv
    · rw [if_pos (by rw [ho, decide_eq_true e]), if_pos e]
      unfold dmsg msg
      rw [R.ln, q1]
    · rw [if_neg (by rw [ho, decide_eq_false e]; simp), if_neg e, hh, R.e0, R.e1, R.e2, R.e3]
      split
      · rw [ddat_eq R _ _ _ _ _ _ q1]
      · rw [ddat_eq R _ _ _ _ _ _ q1]
theorem Rl0.dA (R : Rl0 s d) (H : Hok s) (hs : s.sv ≠ -1) (h2 : s.b_ = 2) (hh : d.had = s.bk) (ho : d.own = decide (s.ow = s.sv)) : Rl (W.ow s).1 (dA d).1 ∧ (dA d).2 = (W.ow s).2 := by
  cases hw : wt s
  · have hz := wt_false hw
    have : W.dA d = dgv d := by unfold W.dA; rw [if_pos ⟨by rw [R.ws, hz.1], by rw [R.fr, hz.2]; decide⟩]
    rw [this]
    exact R.give hs h2 hh ho hw
  · have : W.dA d = (d, []) := by
      unfold W.dA
      rw [if_neg]
      rintro ⟨a, b⟩
      rw [R.ws] at a
      rw [R.fr] at b
      have ht : s.te = -1 := by
        by_cases q : s.te = -1
        · exact q
        · have := H.tw q; have := H.o0; omega
      unfold wt at hw
      rw [a, ht] at hw
      simp at hw
    rw [this]
    unfold W.ow
    rw [hw, if_pos rfl]
    exact ⟨⟨R, fun _ _ => ⟨hh, ho⟩, fun h => by
      rcases h with h | h
      · rw [hw] at h; cases h
      · have h : s.b_ = 1 := h
        omega⟩, rfl⟩
theorem up_range (P : Int → Bool) (n : Nat) : Up1 (((List.range n).map (fun k : Nat => (k : Int))).filter P) := by
  refine List.Pairwise.filter _ ?_
  rw [List.pairwise_map]
  exact List.Pairwise.imp (fun h => by omega) List.pairwise_lt_range
theorem dout_eq (R : Rl0 s d) (H : Hok s) (r : Int) (n : Nat) : dout d r (wo d.sh r) n = (((List.range n).map (fun k : Nat => (k : Int))).filter (fun k => decide (k ∈ inv s r))).map (fun k => msg s (if k = s.ow then 6 else 4) k) := by
  induction n with
  | zero => rfl
  | succ n ih =>
    rw [List.range_succ, List.map_append, List.filter_append, List.map_append, ← ih]
    show _ ++ dto d r (wo d.sh r) n = _
    congr 1
    have hmem : ((n : Int) ∈ inv s r) ↔ ((n : Int) ∈ wo s.sh r ∨ (n : Int) = s.ow ∧ s.ow ≠ r) := by
      unfold inv
      by_cases q : s.ow ≠ r ∧ s.ow ≠ -1
      · rw [if_pos q, ins_mem]
        constructor
        · rintro (h | h)
          · exact Or.inr ⟨h, q.1⟩
          · exact Or.inl h
        · rintro (h | h)
          · exact Or.inr h
          · exact Or.inl h.1
      · rw [if_neg q]
        constructor
        · exact Or.inl
        · rintro (h | h)
          · exact h
          · exact absurd ⟨h.2, by omega⟩ q
    have hno : s.ow ∉ wo s.sh r := fun h => H.no ((wo_mem _ _ _).1 h).1
    unfold dto
    rw [R.sh, R.ow]
    have e4 : ∀ k t, dmsg d k t = msg s k t := fun k t => by unfold dmsg msg; rw [R.ln]
    have ha : (if (n : Int) ∈ inv s r then [msg s (if (n : Int) = s.ow then 6 else 4) n] else []) = (if (n : Int) ∈ wo s.sh r ∧ (n : Int) ≠ s.ow then [dmsg d 4 n] else []) ++ (if (n : Int) = s.ow ∧ (n : Int) ≠ r then [dmsg d 6 n] else []) := by
      rw [e4, e4]
      by_cases h1 : (n : Int) = s.ow
      · by_cases h2 : (n : Int) = r
        · have : ¬ (n : Int) ∈ inv s r := by
            rw [hmem]
            rintro (h | h)
            · rw [h1] at h; exact hno h
            · omega
          rw [if_neg this, if_neg (by omega), if_neg (by omega)]
          rfl
        · have : (n : Int) ∈ inv s r := by
            rw [hmem]
            exact Or.inr ⟨h1, by omega⟩
          rw [if_pos this, if_pos h1, if_neg (fun h => h.2 h1), if_pos ⟨h1, h2⟩]
          rfl
      · have hz : ¬ ((n : Int) = s.ow ∧ (n : Int) ≠ r) := fun h => h1 h.1
        rw [if_neg hz, if_neg h1]
        by_cases h2 : (n : Int) ∈ wo s.sh r
        · have : (n : Int) ∈ inv s r := by
            rw [hmem]; exact Or.inl h2
          rw [if_pos this, if_pos ⟨h2, h1⟩]
          rfl
        · have : ¬ (n : Int) ∈ inv s r := by
            rw [hmem]
            rintro (h | h)
            · exact h2 h
            · exact h1 h.1
          rw [if_neg this, if_neg (fun h => h2 h.1)]
          rfl
    rw [← ha]
    by_cases q : (n : Int) ∈ inv s r
    · simp [q]
    · simp [q]
theorem inv_up (H : Hok s) (r : Int) : Up1 (inv s r) := by
  unfold inv
  split
  · exact ins_up _ _ (wo_up H.us _)
  · exact wo_up H.us _
theorem inv_in (H : Hok s) (r : Int) : ∀ x ∈ inv s r, 0 ≤ x ∧ x < s.hs := by
  intro x hx
  have o0 := H.o0
  have o1 := H.o1
  unfold inv at hx
  split at hx
  · rcases (ins_mem _ _ _).1 hx with rfl | hx
    · omega
    · exact H.ls x ((wo_mem _ _ _).1 hx).1
  · exact H.ls x ((wo_mem _ _ _).1 hx).1
theorem dout_inv (R : Rl0 s d) (H : Hok s) (r : Int) : dout d r (wo d.sh r) d.hs.toNat = invM s r := by
  rw [dout_eq R H]
  unfold invM
  congr 1
  refine up_eq _ _ (up_range _ _) (inv_up H r) (fun y => ?_)
  rw [List.mem_filter, List.mem_map]
  constructor
  · rintro ⟨_, h⟩
    exact of_decide_eq_true h
  · intro h
    have hb := inv_in H r y h
    have := R.hs
    exact ⟨⟨y.toNat, List.mem_range.2 (by omega), by omega⟩, decide_eq_true h⟩
theorem Rl.dM (RR : Rl s d) (H : Hok s) (r : Int) (h0 : 0 ≤ r) (h1 : r < s.hs) (hi : s.sv = -1) : Rl (gM s r).1 (dM d r).1 ∧ (dM d r).2 = (gM s r).2 := by
  have R := RR.r
  have hz := H.bz hi
  have o0 := H.o0
  have o1 := H.o1
  have hsn : d.hs = s.hs := R.hs
  have hbk : s.bk = mg0 := RR.bk (Or.inl (by unfold wt; rw [hz.1, hz.2]; rfl))
  have hfr : (dM1 d r).fr = (gM0 s r).te := by
    show dfr d r d.hs.toNat = (if s.ow ≠ r ∧ s.ow ≠ -1 then s.ow else s.te)
    unfold dfr
    rw [R.ow, R.fr]
    by_cases q : s.ow ≠ r ∧ s.ow ≠ -1
    · rw [if_pos q, if_pos ⟨by omega, by omega, q.1⟩]
    · rw [if_neg q, if_neg (by rintro ⟨a, _, b⟩; exact q ⟨b, by omega⟩)]
  have hws : (dM1 d r).ws = (gM0 s r).ac := by
    show (if 0 ≤ d.ow then wo (wo d.sh r) d.ow else wo d.sh r) = wo s.sh r
    rw [R.sh, R.ow]
    split
    · exact wo_out (fun h => H.no ((wo_mem _ _ _).1 h).1)
    · rfl
  have hown : (dM1 d r).own = decide ((gM0 s r).ow = (gM0 s r).sv) := by show decide (d.ow = r) = decide (s.ow = r); rw [R.ow]
  have R0 : Rl0 (gM0 s r) (dM1 d r) := ⟨R.ln, R.hs, R.e0, R.e1, R.e2, R.e3, R.ow, R.sh, by show true = decide (r ≠ -1); rw [decide_eq_true (by omega)], fun _ => ⟨rfl, rfl, Or.inr rfl⟩, hws, hfr, fun _ => rfl⟩
  have hH : Hok (gM0 s r) := H.gM0 r h0 h1 hi
  have hA := R0.dA hH (by show r ≠ -1; omega) rfl hbk.symm hown
  have hinv : wt (gM0 s r) = false → invM s r = [] := fun hw => by
    have := wt_false hw
    have h1 : wo s.sh r = [] := this.1
    have h2 : (if s.ow ≠ r ∧ s.ow ≠ -1 then s.ow else s.te) = -1 := this.2
    unfold invM inv
    by_cases q : s.ow ≠ r ∧ s.ow ≠ -1
    · rw [if_pos q] at h2
      exact absurd h2 q.2
    · rw [if_neg q, h1]
      rfl
  unfold W.dM gM
  by_cases q : (dM1 d r).ws = [] ∧ (dM1 d r).fr < 0
  · rw [if_pos q]
    have hd : W.dA (dM1 d r) = dgv (dM1 d r) := if_pos q
    rw [hd] at hA
    refine ⟨hA.1, ?_⟩
    have hw : wt (gM0 s r) = false := by
      cases h : wt (gM0 s r)
      · rfl
      · exfalso
        unfold wt at h
        rw [← hws, ← hfr, q.1] at h
        have : (dM1 d r).fr ≠ -1 := by simpa using h
        have hte := hH.tw
        rw [← hfr] at hte
        have := hte this
        have h0 := hH.o0
        omega
    rw [hinv hw, hA.2]
    rfl
  · rw [if_neg q]
    have hd : W.dA (dM1 d r) = (dM1 d r, []) := if_neg q
    rw [hd] at hA
    refine ⟨hA.1, ?_⟩
    rw [← hA.2, dout_inv R H]
    simp
theorem Rl.take (RR : Rl s d) (H : Hok s) (m : Mg) (hk : W.tk s m = true) : Rl (take s m).1 (dtake d m).1 ∧ (dtake d m).2 = (take s m).2 := by
  have R := RR.r
  obtain ⟨f0, f1, _, _⟩ := tk_from hk
  unfold W.take dtake
  rw [if_neg (by rw [hk]; simp)]
  have hnot : ¬ (m.l ≠ s.ln ∨ m.t ≠ -1 ∨ m.f < 0 ∨ s.hs ≤ m.f) := fun h => by unfold W.tk at hk; rw [if_pos h] at hk; cases hk
  unfold W.tk at hk
  rw [if_neg hnot] at hk
  have em : ∀ k t, dmsg d k t = msg s k t := fun k t => by unfold dmsg msg; rw [R.ln]
  split
  · -- GetS
    rename_i e
    rw [if_pos (Or.inl e)] at hk
    have hi := of_decide_eq_true hk
    have hz := H.bz hi
    have hbk : s.bk = mg0 := RR.bk (Or.inl (by unfold wt; rw [hz.1, hz.2]; rfl))
    have hb : true = decide (m.f ≠ -1) := (decide_eq_true (by omega)).symm
    have o0 := H.o0
    unfold dS gS
    by_cases q : s.ow ≠ -1 ∧ s.ow ≠ m.f
    · rw [if_pos q, if_pos (by rw [R.ow]; omega)]
      refine ⟨⟨⟨R.ln, R.hs, R.e0, R.e1, R.e2, R.e3, R.ow, R.sh, hb, fun _ => ⟨rfl, rfl, Or.inl rfl⟩, R.ws, R.ow, fun h => absurd hz.2 h⟩, fun _ h => by simp at h, fun _ => hbk⟩, ?_⟩
      rw [em, R.ow]
    · have q' : ¬ (0 ≤ d.ow ∧ d.ow ≠ m.f) := by rw [R.ow]; omega
      rw [if_neg q, if_neg q', R.sh]
      by_cases q2 : wo s.sh m.f = []
      · rw [if_pos q2, if_pos q2]
        refine ⟨⟨⟨R.ln, R.hs, R.e0, R.e1, R.e2, R.e3, rfl, rfl, hb, fun _ => ⟨rfl, rfl, Or.inl rfl⟩, R.ws, R.fr, fun h => absurd hz.2 h⟩, fun _ h => by simp at h, fun _ => hbk⟩, ?_⟩
        unfold ddat dat
        rw [R.ln, R.e0, R.e1, R.e2, R.e3]
      · rw [if_neg q2, if_neg q2]
        refine ⟨⟨⟨R.ln, R.hs, R.e0, R.e1, R.e2, R.e3, rfl, ?_, hb, fun _ => ⟨rfl, rfl, Or.inl rfl⟩, R.ws, R.fr, fun h => absurd hz.2 h⟩, fun _ h => by simp at h, fun _ => hbk⟩, ?_⟩
        · show srt (s.sh ++ [m.f]) = ins m.f (wo s.sh m.f)
          refine up_eq _ _ (srt_up _) (ins_up _ _ (wo_up H.us _)) (fun y => ?_)
          rw [srt_mem, ins_mem, wo_mem, List.mem_append, List.mem_singleton]
          constructor
          · rintro (h | h)
            · by_cases e : y = m.f
              · exact Or.inl e
              · exact Or.inr ⟨h, e⟩
            · exact Or.inl h
          · rintro (h | h)
            · exact Or.inr h
            · exact Or.inl h.1
        · unfold ddat dat
          rw [R.ln, R.e0, R.e1, R.e2, R.e3]
  split
  · rename_i e
    rw [if_pos (Or.inr (Or.inl e))] at hk
    exact RR.dM H _ f0 f1 (of_decide_eq_true hk)
  split
  · rename_i e
    rw [if_pos (Or.inr (Or.inr e))] at hk
    have hi := of_decide_eq_true hk
    have hz := H.bz hi
    have hbk : s.bk = mg0 := RR.bk (Or.inl (by unfold wt; rw [hz.1, hz.2]; rfl))
    unfold dP pt
    rw [R.ow, R.sh, R.e0, R.e1, R.e2, R.e3, em]
    have ec : (s.ow = m.f) = (m.f = s.ow) := propext eq_comm
    simp only [ec]
    exact ⟨⟨⟨R.ln, R.hs, rfl, rfl, rfl, rfl, rfl, rfl, R.bz, fun h => absurd hi h, R.ws, R.fr, fun h => absurd hz.2 h⟩, fun h => by
      unfold wt at h
      dsimp only at h
      rw [hz.1, hz.2] at h
      simp at h, fun _ => hbk⟩, trivial⟩
  rename_i n1 n2 n3
  rw [if_neg (by omega)] at hk
  split
  · rename_i e
    rw [if_pos e] at hk
    have hm := of_decide_eq_true hk
    have hne : s.sv ≠ -1 := fun q => by have := (H.bz q).2; rw [this] at hm; simp at hm
    have hac : s.ac ≠ [] := fun q => by rw [q] at hm; simp at hm
    have h2 := R.ac hac
    have hw : wt s = true := by
      unfold wt
      cases h : s.ac with
      | nil => exact absurd h hac
      | cons x l => rfl
    have hw2 := RR.w2 hw h2
    have H' : Hok { s with ac := wo s.ac m.f } := ⟨H.us, wo_up H.ua _, H.ls, fun x hx => H.la x ((wo_mem _ _ _).1 hx).1, H.h1, H.h4, H.no, H.o0, H.o1, H.s0, H.s1, fun h => absurd h hne, H.tw⟩
    have R' : Rl0 { s with ac := wo s.ac m.f } { d with ws := wo d.ws m.f } := ⟨R.ln, R.hs, R.e0, R.e1, R.e2, R.e3, R.ow, R.sh, R.bz, R.by_, by show wo d.ws m.f = wo s.ac m.f; rw [R.ws], R.fr, fun _ => h2⟩
    exact R'.dA H' hne h2 hw2.1 hw2.2
  rename_i n10
  rw [if_neg n10] at hk
  split
  · rename_i e
    rw [if_pos e] at hk
    have ht := of_decide_eq_true hk
    have hte : s.te ≠ -1 := by omega
    have hw := H.tw hte
    have hne : s.sv ≠ -1 := fun q => hte (H.bz q).1
    obtain ⟨q1, q2, q3⟩ := R.by_ hne
    have hwt : wt s = true := by
      unfold wt
      rw [decide_eq_true hte, Bool.or_true]
    by_cases h2 : s.b_ = 2
    · have hw2 := RR.w2 hwt h2
      rw [if_neg (by omega), if_pos (by omega)]
      have H' : Hok { s with te := -1, bk := m } := ⟨H.us, H.ua, H.ls, H.la, H.h1, H.h4, H.no, H.o0, H.o1, H.s0, H.s1, fun h => absurd h hne, fun h => absurd rfl h⟩
      have R' : Rl0 { s with te := -1, bk := m } { d with fr := -1, had := m } := ⟨R.ln, R.hs, R.e0, R.e1, R.e2, R.e3, R.ow, R.sh, R.bz, R.by_, R.ws, rfl, fun _ => h2⟩
      exact R'.dA H' hne h2 rfl hw2.2
    · have h1 : s.b_ = 1 := by omega
      rw [if_pos h1, if_neg (by omega)]
      have hbk := RR.bk (Or.inr h1)
      have hac : s.ac = [] := by
        cases h : s.ac with
        | nil => rfl
        | cons x l => have := R.ac (by rw [h]; simp); omega
      have hws : wt { s with te := -1 } = false := by unfold wt; dsimp only; rw [hac]; rfl
      have h3 : ∀ o l, wt { s with te := -1, ow := o, sh := l } = false := fun o l => hws
      have e1 : ∀ l : List Int, Up1 l → srt (l ++ [s.sv]) = ins s.sv l := fun l hl => by rw [srt_snoc, srt_self l hl]
      unfold dB sB
      rw [R.sh, q1]
      by_cases c1 : m.d = true
      · rw [if_pos c1, if_pos c1]
        refine ⟨⟨⟨R.ln, R.hs, R.e0, R.e1, R.e2, R.e3, R.ow, e1 _ H.us, R.bz, fun _ => ⟨rfl, q2, q3⟩, R.ws, rfl, R.ac⟩, fun h _ => ?_, fun _ => hbk⟩, ?_⟩
        · have := h3 s.ow (ins s.sv s.sh)
          rw [this] at h
          cases h
        · rw [ddat_eq R _ _ _ _ _ _ q1]
          rfl
      · rw [if_neg c1, if_neg c1]
        by_cases c2 : m.h = true
        · rw [if_pos c2, if_pos c2]
          refine ⟨⟨⟨R.ln, R.hs, R.e0, R.e1, R.e2, R.e3, rfl, ?_, R.bz, fun _ => ⟨rfl, q2, q3⟩, R.ws, rfl, R.ac⟩, fun h _ => ?_, fun _ => hbk⟩, ?_⟩
          · show srt (srt (s.sh ++ [s.sv]) ++ [m.f]) = ins s.sv (ins m.f s.sh)
            rw [e1 _ H.us, srt_snoc, srt_self _ (ins_up _ _ H.us)]
            refine up_eq _ _ (ins_up _ _ (ins_up _ _ H.us)) (ins_up _ _ (ins_up _ _ H.us)) (fun y => ?_)
            rw [ins_mem, ins_mem, ins_mem, ins_mem]
            constructor
            · rintro (h | h | h)
              · exact Or.inr (Or.inl h)
              · exact Or.inl h
              · exact Or.inr (Or.inr h)
            · rintro (h | h | h)
              · exact Or.inr (Or.inl h)
              · exact Or.inl h
              · exact Or.inr (Or.inr h)
          · have := h3 (-1) (ins s.sv (ins m.f s.sh))
            rw [this] at h
            cases h
          · rw [ddat_eq R _ _ _ _ _ _ q1]
            rfl
        · rw [if_neg c2, if_neg c2]
          refine ⟨⟨⟨R.ln, R.hs, R.e0, R.e1, R.e2, R.e3, rfl, e1 _ H.us, R.bz, fun _ => ⟨rfl, q2, q3⟩, R.ws, rfl, R.ac⟩, fun h _ => ?_, fun _ => hbk⟩, ?_⟩
          · have := h3 (-1) (ins s.sv s.sh)
            rw [this] at h
            cases h
          · rw [ddat_eq R _ _ _ _ _ _ q1, R.e0, R.e1, R.e2, R.e3]
            rfl
  · rename_i n11
    rw [if_neg n11] at hk
    split at hk
    · rw [Bool.and_eq_true] at hk
      have hw := wt_false (by simpa using hk.2)
      have hwt : wt s = false := by simpa using hk.2
      have hbk := RR.bk (Or.inl hwt)
      have hwt' : wt { s with sv := -1 } = false := hwt
      exact ⟨⟨⟨R.ln, R.hs, R.e0, R.e1, R.e2, R.e3, R.ow, R.sh, rfl, fun h => absurd rfl h, R.ws, R.fr, R.ac⟩, (fun h => by rw [hwt'] at h; cases h), fun _ => hbk⟩, rfl⟩
    · cases hk
end W
end Go.Proofs.Ytadkpelcbnljbaa
