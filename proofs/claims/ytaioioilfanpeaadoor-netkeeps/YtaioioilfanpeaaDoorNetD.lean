/- net: which messages go; a net in memory; what a call that writes it leaves as it was. -/
import Derived.Test.YtaioioilfanpeaaDoorNetC
import Derived.Deep.AppendLies
namespace Go.Proofs.YtaioioilfanpeaaDoor
open Go.ChangeShapes Go.WideShapes Go.ChangeAt Go.RowKit
set_option linter.unusedVariables false
set_option linter.unusedSimpArgs false

namespace W
/-- The link's place among the rooms. -/
def lk (h : Int) (m : Mg) : Nat := (cls m.k).toNat * 4 + (endH h m.f m.t (cls m.k)).toNat
/-- Why a message can't go: a place of the list of errors. -/
def adm (h : Int) (R : Nat → Int) (m : Mg) : Option Nat := if cls m.k = -1 then some 1 else if endB h m.f m.t (cls m.k) = false ∨ m.l < 0 then some 2 else if R (lk h m) = 0 then some 6 else none
def dec (h : Int) (R : Nat → Int) (m : Mg) : Nat → Int := updI R (lk h m) (R (lk h m) - 1)
def decs (h : Int) (R : Nat → Int) : List Mg → Nat → Int
  | [] => R
  | m :: l => decs h (dec h R m) l
/-- The first that can't go, and why. -/
def ers (h : Int) (R : Nat → Int) : List Mg → Nat → Option (Nat × Nat)
  | [], _ => none
  | m :: l, i => match adm h R m with
    | some p => some (i, p)
    | none => ers h (dec h R m) l (i + 1)
def Rok (R : Nat → Int) : Prop := ∀ j, j < 12 → 0 ≤ R j ∧ R j ≤ 64
/-- Flights with numbers from nx on. -/
def fls (nx : Int) : List Mg → List Fl
  | [] => []
  | m :: l => ⟨nx, m⟩ :: fls (nx + 1) l
theorem cls_cases (k : Int) : cls k = -1 ∨ cls k = 0 ∨ cls k = 1 ∨ cls k = 2 := by unfold cls; split <;> (try split) <;> (try split) <;> simp
theorem endH_rg (h f t c : Int) (hb : endB h f t c = true) : 0 ≤ endH h f t c ∧ endH h f t c < h := by
  unfold endH
  rw [hb]
  unfold endB at hb
  by_cases h1 : c = 0 ∨ c = 2
  · rw [if_pos h1] at hb
    have := of_decide_eq_true hb
    have c1 : ¬ c = 1 := by omega
    simp only [cond_true, if_neg c1]
    omega
  · rw [if_neg h1] at hb
    by_cases h2 : c = 1
    · rw [if_pos h2] at hb
      have := of_decide_eq_true hb
      simp only [cond_true, if_pos h2]
      omega
    · rw [if_neg h2] at hb
      cases hb
theorem endB_c (h f t c : Int) (hb : endB h f t c = true) : c = 0 ∨ c = 1 ∨ c = 2 := by
  unfold endB at hb
  by_cases h1 : c = 0 ∨ c = 2
  · omega
  · rw [if_neg h1] at hb
    by_cases h2 : c = 1
    · omega
    · rw [if_neg h2] at hb
      cases hb
theorem lk_lt (h : Int) (h4 : h ≤ 4) (m : Mg) (hb : endB h m.f m.t (cls m.k) = true) : lk h m < 12 := by
  have r := endH_rg _ _ _ _ hb
  have c := endB_c _ _ _ _ hb
  unfold lk
  omega
theorem dec_ok {h : Int} {R : Nat → Int} {m : Mg} (hR : Rok R) (ha : adm h R m = none) (h4 : h ≤ 4) : Rok (dec h R m) := by
  intro j hj
  unfold dec updI
  by_cases e : j = lk h m
  · rw [if_pos e]
    have := hR j hj
    unfold adm at ha
    rw [e] at this
    by_cases q : R (lk h m) = 0
    · rw [if_pos q] at ha
      split at ha
      · cases ha
      · split at ha <;> cases ha
    · omega
  · rw [if_neg e]
    exact hR j hj
theorem ers_none_cons {h : Int} {R : Nat → Int} {m : Mg} {l : List Mg} {i : Nat} (he : ers h R (m :: l) i = none) : adm h R m = none ∧ ers h (dec h R m) l (i + 1) = none := by
  unfold ers at he
  cases ha : adm h R m with
  | some p => rw [ha] at he; cases he
  | none => rw [ha] at he; exact ⟨rfl, he⟩
theorem decs_app (h : Int) (R : Nat → Int) (m : Mg) : ∀ (l : List Mg), decs h R (l ++ [m]) = dec h (decs h R l) m := by
  intro l
  induction l generalizing R with
  | nil => rfl
  | cons x l ih => exact ih (dec h R x)
theorem fls_app (m : Mg) : ∀ (l : List Mg) (nx : Int), fls nx (l ++ [m]) = fls nx l ++ [⟨nx + l.length, m⟩]
  | [], nx => by simp [fls]
  | x :: l, nx => by
    simp only [List.cons_append, fls]
    rw [fls_app m l (nx + 1)]
    simp
    omega
theorem fls_len : ∀ (l : List Mg) (nx : Int), (fls nx l).length = l.length
  | [], _ => rfl
  | x :: l, nx => by simp [fls, fls_len l]
/-- Of a list of which all go: each one goes, behind those ahead of it. -/
theorem ers_at {h : Int} : ∀ (l : List Mg) (R : Nat → Int) (i j : Nat) (m : Mg), ers h R l i = none → l[j]? = some m → adm h (decs h R (l.take j)) m = none
  | [], R, i, j, m, _, hj => by simp at hj
  | x :: l, R, i, 0, m, he, hj => by
    obtain rfl : x = m := by simpa using hj
    exact (ers_none_cons he).1
  | x :: l, R, i, j + 1, m, he, hj => ers_at l (dec h R x) (i + 1) j m (ers_none_cons he).2 (by simpa using hj)
theorem decs_ok {h : Int} (h4 : h ≤ 4) : ∀ (l : List Mg) (R : Nat → Int) (i : Nat), Rok R → ers h R l i = none → Rok (decs h R l)
  | [], R, i, hR, _ => hR
  | x :: l, R, i, hR, he => decs_ok h4 l _ (i + 1) (dec_ok hR (ers_none_cons he).1 h4) (ers_none_cons he).2
theorem ers_take {h : Int} : ∀ (l : List Mg) (R : Nat → Int) (i j : Nat), ers h R l i = none → ers h R (l.take j) i = none
  | [], R, i, j, he => by simp [ers]
  | x :: l, R, i, 0, he => by simp [ers]
  | x :: l, R, i, j + 1, he => by
    have q := ers_none_cons he
    simp only [List.take_succ_cons, ers, q.1]
    exact ers_take l _ (i + 1) j q.2
/-- The one that can't go is there, and those ahead of it can. -/
theorem ers_some {h : Int} : ∀ (l : List Mg) (R : Nat → Int) (i k p : Nat), ers h R l i = some (k, p) → ∃ j m, k = i + j ∧ l[j]? = some m ∧ adm h (decs h R (l.take j)) m = some p ∧ ers h R (l.take j) i = none
  | [], R, i, k, p, he => by cases he
  | x :: l, R, i, k, p, he => by
    unfold ers at he
    cases ha : adm h R x with
    | some q =>
      rw [ha] at he
      cases he
      exact ⟨0, x, rfl, rfl, ha, rfl⟩
    | none =>
      rw [ha] at he
      obtain ⟨j, m, rfl, h1, h2, h3⟩ := ers_some l _ (i + 1) k p he
      refine ⟨j + 1, m, by omega, by simpa using h1, h2, ?_⟩
      simp only [List.take_succ_cons, ers, ha]
      exact h3
theorem adm_p {h : Int} {R : Nat → Int} {m : Mg} {p : Nat} (ha : adm h R m = some p) : p = 1 ∨ p = 2 ∨ p = 6 := by
  unfold adm at ha
  split at ha
  · cases ha; simp
  · split at ha
    · cases ha; simp
    · split at ha
      · cases ha; simp
      · cases ha
end W

theorem admit_yes (nb lb : Nat) (h : Int) (h4 : h ≤ 4) (m : W.Mg) (R : Nat → Int) (hR : W.Rok R) (ha : W.adm h R m = none) (w : World) (h0 : w.cell? ⟨nb, 0, none⟩ = some (.int .i64 h)) (hb : Bc lb 12 (rmF R) w) :
    Calls Tryd.prog 30 #[.pointer (some ⟨nb, 0, none⟩), mgV m, .pointer (some ⟨lb, 0, none⟩)] w fun e w' => e = .returned .nilIface ∧ Bc lb 12 (rmF (W.dec h R m)) w' ∧ w.grownBy w' (some lb) := by
  unfold W.adm at ha
  by_cases c1 : W.cls m.k = -1
  · rw [if_pos c1] at ha; cases ha
  · rw [if_neg c1] at ha
    by_cases c2 : W.endB h m.f m.t (W.cls m.k) = false ∨ m.l < 0
    · rw [if_pos c2] at ha; cases ha
    · rw [if_neg c2] at ha
      by_cases c3 : R (W.lk h m) = 0
      · rw [if_pos c3] at ha; cases ha
      · have hB : W.endB h m.f m.t (W.cls m.k) = true := by
          cases q : W.endB h m.f m.t (W.cls m.k)
          · exact absurd (Or.inl q) c2
          · rfl
        have hr := W.endH_rg _ _ _ _ hB
        have hc := W.endB_c _ _ _ _ hB
        have hlt := W.lk_lt h h4 m hB
        have hv := hR _ hlt
        unfold W.dec
        unfold W.lk at *
        have e1 : W.cls m.k = (((W.cls m.k).toNat : Nat) : Int) := by omega
        have e2 : W.endH h m.f m.t (W.cls m.k) = (((W.endH h m.f m.t (W.cls m.k)).toNat : Nat) : Int) := by omega
        refine admit_ok nb lb h m R (W.cls m.k).toNat (W.endH h m.f m.t (W.cls m.k)).toNat e1 (by omega) (by rw [← e1]; exact hB) (by rw [← e1]; exact e2) (by omega) (by omega) (by omega) (by omega) w h0 hb
theorem admit_no (A : Nat → Addr) (nb lb : Nat) (h : Int) (h4 : h ≤ 4) (m : W.Mg) (R : Nat → Int) (hR : W.Rok R) (p : Nat) (ha : W.adm h R m = some p) (w : World) (h0 : w.cell? ⟨nb, 0, none⟩ = some (.int .i64 h)) (hb : Bc lb 12 (rmF R) w) (hS : Sent A w) :
    Calls Tryd.prog 30 #[.pointer (some ⟨nb, 0, none⟩), mgV m, .pointer (some ⟨lb, 0, none⟩)] w fun e w' => e = .returned (ptr A (perm p)) ∧ Below w.heap.size w w' := by
  unfold W.adm at ha
  by_cases c1 : W.cls m.k = -1
  · rw [if_pos c1] at ha
    cases ha
    exact admit_kind A nb lb m c1 w hS
  · rw [if_neg c1] at ha
    have hc := W.cls_cases m.k
    by_cases c2 : W.endB h m.f m.t (W.cls m.k) = false ∨ m.l < 0
    · rw [if_pos c2] at ha
      cases ha
      have e1 : W.cls m.k = (((W.cls m.k).toNat : Nat) : Int) := by omega
      refine admit_place A nb lb h m (W.cls m.k).toNat 0 e1 (W.endB h m.f m.t (W.cls m.k)) (by rw [← e1]) c2 w h0 hS
    · rw [if_neg c2] at ha
      by_cases c3 : R (W.lk h m) = 0
      · rw [if_pos c3] at ha
        cases ha
        have hB : W.endB h m.f m.t (W.cls m.k) = true := by
          cases q : W.endB h m.f m.t (W.cls m.k)
          · exact absurd (Or.inl q) c2
          · rfl
        have hr := W.endH_rg _ _ _ _ hB
        have hlt := W.lk_lt h h4 m hB
        unfold W.lk at *
        have e1 : W.cls m.k = (((W.cls m.k).toNat : Nat) : Int) := by omega
        have e2 : W.endH h m.f m.t (W.cls m.k) = (((W.endH h m.f m.t (W.cls m.k)).toNat : Nat) : Int) := by omega
        exact admit_full A nb lb h m R (W.cls m.k).toNat (W.endH h m.f m.t (W.cls m.k)).toNat e1 (by omega) (by rw [← e1]; exact hB) (by rw [← e1]; exact e2) (by omega) (by omega) c3 w h0 hb hS
      · rw [if_neg c3] at ha
        cases ha

/-- A net's cells. -/
def ntF (h : Int) (R : Nat → Int) (nx : Int) (fv : Value) (j : Nat) : Value := if j = 0 then .int .i64 h else if j < 13 then .int .i64 (R (j - 1)) else if j = 13 then .int .i64 nx else fv
structure Nt (n0 nb : Nat) (h : Int) (R : Nat → Int) (nx : Int) (fv : Value) (L : List W.Fl) (w : World) : Prop where
  b : Bc nb 15 (ntF h R nx fv) w
  o : w.ownsRow n0 66 12 fv L.length (flX L)
  ne : fv.ownBlock ≠ some nb
  n0 : n0 ≤ nb
theorem Nt.c0 {n0 nb : Nat} {h : Int} {R : Nat → Int} {nx : Int} {fv : Value} {L : List W.Fl} {w : World} (H : Nt n0 nb h R nx fv L w) : w.cell? ⟨nb, 0, none⟩ = some (.int .i64 h) := H.b.c 0 (by decide)
theorem Nt.cR {n0 nb : Nat} {h : Int} {R : Nat → Int} {nx : Int} {fv : Value} {L : List W.Fl} {w : World} (H : Nt n0 nb h R nx fv L w) (j : Nat) (hj : j < 12) : w.cell? ⟨nb, 1 + j, none⟩ = some (.int .i64 (R j)) := by
  rw [H.b.c (1 + j) (by omega)]
  unfold ntF
  rw [if_neg (by omega), if_pos (by omega), show 1 + j - 1 = j by omega]
theorem Nt.cN {n0 nb : Nat} {h : Int} {R : Nat → Int} {nx : Int} {fv : Value} {L : List W.Fl} {w : World} (H : Nt n0 nb h R nx fv L w) : w.cell? ⟨nb, 13, none⟩ = some (.int .i64 nx) := H.b.c 13 (by decide)
theorem Nt.cF {n0 nb : Nat} {h : Int} {R : Nat → Int} {nx : Int} {fv : Value} {L : List W.Fl} {w : World} (H : Nt n0 nb h R nx fv L w) : w.cell? ⟨nb, 14, none⟩ = some fv := H.b.c 14 (by decide)
theorem Nt.below {n0 nb : Nat} {h : Int} {R : Nat → Int} {nx : Int} {fv : Value} {L : List W.Fl} {w w' : World} (H : Nt n0 nb h R nx fv L w) (hb : Below w.heap.size w w') : Nt n0 nb h R nx fv L w' :=
  ⟨H.b.below hb, own_below H.o hb, H.ne, H.n0⟩
theorem own_gs {w w' : World} {base : Nat} {e : TypeId} {size : Nat} {v : Value} {n : Nat} {xs : List Value} {S : Nat → Prop} (h : w.ownsRow base e size v n xs) (hg : Gs S w w') (hs : ∀ b, v.ownBlock = some b → ¬ S b) : w'.ownsRow base e size v n xs := by
  rcases h.2 with ⟨h1, h2⟩ | ⟨g, cap, cur, rfl, hbg, hc, hr⟩
  · exact ⟨h.1, Or.inl ⟨h1, h2⟩⟩
  · exact ⟨h.1, Or.inr ⟨g, cap, cur, rfl, hbg, (hg.block g (Array.getElem?_eq_some_iff.1 hc).1 (hs g rfl)).trans hc, hr⟩⟩
theorem Nt.apart {n0 nb : Nat} {h : Int} {R : Nat → Int} {nx : Int} {fv : Value} {L : List W.Fl} {w w' : World} {S : Nat → Prop} (H : Nt n0 nb h R nx fv L w) (hg : Gs S w w') (h1 : ¬ S nb) (h2 : ∀ b, fv.ownBlock = some b → ¬ S b) : Nt n0 nb h R nx fv L w' :=
  ⟨hg.bc H.b h1, own_gs H.o hg h2, H.ne, H.n0⟩
/-- What a call that writes the net may turn: its block, and that of its flights; these stay, or lie in new memory. -/
structure Up (nb : Nat) (fv fv' : Value) (w w' : World) : Prop where
  g : Gs (fun b => b = nb ∨ fv.ownBlock = some b) w w'
  f : fv'.ownBlock = fv.ownBlock ∨ ∃ g, fv'.ownBlock = some g ∧ w.heap.size ≤ g
theorem Up.refl (nb : Nat) (fv : Value) (w : World) : Up nb fv fv w w := ⟨Gs.refl _ _, Or.inl rfl⟩
theorem Up.trans {nb : Nat} {f0 f1 f2 : Value} {x y z : World} (h : Up nb f0 f1 x y) (k : Up nb f1 f2 y z) : Up nb f0 f2 x z := by
  refine ⟨⟨k.g.os.trans h.g.os, k.g.tape.trans h.g.tape, k.g.output.trans h.g.output, Nat.le_trans h.g.size k.g.size, fun b hb hn => (k.g.block b (Nat.lt_of_lt_of_le hb h.g.size) (fun e => ?_)).trans (h.g.block b hb hn)⟩, ?_⟩
  · rcases e with e | e
    · exact hn (Or.inl e)
    · rcases h.f with q | ⟨g, q, hg⟩
      · exact hn (Or.inr (q ▸ e))
      · rw [q] at e
        cases e
        omega
  · rcases k.f with q | ⟨g, q, hg⟩
    · rw [q]; exact h.f
    · exact Or.inr ⟨g, q, Nat.le_trans h.g.size hg⟩
theorem Up.of_below {nb : Nat} {fv : Value} {w w' : World} (h : Below w.heap.size w w') : Up nb fv fv w w' := ⟨Gs.of_below h, Or.inl rfl⟩
/-- Another block of the caller's. -/
theorem Up.other {nb : Nat} {fv fv' : Value} {w w' : World} (h : Up nb fv fv' w w') {b : Nat} (hb : b < w.heap.size) (h1 : b ≠ nb) (h2 : fv.ownBlock ≠ some b) : w'.heap[b]? = w.heap[b]? ∧ fv'.ownBlock ≠ some b := by
  refine ⟨h.g.block b hb (fun e => e.elim h1 h2), fun e => ?_⟩
  rcases h.f with q | ⟨g, q, hg⟩
  · exact h2 (q ▸ e)
  · rw [q] at e
    cases e
    omega
theorem Up.below {nb n : Nat} {fv fv' : Value} {w w' : World} (h : Up nb fv fv' w w') (hn : n ≤ w.heap.size) (h1 : n ≤ nb) (h2 : ∀ b, fv.ownBlock = some b → n ≤ b) : Below n w w' := h.g.below hn (fun b e => e.elim (fun e => e ▸ h1) (h2 b))
theorem Nt.fb {n0 nb : Nat} {h : Int} {R : Nat → Int} {nx : Int} {fv : Value} {L : List W.Fl} {w : World} (H : Nt n0 nb h R nx fv L w) : ∀ b, fv.ownBlock = some b → n0 ≤ b ∧ b < w.heap.size := fun b e => H.o.lt b e
/-- Messages in memory. -/
structure Ms (s : W.Sl) (l : List W.Mg) (w : World) : Prop where
  n : s.n = l.length
  m : s.n ≤ 4096
  nc : s.n ≤ s.c
  at_ : 0 < s.n → ∃ b o, s.a = some ⟨b, o, none⟩ ∧ b < w.heap.size ∧ ∀ j x, l[j]? = some x → w.rangeAt b (o + j * 11) (mgL x)
theorem range_block {w w' : World} {b o : Nat} {cs : List Value} (h : w.rangeAt b o cs) (hq : w'.heap[b]? = w.heap[b]?) : w'.rangeAt b o cs := fun j v hv => (World.cell?_of_block (a := ⟨b, o + j, none⟩) hq).trans (h j v hv)
theorem Ms.block {s : W.Sl} {l : List W.Mg} {w w' : World} (h : Ms s l w) (hz : w.heap.size ≤ w'.heap.size) (hk : ∀ b o, s.a = some ⟨b, o, none⟩ → b < w.heap.size → w'.heap[b]? = w.heap[b]?) : Ms s l w' :=
  ⟨h.n, h.m, h.nc, fun h0 => by
    obtain ⟨b, o, e, hl, hc⟩ := h.at_ h0
    exact ⟨b, o, e, Nat.lt_of_lt_of_le hl hz, fun j x hx => range_block (hc j x hx) (hk b o e hl)⟩⟩
theorem Ms.below {s : W.Sl} {l : List W.Mg} {w w' : World} (h : Ms s l w) (hb : Below w.heap.size w w') : Ms s l w' := h.block hb.size (fun b o _ hl => hb.block b hl)
end Go.Proofs.YtaioioilfanpeaaDoor
