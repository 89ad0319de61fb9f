/- lone: a line in a cache, the code's and the document's, on numbers. -/
import Derived.Test.YtogchippkenppaaLonM0
namespace Go.Proofs.Ytogchippkenppaa
set_option linter.unusedVariables false
set_option linter.unusedSimpArgs false

namespace W
/-- The code's line. -/
structure Lo where
  ln : Int
  ht : Int
  wt : Int
  hd : Int
  e0 : Int
  e1 : Int
  e2 : Int
  e3 : Int
def lo0 (ln ht : Int) : Lo := ⟨ln, ht, 0, 0, 0, 0, 0, 0⟩
def lmk (l h k : Int) : Mg := ⟨k, l, h, -1, 0, 0, 0, 0, false, false, false⟩
namespace Lo
def st (s : Lo) : Int := if s.wt = 3 then 0 else s.hd
def msg (s : Lo) (k : Int) : Mg := lmk s.ln s.ht k
def tell (s : Lo) (k : Int) : Mg := if s.hd = 2 then ⟨k, s.ln, s.ht, -1, s.e0, s.e1, s.e2, s.e3, true, false, false⟩ else if s.hd = 3 then ⟨k, s.ln, s.ht, -1, s.e0, s.e1, s.e2, s.e3, true, true, false⟩ else if s.hd = 4 then ⟨k, s.ln, s.ht, -1, s.e0, s.e1, s.e2, s.e3, true, true, false⟩ else s.msg k
def drop (s : Lo) : Lo := ⟨s.ln, s.ht, s.wt, 0, 0, 0, 0, 0⟩
def share (s : Lo) : Lo := if s.hd = 4 then ⟨s.ln, s.ht, s.wt, 3, s.e0, s.e1, s.e2, s.e3⟩ else if s.hd = 2 then ⟨s.ln, s.ht, s.wt, 1, s.e0, s.e1, s.e2, s.e3⟩ else s
def can (s : Lo) (b : Bool) : Bool := if s.wt = 0 then (if b = true then (if s.hd = 2 then true else if s.hd = 4 then true else false) else (if s.hd = 0 then false else true)) else false
def tk (s : Lo) (m : Mg) : Bool := if m.l = s.ln ∧ m.t = s.ht ∧ m.f = -1 then (if m.k = 4 ∨ m.k = 5 ∨ m.k = 6 then true else if m.k = 7 then (if s.wt = 1 ∨ s.wt = 2 then true else false) else if m.k = 8 then (if s.wt = 2 ∧ s.hd ≠ 0 then true else false) else if m.k = 9 then (if s.wt = 3 then true else false) else false) else false
def giv (s : Lo) (m : Mg) : Int := if s.wt = 2 then (if m.d = true then 4 else 2) else if m.a = true then 2 else 1
/-- What a line that takes a message is then, and what it sends. -/
def tak (s : Lo) (m : Mg) : Lo × List Mg :=
  if m.k = 4 then (if s.wt = 3 then s else s.drop, [s.msg 10])
  else if m.k = 5 then (s.share, [s.tell 11])
  else if m.k = 6 then (s.drop, [s.tell 11])
  else if m.k = 9 then (⟨s.ln, s.ht, 0, 0, 0, 0, 0, 0⟩, [])
  else if m.k = 7 then (⟨s.ln, s.ht, 0, s.giv m, m.d0, m.d1, m.d2, m.d3⟩, [s.msg 12])
  else (⟨s.ln, s.ht, 0, 4, s.e0, s.e1, s.e2, s.e3⟩, [s.msg 12])
def take (s : Lo) (m : Mg) : Lo × List Mg × Bool :=
  if s.tk m = true then ((s.tak m).1, (s.tak m).2, if s.st = 0 then false else if (s.tak m).1.st = 0 then true else false) else (s, [], false)
def ask (s : Lo) (b : Bool) : Lo × List Mg × Bool :=
  if s.wt = 0 ∧ s.can b = false then (⟨s.ln, s.ht, if b = true then 2 else 1, s.hd, s.e0, s.e1, s.e2, s.e3⟩, [s.msg (if b = true then 2 else 1)], true) else (s, [], false)
def evict (s : Lo) : Lo × List Mg × Bool :=
  if s.can false = true then (if s.hd = 1 then (s.drop, [], true) else (⟨s.ln, s.ht, 3, s.hd, s.e0, s.e1, s.e2, s.e3⟩, [s.tell 3], true)) else (s, [], false)
def set (s : Lo) (x0 x1 x2 x3 : Int) : Lo × Bool := if s.can true = true then (⟨s.ln, s.ht, s.wt, 4, x0, x1, x2, x3⟩, true) else (s, false)
end Lo
/-- The document's line. -/
structure Ld where
  ln : Int
  ht : Int
  st : Int
  wt : Int
  e0 : Int
  e1 : Int
  e2 : Int
  e3 : Int
  kp : Int
def ld0 (ln ht : Int) : Ld := ⟨ln, ht, 0, 0, 0, 0, 0, 0, 0⟩
namespace Ld
def can (s : Ld) (b : Bool) : Bool := if s.wt = 0 then (if s.st = 0 then false else if b = true then (if s.st = 2 then true else if s.st = 4 then true else false) else true) else false
def msg (s : Ld) (k : Int) : Mg := lmk s.ln s.ht k
def full (s : Ld) (k t : Int) : Mg := ⟨k, s.ln, s.ht, -1, s.e0, s.e1, s.e2, s.e3, true, if t = 3 then true else if t = 4 then true else false, false⟩
def ask (s : Ld) (b : Bool) : Ld × List Mg × Bool :=
  if s.wt = 0 ∧ s.can b = false then (⟨s.ln, s.ht, s.st, if b = true then 2 else 1, s.e0, s.e1, s.e2, s.e3, s.kp⟩, [s.msg (if b = true then 2 else 1)], true) else (s, [], false)
def evict (s : Ld) : Ld × List Mg × Bool :=
  if s.wt = 0 ∧ s.st ≠ 0 then (if s.st = 1 then (⟨s.ln, s.ht, 0, s.wt, s.e0, s.e1, s.e2, s.e3, s.kp⟩, [], true) else (⟨s.ln, s.ht, 0, 3, s.e0, s.e1, s.e2, s.e3, s.st⟩, [s.full 3 s.st], true)) else (s, [], false)
def tk (s : Ld) (m : Mg) : Bool := if m.l = s.ln ∧ m.t = s.ht ∧ m.f = -1 then (if m.k = 4 ∨ m.k = 5 ∨ m.k = 6 then true else if m.k = 7 then (if s.wt = 1 ∨ s.wt = 2 then true else false) else if m.k = 8 then (if s.wt = 2 ∧ s.st ≠ 0 then true else false) else if m.k = 9 then (if s.wt = 3 then true else false) else false) else false
/-- What it was when it was evicted, or is. -/
def stt (s : Ld) : Int := if s.wt = 3 then s.kp else s.st
def tak (s : Ld) (m : Mg) : Ld × List Mg :=
  if m.k = 4 then (⟨s.ln, s.ht, 0, s.wt, s.e0, s.e1, s.e2, s.e3, s.kp⟩, [s.msg 10])
  else if m.k = 5 then
    (if s.stt = 0 ∨ s.stt = 1 then (s, [s.msg 11])
     else (if s.wt = 3 then ⟨s.ln, s.ht, s.st, s.wt, s.e0, s.e1, s.e2, s.e3, if s.stt = 2 then 1 else 3⟩ else ⟨s.ln, s.ht, if s.stt = 2 then 1 else 3, s.wt, s.e0, s.e1, s.e2, s.e3, s.kp⟩, [s.full 11 s.stt]))
  else if m.k = 6 then (⟨s.ln, s.ht, 0, s.wt, s.e0, s.e1, s.e2, s.e3, 0⟩, [if s.stt = 0 ∨ s.stt = 1 then s.msg 11 else s.full 11 s.stt])
  else if m.k = 7 then (⟨s.ln, s.ht, if s.wt = 2 ∧ m.d = true then 4 else if s.wt = 2 ∨ m.a = true then 2 else 1, 0, m.d0, m.d1, m.d2, m.d3, s.kp⟩, [s.msg 12])
  else if m.k = 8 then (⟨s.ln, s.ht, 4, 0, s.e0, s.e1, s.e2, s.e3, s.kp⟩, [s.msg 12])
  else if m.k = 9 then (⟨s.ln, s.ht, s.st, 0, s.e0, s.e1, s.e2, s.e3, 0⟩, [])
  else (s, [])
end Ld
def LoOk (s : Lo) : Prop := (s.wt = 0 ∨ s.wt = 1 ∨ s.wt = 2 ∨ s.wt = 3) ∧ (s.hd = 0 ∨ s.hd = 1 ∨ s.hd = 2 ∨ s.hd = 3 ∨ s.hd = 4)
/-- Both lines are the same. -/
structure Rl (s : Lo) (d : Ld) : Prop where
  ln : d.ln = s.ln
  ht : d.ht = s.ht
  wt : d.wt = s.wt
  st : d.st = s.st
  hd : s.hd = if s.wt = 3 then d.kp else d.st
  ok : LoOk s
  da : s.hd ≠ 0 → d.e0 = s.e0 ∧ d.e1 = s.e1 ∧ d.e2 = s.e2 ∧ d.e3 = s.e3
  no : s.st = 0 → True
theorem Rl.new (l h : Int) : Rl (lo0 l h) (ld0 l h) := ⟨rfl, rfl, rfl, rfl, rfl, ⟨Or.inl rfl, Or.inl rfl⟩, fun h => absurd rfl h, fun _ => trivial⟩
theorem Rl.can {s : Lo} {d : Ld} (h : Rl s d) (b : Bool) : d.can b = s.can b := by
  obtain ⟨l, t, w, k, a0, a1, a2, a3⟩ := s
  obtain ⟨l', t', st', w', b0, b1, b2, b3, kp⟩ := d
  obtain ⟨h1, h2, h3, h4, h5, ⟨h6, h7⟩, h8, _⟩ := h
  simp only [Lo.st] at *
  subst h1 h2 h3 h4
  clear h5 h8
  rcases h6 with rfl | rfl | rfl | rfl <;> rcases h7 with rfl | rfl | rfl | rfl | rfl <;> cases b <;> simp [Ld.can, Lo.can, Lo.st]
theorem Rl.tk {s : Lo} {d : Ld} (h : Rl s d) (m : Mg) : d.tk m = s.tk m := by
  obtain ⟨l, t, w, k, a0, a1, a2, a3⟩ := s
  obtain ⟨l', t', st', w', b0, b1, b2, b3, kp⟩ := d
  obtain ⟨h1, h2, h3, h4, h5, ⟨h6, h7⟩, h8, _⟩ := h
  simp only [Lo.st] at *
  subst h1 h2 h3 h4
  unfold Ld.tk Lo.tk
  rcases h6 with rfl | rfl | rfl | rfl <;> simp
theorem Rl.ask {s : Lo} {d : Ld} (h : Rl s d) (b : Bool) : Rl (s.ask b).1 (d.ask b).1 ∧ (d.ask b).2 = (s.ask b).2 := by
  have hc := h.can b
  obtain ⟨l, t, w, k, a0, a1, a2, a3⟩ := s
  obtain ⟨l', t', st', w', b0, b1, b2, b3, kp⟩ := d
  have h' := h
  obtain ⟨h1, h2, h3, h4, h5, ⟨h6, h7⟩, h8, _⟩ := h
  simp only [Lo.st] at h1 h2 h3 h4 h5 h8
  subst h1 h2 h3 h4
  unfold Ld.ask Lo.ask
  rw [hc]
  by_cases e : w' = 0 ∧ (⟨l', t', w', k, a0, a1, a2, a3⟩ : Lo).can b = false
  · rw [if_pos e, if_pos e]
    obtain ⟨rfl, _⟩ := e
    refine ⟨⟨rfl, rfl, rfl, ?_, ?_, ⟨?_, h7⟩, h8, fun _ => trivial⟩, rfl⟩ <;> cases b <;> simp [Lo.st] at *
  · rw [if_neg e, if_neg e]
    exact ⟨h', rfl⟩
theorem Rl.evict {s : Lo} {d : Ld} (h : Rl s d) : Rl s.evict.1 d.evict.1 ∧ d.evict.2 = s.evict.2 := by
  obtain ⟨l, t, w, k, a0, a1, a2, a3⟩ := s
  obtain ⟨l', t', st', w', b0, b1, b2, b3, kp⟩ := d
  have h' := h
  obtain ⟨h1, h2, h3, h4, h5, ⟨h6, h7⟩, h8, _⟩ := h
  simp only [Lo.st] at h1 h2 h3 h4 h5 h8
  subst h1 h2 h3 h4
  by_cases hw : w' = 0
  · subst hw
    rcases h7 with rfl | rfl | rfl | rfl | rfl
    · exact ⟨h', rfl⟩
    · exact ⟨⟨rfl, rfl, rfl, rfl, rfl, ⟨Or.inl rfl, Or.inl rfl⟩, fun h => absurd rfl h, fun _ => trivial⟩, rfl⟩
    all_goals
      obtain ⟨rfl, rfl, rfl, rfl⟩ := h8 (by decide)
      exact ⟨⟨rfl, rfl, rfl, rfl, rfl, ⟨by simp [Lo.evict, Lo.can], by simp [Lo.evict, Lo.can]⟩, fun _ => ⟨rfl, rfl, rfl, rfl⟩, fun _ => trivial⟩, rfl⟩
  · have e1 : (⟨l', t', w', k, a0, a1, a2, a3⟩ : Lo).evict = (⟨l', t', w', k, a0, a1, a2, a3⟩, [], false) := by simp [Lo.evict, Lo.can, hw]
    have e2 : ∀ z, (⟨l', t', z, w', b0, b1, b2, b3, kp⟩ : Ld).evict = (⟨l', t', z, w', b0, b1, b2, b3, kp⟩, [], false) := by intro z; simp [Ld.evict, hw]
    rw [e1, e2]
    exact ⟨h', rfl⟩
/-- Set, as the law has it of the document's line. -/
theorem Rl.set {s : Lo} {d : Ld} (h : Rl s d) (x0 x1 x2 x3 : Int) : (s.set x0 x1 x2 x3).2 = d.can true ∧ Rl (s.set x0 x1 x2 x3).1 (if d.can true = true then ⟨d.ln, d.ht, 4, d.wt, x0, x1, x2, x3, d.kp⟩ else d) := by
  have hc := h.can true
  rw [hc]
  unfold Lo.set
  by_cases e : s.can true = true
  · rw [if_pos e, if_pos e, e]
    have hw : s.wt = 0 := by
      unfold Lo.can at e
      by_cases q : s.wt = 0
      · exact q
      · rw [if_neg q] at e; cases e
    refine ⟨rfl, h.ln, h.ht, h.wt, ?_, ?_, ⟨Or.inl hw, by simp⟩, fun _ => ⟨rfl, rfl, rfl, rfl⟩, fun _ => trivial⟩ <;> simp [Lo.st, hw]
  · rw [if_neg e, if_neg e]
    exact ⟨by simpa using e, h⟩
theorem Lo.tk_kind {s : Lo} {m : Mg} (hk : s.tk m = true) : m.k = 4 ∨ m.k = 5 ∨ m.k = 6 ∨ (m.k = 7 ∧ (s.wt = 1 ∨ s.wt = 2)) ∨ (m.k = 8 ∧ s.wt = 2 ∧ s.hd ≠ 0) ∨ (m.k = 9 ∧ s.wt = 3) := by
  unfold Lo.tk at hk
  by_cases hh : m.l = s.ln ∧ m.t = s.ht ∧ m.f = -1
  · rw [if_pos hh] at hk
    by_cases h1 : m.k = 4 ∨ m.k = 5 ∨ m.k = 6
    · rcases h1 with h | h | h <;> simp [h]
    · rw [if_neg h1] at hk
      by_cases h2 : m.k = 7
      · rw [if_pos h2] at hk
        by_cases q : s.wt = 1 ∨ s.wt = 2
        · simp [h2, q]
        · rw [if_neg q] at hk; cases hk
      · rw [if_neg h2] at hk
        by_cases h3 : m.k = 8
        · rw [if_pos h3] at hk
          by_cases q : s.wt = 2 ∧ s.hd ≠ 0
          · simp [h3, q]
          · rw [if_neg q] at hk; cases hk
        · rw [if_neg h3] at hk
          by_cases h4 : m.k = 9
          · rw [if_pos h4] at hk
            by_cases q : s.wt = 3
            · simp [h4, q]
            · rw [if_neg q] at hk; cases hk
          · rw [if_neg h4] at hk; cases hk
  · rw [if_neg hh] at hk
    cases hk
set_option maxHeartbeats 3200000 in
theorem Rl.take {s : Lo} {d : Ld} (h : Rl s d) (m : Mg) (hk : s.tk m = true) : Rl (s.tak m).1 (d.tak m).1 ∧ (d.tak m).2 = (s.tak m).2 := by
  have hq := Lo.tk_kind hk
  clear hk
  obtain ⟨l, t, w, k, a0, a1, a2, a3⟩ := s
  obtain ⟨l', t', st', w', b0, b1, b2, b3, kp⟩ := d
  obtain ⟨h1, h2, h3, h4, h5, ⟨h6, h7⟩, h8, _⟩ := h
  simp only [Lo.st] at h1 h2 h3 h4 h5 h6 h7 h8 hq
  subst h1 h2 h3 h4
  obtain ⟨mk, ml, mf, mt, m0, m1, m2, m3, mh, md, ma⟩ := m
  simp only at hq
  rcases h6 with rfl | rfl | rfl | rfl <;> rcases h7 with rfl | rfl | rfl | rfl | rfl <;> rcases hq with rfl | rfl | rfl | ⟨rfl, hq⟩ | ⟨rfl, hq, hq2⟩ | ⟨rfl, hq⟩ <;>
    first
      | (exfalso; revert hq; decide)
      | (exfalso; revert hq2; decide)
      | (simp at h5
         try subst h5
         try simp at h8
         try (obtain ⟨rfl, rfl, rfl, rfl⟩ := h8)
         cases md <;> cases ma <;> refine ⟨⟨rfl, rfl, rfl, ?_, ?_, ⟨?_, ?_⟩, ?_, fun _ => trivial⟩, ?_⟩ <;> simp [Lo.tak, Ld.tak, Lo.share, Lo.drop, Lo.tell, Lo.st, Ld.stt, Ld.full, Lo.msg, Ld.msg, Lo.giv])
end W
end Go.Proofs.Ytogchippkenppaa
