/- Texts in one: DepKk, DepL, Math7. -/
import Derived.Test.YtopehmpjfndgjaaJ04
import Derived.Test.YtopehmpjfndgjaaJ21
import Derived.Test.YtopehmpjfndgjaaJ22
import Derived.Test.YtopehmpjfndgjaaJ23
import Derived.Test.YtopehmpjfndgjaaJ24
import Derived.Test.YtopehmpjfndgjaaJ25
/- take: k. -/
namespace Go.Proofs.Ytopehmpjfndgjaa
open Go.ChangeShapes Go.WideShapes Go.ChangeAt Go.RowKit
set_option linter.unusedVariables false
set_option linter.unusedSimpArgs false

attribute [local go_sem ↓] ldO_eq stL_eq stP_eq bsO_eq
set_option maxRecDepth 100000 in
set_option maxHeartbeats 1600000 in
theorem take_k (n0 : Nat) (w0 : World) (fb : Nat) (r : Nat → List Int) (c : List Int) (L : List Oq) (R : Nat → W.Sl) (C O : W.Sl) (op csr imm : Int) (rd r1 r2 : Nat) (aq rl : Bool) (o : W.Opr) (w : World) (hS : Fs n0 w0 fb (fun _ => False) r c L R C O w) (h1 : r1 < 32) (h2 : r2 < 32) (hd : rd < 32) (hrd : ((rd : Int) != 0) = false) (hk : (o.k != 0) = false) (hc3 : (W.kind op == 3) = false) (hc4 : (op == 4) = true)
    (p1 : (r r1).Pairwise (· < ·)) (p2 : (r r2).Pairwise (· < ·)) (p3 : c.Pairwise (· < ·)) (z1 : (r r1).length ≤ 200) (z2 : (r r2).length ≤ 200) (z3 : c.length ≤ 200) (zL : L.length ≤ 4096) :
    Calls Try.prog 17 #[.pointer (some ⟨fb, 0, none⟩), .agg #[.int .i64 op, .int .i64 (rd : Int), .int .i64 (r1 : Int), .int .i64 (r2 : Int), .int .i64 csr, .int .u32 imm, .bool aq, .bool rl], .agg (opC o W.Sl.nil W.Sl.nil W.Sl.nil)] w fun e w' => e = .returned (.tuple #[]) ∧ ∃ R' C' O' L', Fs n0 w0 fb (fun _ => False) r (W.uni c (W.uni (r r1) (r r2))) L' R' C' O' w' ∧ L'.map Oq.pure = L.map Oq.pure ++ [] := by
  have T := Tk.start w fb ⟨op, rd, r1, r2, csr, imm, aq, rl⟩ (opC o W.Sl.nil W.Sl.nil W.Sl.nil) R C O hS.f
  have hS0 := (hS.more (H := Tw w.heap.size) (fun b hb k => by rcases k with k | k <;> omega)).below (((Below.refl _ w).alloc (Nat.le_refl _) (.cells #[.int .i64 op, .int .i64 (rd : Int), .int .i64 (r1 : Int), .int .i64 (r2 : Int), .int .i64 csr, .int .u32 imm, .bool aq, .bool rl] 47)).alloc (by simp) (.cells (opC o W.Sl.nil W.Sl.nil W.Sl.nil) 32))
  have hK := fun w => kind_any op w
  have hOn := own_n hS.ow
  have hlt := hS.f.lt
  have hn0 := hS.nf
  have hob : some (w.heap.size + 1) ≠ (slV O).ownBlock := fun e => by
    have := (hS.ow.lt _ e.symm).2
    omega
  have U0 : 0 < 1 := by decide
  have hob0 : some w.heap.size ≠ (slV O).ownBlock := fun e => by
    have := (hS.ow.lt _ e.symm).2
    omega
  have hob3 := hS.of
  clear hS
  generalize W.kind op = KD at *
  unfold opC at *
  have q1 : (0 : Int) ≤ (r1 : Int) := Int.natCast_nonneg _
  have q2 : (0 : Int) ≤ (r2 : Int) := Int.natCast_nonneg _
  have q3 : (r1 : Int) < 32 := by omega
  have q4 : (r2 : Int) < 32 := by omega
  have HKd : Hid _ := hK
  clear hK
  go_enter Try.func17, Try.ntmps17
  go_wp2_with (fail)
  generalize World.alloc (World.alloc w _) _ = W0 at *
  have i0 := T.i0
  have i1 := T.i1
  have i2 := T.i2
  have i3 := T.i3
  have o0 := T.o.c 0 rfl
  have g1 := T.f.rg r1 h1
  have g2 := T.f.rg r2 h2
  have fl := T.f.lt
  go_quiet (fail)
  have T1 : Tk _ _ _ _ _ _ _ (W0.drewN nq) := T.below (below_drewN (Below.refl _ _) _)
  have S1 := hS0.below (below_drewN (Below.refl W0.heap.size W0) nq)
  clear T hS0 i0 i1 i2 i3 o0 g1 g2 fl
  generalize World.drewN W0 nq = W1 at *
  have i0 := T1.i0
  have i1 := T1.i1
  have o0 := T1.o.c 0 rfl
  have fl := T1.f.lt
  have lA := S1.rl r1 h1
  have lB := S1.rl r2 h2
  have q5 : (0 : Int) ≤ (rd : Int) := Int.natCast_nonneg _
  have q6 : (rd : Int) < 32 := by omega
  go_wp2_with (fail)
  all_goals
    have T2 := T1
    have S2 := S1
    have lA2 := lA
    have lB2 := lB
    clear T1 S1 lA lB i0 i1 o0
    have i0 := T2.i0
    have o0 := T2.o.c 0 rfl
    have fl := T2.f.lt
    have HT2 : Hid (_ ∧ _ ∧ _ ∧ _) := ⟨T2, S2, lA2, lB2⟩
    have h32 : W1.drew.cell? ⟨fb, 32, none⟩ = some (slV C) := T2.f.ct
    have h31 : W1.cell? ⟨fb, 32, none⟩ = some (slV C) := T2.f.ct
    clear T2 S2 lA2 lB2
    go_wp2_with (fail)
    refine (HKd.out _).mono ?_
    rintro e w9 ⟨rfl, rfl⟩
    go_wp2_with (fail)
    go_region_with (first
      | ((go_at_call_of 27 (slV (R r1)); refine (union_x (R r1) (R r2) (r r1) (r r2) _ (HT2.out.2.2.1.below (Below.refl _ _).drew) (HT2.out.2.2.2.below (Below.refl _ _).drew) p1 p2 (by omega) ((HT2.out.2.1.below (Below.refl _ _).drew).none (HT2.out.1.below (Below.refl _ _).drew).o.lt)).mono ?_; rintro e wa ⟨⟨t1, rfl, k1⟩, ba⟩; have h33 : wa.cell? ⟨fb, 32, none⟩ = some (slV C) := ((HT2.out.1.below (Below.refl _ _).drew).below ba).f.ct))
      | ((go_at_call_of 27 (slV C); refine (union_x C t1 c _ _ ((HT2.out.2.1.below (Below.refl _ _).drew).below ba).cl k1 p3 (W.pw_uni _ _ p2) (by have := W.uni_len (r r1) (r r2); omega) (((HT2.out.2.1.below (Below.refl _ _).drew).below ba).none ((HT2.out.1.below (Below.refl _ _).drew).below ba).o.lt)).mono ?_; rintro e wb ⟨⟨t2, rfl, k2⟩, bb⟩; have st8 : (stL ⟨fb, 32, none⟩ (slV t2)).run Try.prog wb = .ok () (wb.setCell ⟨fb, 32, none⟩ (slV t2)) := stL_at (((HT2.out.1.below (Below.refl _ _).drew).below ba).below bb).f.ct ((((HT2.out.1.below (Below.refl _ _).drew).below ba).below bb).f.fz 32) t2.a t2.n t2.c)))
    all_goals
      have S8 := (((HT2.out.2.1.below (Below.refl _ _).drew).below ba).below bb).setC t2 _ k2
      have HS4 : Hid (Fs _ _ _ _ _ _ _ _ _ _ _) := S8
      clear S8 HT2 k1 k2 ba bb
      go_wp2
      go_end0
      exact ⟨rfl, _, _, _, _, HS4.out.more (fun b _ h => absurd h id), by simp⟩
end Go.Proofs.Ytopehmpjfndgjaa

/- take, whole. -/
namespace Go.Proofs.Ytopehmpjfndgjaa
open Go.ChangeShapes Go.WideShapes Go.ChangeAt Go.RowKit
set_option linter.unusedVariables false
set_option linter.unusedSimpArgs false

namespace W
/-- What hangs on what so far. -/
structure Fl where
  r : Nat → List Int
  c : List Int
  p : List (Opr × List Int × List Int × List Int)
def Fl.z : Fl := ⟨fun _ => [], [], []⟩
/-- An instruction that was done. -/
def tk (i : I) (o : Opr) (f : Fl) : Fl :=
  ⟨bif i.rd != 0 then updL f.r i.rd.toNat (resL f.p.length i.op o.k (f.r i.rs1.toNat) (f.r i.rs2.toNat)) else f.r,
   bif kind i.op == 3 || i.op == 4 then uni f.c (uni (f.r i.rs1.toNat) (f.r i.rs2.toNat)) else f.c,
   f.p ++ bif o.k != 0 then [(o, f.r i.rs1.toNat, f.r i.rs2.toNat, f.c)] else []⟩
/-- All rising, of what lies ahead. -/
structure Good (f : Fl) : Prop where
  r : ∀ k, Rise f.p.length (f.r k)
  c : Rise f.p.length f.c
theorem good_z : Good Fl.z := ⟨fun _ => rise_nil _, rise_nil _⟩
theorem rise_resL {n : Nat} {m : Int} {op k : Int} {A B : List Int} (hA : Rise n A) (hB : Rise n B) (h : (n : Int) ≤ m) (hk : (k != 0) = true → (n : Int) < m) : Rise m (resL n op k A B) := by
  unfold resL
  cases h0 : (k != 0)
  · cases (kind op == 1)
    · exact rise_nil _
    · exact (hA.uni hB).mono h
  · have := hk h0
    exact ⟨by simp, by intro x hx; simp at hx; omega⟩
theorem good_tk {f : Fl} (h : Good f) (i : I) (o : Opr) : Good (tk i o f) := by
  have hn : (f.p.length : Int) ≤ ((tk i o f).p.length : Int) := by simp [tk]; omega
  have hk : (o.k != 0) = true → (f.p.length : Int) < ((tk i o f).p.length : Int) := fun e => by simp [tk, e]; omega
  refine ⟨fun k => ?_, ?_⟩
  · show Rise _ ((bif i.rd != 0 then _ else _ : Nat → List Int) k)
    cases (i.rd != 0)
    · exact (h.r k).mono hn
    · show Rise _ (updL _ _ _ k)
      unfold updL
      split
      · exact rise_resL (h.r _) (h.r _) hn hk
      · exact (h.r k).mono hn
  · show Rise _ (bif _ then _ else _ : List Int)
    cases (kind i.op == 3 || i.op == 4)
    · exact h.c.mono hn
    · exact (h.c.uni ((h.r _).uni (h.r _))).mono hn
end W
def Fx (n0 : Nat) (w0 : World) (fb : Nat) (f : W.Fl) (w : World) : Prop := ∃ L R C O, Fs n0 w0 fb (fun _ => False) f.r f.c L R C O w ∧ L.map Oq.pure = f.p

theorem take_any (n0 : Nat) (w0 : World) (fb : Nat) (f : W.Fl) (i : W.I) (o : W.Opr) (w : World) (h : Fx n0 w0 fb f w) (hg : W.Good f) (hl : f.p.length ≤ 150) (a1 : 0 ≤ i.rd ∧ i.rd < 32) (a2 : 0 ≤ i.rs1 ∧ i.rs1 < 32) (a3 : 0 ≤ i.rs2 ∧ i.rs2 < 32) (hk : (o.k != 0) = true → (W.kind i.op == 3) = false ∧ (i.op == 4) = false) :
    Calls Try.prog 17 #[.pointer (some ⟨fb, 0, none⟩), inV i, .agg (opC o W.Sl.nil W.Sl.nil W.Sl.nil)] w fun e w' => e = .returned (.tuple #[]) ∧ Fx n0 w0 fb (W.tk i o f) w' := by
  obtain ⟨L, R, C, O, hS, hp⟩ := h
  have hpl : L.length = f.p.length := by rw [← hp]; simp
  obtain ⟨op, rd, rs1, rs2, csr, imm, aq, rl⟩ := i
  obtain ⟨d, rfl⟩ := Int.eq_ofNat_of_zero_le a1.1
  obtain ⟨r1, rfl⟩ := Int.eq_ofNat_of_zero_le a2.1
  obtain ⟨r2, rfl⟩ := Int.eq_ofNat_of_zero_le a3.1
  dsimp only at a1 a2 a3
  have z : ∀ k, (f.r k).length ≤ 200 := fun k => by have := (hg.r k).len; omega
  have zc : f.c.length ≤ 200 := by have := hg.c.len; omega
  have b1 : d < 32 := by have := a1.2; omega
  have b2 : r1 < 32 := by have := a2.2; omega
  have b3 : r2 < 32 := by have := a3.2; omega
  unfold inV W.tk
  dsimp only at hk ⊢
  simp only [Int.toNat_natCast]
  cases e1 : ((d : Int) != 0) <;> cases e2 : (o.k != 0)
  · cases e3 : (W.kind op == 3)
    · cases e4 : (op == 4)
      · refine (take_z n0 w0 fb f.r f.c L R C O op csr imm d r1 r2 aq rl o w hS b2 b3 b1 e1 e2 e3 e4 (hg.r _).1 (hg.r _).1 hg.c.1 (z _) (z _) zc (by omega)).mono fun e w' ⟨h1, R', C', O', L', h2, h3⟩ => ⟨h1, L', R', C', O', h2, by rw [h3, hp]; rfl⟩
      · refine (take_k n0 w0 fb f.r f.c L R C O op csr imm d r1 r2 aq rl o w hS b2 b3 b1 e1 e2 e3 e4 (hg.r _).1 (hg.r _).1 hg.c.1 (z _) (z _) zc (by omega)).mono fun e w' ⟨h1, R', C', O', L', h2, h3⟩ => ⟨h1, L', R', C', O', h2, by rw [h3, hp]; rfl⟩
    · refine (take_b n0 w0 fb f.r f.c L R C O op csr imm d r1 r2 aq rl o w hS b2 b3 b1 e1 e2 e3 (hg.r _).1 (hg.r _).1 hg.c.1 (z _) (z _) zc (by omega)).mono fun e w' ⟨h1, R', C', O', L', h2, h3⟩ => ⟨h1, L', R', C', O', h2, by rw [h3, hp]; rfl⟩
  · obtain ⟨e3, e4⟩ := hk e2
    rw [e3, e4]
    refine (take_s n0 w0 fb f.r f.c L R C O op csr imm d r1 r2 aq rl o w hS b2 b3 b1 e1 e2 e3 e4 (hg.r _).1 (hg.r _).1 hg.c.1 (z _) (z _) zc (by omega)).mono fun e w' ⟨h1, R', C', O', L', h2, h3⟩ => ⟨h1, L', R', C', O', h2, by rw [h3, hp]; rfl⟩
  · cases e3 : (W.kind op == 3)
    · cases e4 : (op == 4)
      · refine (take_r n0 w0 fb f.r f.c L R C O op csr imm d r1 r2 aq rl o w hS b2 b3 b1 e1 e2 e3 e4 (hg.r _).1 (hg.r _).1 hg.c.1 (z _) (z _) zc (by omega)).mono fun e w' ⟨h1, R', C', O', L', h2, h3⟩ => ⟨h1, L', R', C', O', by rw [hpl] at h2; exact h2, by rw [h3, hp]; rfl⟩
      · refine (take_j n0 w0 fb f.r f.c L R C O op csr imm d r1 r2 aq rl o w hS b2 b3 b1 e1 e2 e3 e4 (hg.r _).1 (hg.r _).1 hg.c.1 (z _) (z _) zc (by omega)).mono fun e w' ⟨h1, R', C', O', L', h2, h3⟩ => ⟨h1, L', R', C', O', by rw [hpl] at h2; exact h2, by rw [h3, hp]; rfl⟩
    · refine (take_c n0 w0 fb f.r f.c L R C O op csr imm d r1 r2 aq rl o w hS b2 b3 b1 e1 e2 e3 (hg.r _).1 (hg.r _).1 hg.c.1 (z _) (z _) zc (by omega)).mono fun e w' ⟨h1, R', C', O', L', h2, h3⟩ => ⟨h1, L', R', C', O', by rw [hpl] at h2; exact h2, by rw [h3, hp]; rfl⟩
  · obtain ⟨e3, e4⟩ := hk e2
    rw [e3, e4]
    refine (take_l n0 w0 fb f.r f.c L R C O op csr imm d r1 r2 aq rl o w hS b2 b3 b1 e1 e2 e3 e4 (hg.r _).1 (hg.r _).1 hg.c.1 (z _) (z _) zc (by omega)).mono fun e w' ⟨h1, R', C', O', L', h2, h3⟩ => ⟨h1, L', R', C', O', by rw [hpl] at h2; exact h2, by rw [h3, hp]; rfl⟩
end Go.Proofs.Ytopehmpjfndgjaa

/- Laws of the mirrors of isa: which bit of a word is whose; reading and laying are each other's way back. -/
namespace Go.Proofs.Ytopehmpjfndgjaa.W
open Go.RowKit
set_option linter.unusedVariables false
set_option linter.unusedSimpArgs false

/-- Does field j of shape s cover bit p? -/
def cov (s : Sh) (j p : Nat) : Bool :=
  match j with
  | 0 => s.rd && decide (7 ≤ p ∧ p < 12)
  | 1 => s.rs1 && decide (15 ≤ p ∧ p < 20)
  | 2 => s.rs2 && decide (20 ≤ p ∧ p < 25)
  | 3 => s.csr && decide (20 ≤ p ∧ p < 32)
  | 4 => s.ord && decide (p = 26)
  | 5 => s.ord && decide (p = 25)
  | _ => bif decide (0 < s.size) then decide (s.low.toNat ≤ p ∧ p - s.low.toNat < s.size.toNat) else bif s.fmt != 0 then tb (mask s.fmt) p else false
/-- Field j, laid. -/
def part (s : Sh) (i : I) (j : Nat) : Int :=
  match j with
  | 0 => placed i.rd 7 5
  | 1 => placed i.rs1 15 5
  | 2 => placed i.rs2 20 5
  | 3 => placed i.csr 20 12
  | 4 => placed (one i.aq) 26 1
  | 5 => placed (one i.rl) 25 1
  | _ => layIV s i.imm
def okF (s : Sh) : Bool := ((s.size == 0) && (s.fmt == 0 || s.fmt == 73 || s.fmt == 83 || s.fmt == 66 || s.fmt == 85 || s.fmt == 74)) || ((s.fmt == 0) && decide (0 < s.size ∧ s.size ≤ 12 ∧ 0 ≤ s.low ∧ s.low ≤ 31 ∧ s.low + s.size ≤ 32))
def okK (k : Nat) : Bool :=
  decide (0 ≤ code k ∧ code k < 4294967296 ∧ 0 ≤ (shp k).fixed ∧ (shp k).fixed < 4294967296) && okF (shp k) && decide (127 = bits .and .u32 127 (shp k).fixed) &&
  (List.range 32).all fun p => (!tb (code k) p || tb (shp k).fixed p) && (((List.range 7).any fun j => cov (shp k) j p) == !tb (shp k).fixed p) &&
    (List.range 7).all fun j => (List.range 7).all fun j' => !(cov (shp k) j p && cov (shp k) j' p) || (j == j')
theorem okAll : ((List.range 70).all fun k => (k == 0) || okK k) = true := by decide +kernel
def clash (j k : Nat) : Bool := (j == k) || !((code j).toNat &&& (shp k).fixed.toNat == (code k).toNat &&& (shp j).fixed.toNat)
theorem clashAll : ((List.range 70).all fun j => (List.range 70).all fun k => (j == 0) || (k == 0) || clash j k) = true := by decide +kernel

structure Ok (k : Nat) : Prop where
  c0 : 0 ≤ code k
  c1 : code k < 4294967296
  f0 : 0 ≤ (shp k).fixed
  f1 : (shp k).fixed < 4294967296
  fmt : okF (shp k) = true
  op : 127 = bits .and .u32 127 (shp k).fixed
  sub : ∀ p, p < 32 → tb (code k) p = true → tb (shp k).fixed p = true
  all : ∀ p, p < 32 → ((List.range 7).any fun j => cov (shp k) j p) = !tb (shp k).fixed p
  one : ∀ p j j', p < 32 → j < 7 → j' < 7 → cov (shp k) j p = true → cov (shp k) j' p = true → j = j'
theorem ok_at (k : Nat) (h1 : 1 ≤ k) (h2 : k ≤ 69) : Ok k := by
  have h := List.all_eq_true.1 okAll k (List.mem_range.2 (by omega))
  have hk : (k == 0) = false := by simp; omega
  rw [hk, Bool.false_or, okK, Bool.and_eq_true, Bool.and_eq_true, Bool.and_eq_true] at h
  obtain ⟨⟨⟨h0, hf⟩, ho⟩, ha⟩ := h
  obtain ⟨a, b, c, d⟩ := of_decide_eq_true h0
  have hp : ∀ p, p < 32 → _ := fun p hp => List.all_eq_true.1 ha p (List.mem_range.2 hp)
  refine ⟨a, b, c, d, hf, of_decide_eq_true ho, fun p hp' ht => ?_, fun p hp' => ?_, fun p j j' hp' hj hj' c1 c2 => ?_⟩
  · have := hp p hp'
    rw [Bool.and_eq_true, Bool.and_eq_true] at this
    simpa [ht] using this.1.1
  · have := hp p hp'
    rw [Bool.and_eq_true, Bool.and_eq_true] at this
    simpa using this.1.2
  · have := hp p hp'
    rw [Bool.and_eq_true, Bool.and_eq_true] at this
    have := List.all_eq_true.1 this.2 j (List.mem_range.2 hj)
    have := List.all_eq_true.1 this j' (List.mem_range.2 hj')
    simpa [c1, c2] using this

/-- A word has what op's words have in common, bit by bit. -/
theorem hit_tb {x : Int} {k : Nat} (hk : Ok k) (x0 : 0 ≤ x) (x1 : x < 4294967296) (h : hit x k = true) : ∀ p, p < 32 → tb (code k) p = (tb x p && tb (shp k).fixed p) := by
  intro p hp
  have h2 : bits .and .u32 x (shp k).fixed = code k := by
    simp [hit] at h
    exact h.2
  rw [← h2, tb_and _ _ p x0 x1 hk.f0 hk.f1]
theorem hit_of {x : Int} {k : Nat} (hk : Ok k) (x0 : 0 ≤ x) (x1 : x < 4294967296) (h : ∀ p, p < 32 → tb (code k) p = (tb x p && tb (shp k).fixed p)) : hit x k = true := by
  have e : bits .and .u32 x (shp k).fixed = code k := by
    have ha := and_lt x (shp k).fixed
    exact eq_of_tb _ _ ha.1 ha.2 hk.c0 hk.c1 fun p hp => by rw [tb_and _ _ p x0 x1 hk.f0 hk.f1, h p hp]
  have hz : bits .and .u32 (bits .xor .u32 x (code k)) 127 = 0 := by
    have hx := xor_lt x (code k)
    have ha := and_lt (bits .xor .u32 x (code k)) 127
    refine eq_of_tb _ _ ha.1 ha.2 (by decide) (by decide) fun p hp => ?_
    rw [tb_and _ _ p hx.1 hx.2 (by decide) (by decide), tb_xor _ _ p x0 x1 hk.c0 hk.c1, h p hp]
    have h127 : tb 127 p = (tb 127 p && tb (shp k).fixed p) := by
      have := congrArg (fun z => tb z p) hk.op
      rw [tb_and _ _ p (by decide) (by decide) hk.f0 hk.f1] at this
      exact this
    have z0 : tb 0 p = false := by simp [tb]
    rw [z0, h127]
    cases tb x p <;> cases tb (shp k).fixed p <;> cases tb 127 p <;> rfl
  simp [hit, e, hz]
theorem hit_one {x : Int} {j k : Nat} (j1 : 1 ≤ j) (j2 : j ≤ 69) (k1 : 1 ≤ k) (k2 : k ≤ 69) (x0 : 0 ≤ x) (x1 : x < 4294967296) (hj : hit x j = true) (hk : hit x k = true) : j = k := by
  have a := hit_tb (ok_at j j1 j2) x0 x1 hj
  have b := hit_tb (ok_at k k1 k2) x0 x1 hk
  have h := List.all_eq_true.1 (List.all_eq_true.1 clashAll j (List.mem_range.2 (by omega))) k (List.mem_range.2 (by omega))
  have hj0 : (j == 0) = false := by simp; omega
  have hk0 : (k == 0) = false := by simp; omega
  rw [hj0, hk0, Bool.false_or, Bool.false_or, clash, Bool.or_eq_true] at h
  rcases h with h | h
  · simpa using h
  · exfalso
    have : (code j).toNat &&& (shp k).fixed.toNat = (code k).toNat &&& (shp j).fixed.toNat := by
      apply Nat.eq_of_testBit_eq
      intro p
      rw [Nat.testBit_and, Nat.testBit_and]
      show (tb (code j) p && tb (shp k).fixed p) = (tb (code k) p && tb (shp j).fixed p)
      by_cases hp : p < 32
      · rw [a p hp, b p hp]
        cases tb x p <;> cases tb (shp k).fixed p <;> cases tb (shp j).fixed p <;> rfl
      · rw [tb_big _ p (ok_at j j1 j2).c1 (by omega), tb_big _ p (ok_at k k1 k2).c1 (by omega)]; rfl
    simp [this] at h
/-- The one op whose word x is. -/
theorem decFrom_eq {x : Int} {k : Nat} (k1 : 1 ≤ k) (k2 : k ≤ 69) (x0 : 0 ≤ x) (x1 : x < 4294967296) (h : hit x k = true) : ∀ n j, 1 ≤ j → j ≤ k → k < j + n → j + n = 70 → decFrom x j n = k := by
  intro n
  induction n with
  | zero => intro j _ _ _ _; omega
  | succ n ih =>
    intro j hj1 hj2 hj3 hj4
    unfold decFrom
    by_cases e : j = k
    · subst e; rw [h]; rfl
    · have : hit x j = false := by
        cases hh : hit x j
        · rfl
        · exact absurd (hit_one hj1 (by omega) k1 k2 x0 x1 hh h) e
      rw [this]
      exact ih (j + 1) (by omega) (by omega) (by omega) (by omega)
theorem dec_eq {x : Int} {k : Nat} (k1 : 1 ≤ k) (k2 : k ≤ 69) (x0 : 0 ≤ x) (x1 : x < 4294967296) (h : hit x k = true) : dec x = k :=
  decFrom_eq k1 k2 x0 x1 h 69 1 (by omega) k1 (by omega) (by omega)
theorem decFrom_hit (x : Int) : ∀ n j, decFrom x j n = 0 ∨ (j ≤ decFrom x j n ∧ decFrom x j n < j + n ∧ hit x (decFrom x j n) = true) := by
  intro n
  induction n with
  | zero => intro j; left; rfl
  | succ n ih =>
    intro j
    unfold decFrom
    cases hh : hit x j
    · rcases ih (j + 1) with h | h
      · left; exact h
      · right; exact ⟨by have := h.1; simp only [cond_false]; omega, by have := h.2.1; simp only [cond_false]; omega, h.2.2⟩
    · right; exact ⟨by simp, by simp, by simpa using hh⟩
theorem dec_hit (x : Int) (h : decB x = true) : 1 ≤ dec x ∧ dec x ≤ 69 ∧ hit x (dec x) = true := by
  rcases decFrom_hit x 69 1 with h1 | h1
  · simp [decB, dec, h1] at h
  · exact ⟨h1.1, by have := h1.2.1; unfold dec; omega, h1.2.2⟩
end Go.Proofs.Ytopehmpjfndgjaa.W
