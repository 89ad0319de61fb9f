/- wmo: what can be reckoned out of operations that are written out. -/
import Derived.Test.YtibohlbkkaghkaaDoorWmoS
namespace Go.Proofs.YtibohlbkkaghkaaDoor
open Go.ChangeShapes Go.WideShapes Go.ChangeAt Go.RowKit Go.Maps
set_option linter.unusedVariables false
set_option linter.unusedSimpArgs false

namespace W
def ozM (l : List Opr) (j : Nat) : Oz := oz0 (l.getD j (op3 0 0 0))
def xM (LL : List (List Opr)) (h : Nat) : Nat → Oz := ozM (LL.getD h [])
def nM (LL : List (List Opr)) (h : Nat) : Nat := (LL.getD h []).length
def rM (rs : List (Nat × Nat)) (j : Nat) : Nat × Nat := rs.getD j (0, 0)
def sM : Nat → Nat → S3 := fun _ _ => S3.nil
def stM (LL : List (List Opr)) (rs : List (Nat × Nat)) : Nat → StR := stp (xM LL) sM (nM LL) (plc (rM rs) rs.length) LL.length rs.length
def fitBb (o : Opr) : Bool := ((o.k == 1 || o.k == 2) && (o.sz == 1 || (o.sz == 2 && o.ad % 2 == 0) || (o.sz == 4 && o.ad % 4 == 0))) || (o.k == 3 && o.sz == 4 && o.ad % 4 == 0) || (o.k == 4 && o.sz == 0)
theorem fitBb_ok (o : Opr) (h : fitBb o = true) : FitB o := by
  unfold fitBb at h
  unfold FitB
  simp only [Bool.or_eq_true, Bool.and_eq_true, beq_iff_eq] at h
  rcases h with (⟨h1, h2⟩ | ⟨⟨h1, h2⟩, h3⟩) | ⟨h1, h2⟩
  · left
    refine ⟨h1, ?_⟩
    rcases h2 with (h2 | h2) | h2
    · exact Or.inl h2
    · exact Or.inr (Or.inl h2)
    · exact Or.inr (Or.inr h2)
  · exact Or.inr (Or.inl ⟨h1, h2, h3⟩)
  · exact Or.inr (Or.inr ⟨h1, h2⟩)
def fitPb (x : Nat → Oz) (j : Nat) : Bool := !(x j).o.pr || ((x j).o.k == 1 && (x j).o.sz == 4) || ((x j).o.k == 2 && (x j).o.sz == 4 && decide (0 ≤ pairO x j) && (x (pairO x j).toNat).o.ad == (x j).o.ad)
theorem fitPb_ok (x : Nat → Oz) (j : Nat) (h : fitPb x j = true) (hp : (x j).o.pr = true) : FitP x j := by
  unfold fitPb at h
  unfold FitP
  rw [hp] at h
  simp only [Bool.not_true, Bool.false_or, Bool.or_eq_true, Bool.and_eq_true, beq_iff_eq, decide_eq_true_eq] at h
  rcases h with h | ⟨⟨⟨h1, h2⟩, h3⟩, h4⟩
  · exact Or.inl h
  · exact Or.inr ⟨h1, h2, h3, h4⟩
def all (n : Nat) (p : Nat → Bool) : Bool := (List.range n).all p
theorem all_ok {n : Nat} {p : Nat → Bool} (h : all n p = true) (j : Nat) (hj : j < n) : p j = true := List.all_eq_true.1 h j (List.mem_range.2 hj)
def vdB (LL : List (List Opr)) : Bool := decide (LL.length ≤ 64) && decide (tot (nM LL) LL.length ≤ 4096) && all LL.length fun h => all (nM LL h) fun j => fitBb (xM LL h j).o && decide (0 ≤ (xM LL h j).o.ad) && decide ((xM LL h j).o.ad < 4294967296) && fitPb (xM LL h) j
theorem vdB_ok (LL : List (List Opr)) (h : vdB LL = true) : Vd LL.length (nM LL) (xM LL) := by
  unfold vdB at h
  simp only [Bool.and_eq_true, decide_eq_true_eq] at h
  obtain ⟨⟨h1, h2⟩, h3⟩ := h
  have h4 := fun i hi j hj => all_ok (all_ok h3 i hi) j hj
  simp only [Bool.and_eq_true, decide_eq_true_eq] at h4
  refine ⟨h1, h2, fun i hi => ⟨fun j hj => fitBb_ok _ (h4 i hi j hj).1.1.1, fun j hj => (h4 i hi j hj).1.1.2, fun j hj => (h4 i hi j hj).1.2, fun j hj d hd => ?_, fun j hj d hd => ?_, fun j hj d hd => ?_, fun j hj hp => fitPb_ok _ _ (h4 i hi j hj).2 hp⟩⟩
  · exact absurd hd (by simp [xM, ozM, oz0])
  · exact absurd hd (by simp [xM, ozM, oz0])
  · exact absurd hd (by simp [xM, ozM, oz0])
def orB (LL : List (List Opr)) (rs : List (Nat × Nat)) : Bool := (tot (fun h => cnt (xM LL h) (nM LL h)) LL.length == rs.length) && all rs.length fun j => decide ((rM rs j).1 < LL.length) && decide ((rM rs j).2 < nM LL (rM rs j).1) && ((xM LL (rM rs j).1 (rM rs j).2).o.k != 4) && (plc (rM rs) j (rM rs j).1 (rM rs j).2 == 0)
theorem orB_ok (LL : List (List Opr)) (rs : List (Nat × Nat)) (h : orB LL rs = true) : Or LL.length (nM LL) (xM LL) rs.length (rM rs) := by
  unfold orB at h
  rw [Bool.and_eq_true] at h
  have h4 := fun j hj => all_ok h.2 j hj
  simp only [Bool.and_eq_true, decide_eq_true_eq, bne_iff_ne, beq_iff_eq] at h4
  exact ⟨fun j hj => (h4 j hj).1.1.1, fun j hj => (h4 j hj).1.1.2, fun j hj => (h4 j hj).1.2, fun j hj => (h4 j hj).2, by simpa using h.1⟩
def itB (LL : List (List Opr)) (rs : List (Nat × Nat)) : Bool := all LL.length fun h => all (nM LL h) fun j => (plc (rM rs) rs.length h j == 0) || decide (mx (plc (rM rs) rs.length h) j ≤ plc (rM rs) rs.length h j)
theorem itB_ok (LL : List (List Opr)) (rs : List (Nat × Nat)) (hh : itB LL rs = true) (h : Nat) (hl : h < LL.length) : InT (plc (rM rs) rs.length h) (nM LL h) := fun j hj => by
  have := all_ok (all_ok hh h hl) j hj
  simp only [Bool.or_eq_true, beq_iff_eq, decide_eq_true_eq] at this
  exact this
def frO (q : Nat → StR) (M : Nat) (F A : Int) : Bool := (F == 0) || (decide (0 < F) && decide (F < (M : Int)) && decide (0 ≤ (q F.toNat).o.ad) && decide ((q F.toNat).o.ad ≤ A) && decide (A < (q F.toNat).o.ad + 4))
def frB (q : Nat → StR) (M : Nat) : Bool := all M fun p => !(rds (q p).o.k) || all (q p).o.sz.toNat fun k => frO q M ((q p).fr k) ((q p).o.ad + k)
theorem frB_ok (q : Nat → StR) (M : Nat) (h : frB q M = true) (hv : ∀ p, 0 ≤ (q p).o.vl ∧ (q p).o.vl < 4294967296) (p : Nat) (hp : p < M) (hr : rds (q p).o.k = true) (k : Nat) (hk : k < (q p).o.sz.toNat) : FrO q M ((q p).fr k) ((q p).o.ad + k) := by
  have h1 := all_ok h p hp
  rw [hr] at h1
  have h2 := all_ok (show all (q p).o.sz.toNat _ = true from by simpa using h1) k hk
  unfold frO at h2
  simp only [Bool.or_eq_true, Bool.and_eq_true, beq_iff_eq, decide_eq_true_eq] at h2
  rcases h2 with h2 | ⟨⟨⟨⟨a, b⟩, c⟩, d⟩, e⟩
  · exact Or.inl h2
  · exact Or.inr ⟨a, b, c, d, e, (hv _).1, (hv _).2⟩
def lrB (q : Nat → StR) (M : Nat) : Bool := all M fun p => decide (0 ≤ (q p).lr) && decide ((q p).lr < (M : Int)) && (!decide (0 < (q p).lr) || decide ((q (q p).lr.toNat).o.ad + 4 ≤ 4294967296))
def okRb (q : Nat → StR) (p : Nat) : Bool := !(rds (q p).o.k) || ((q p).o.gt == rdV q p (q p).o.sz.toNat)
theorem okRb_iff (q : Nat → StR) (p : Nat) : okRb q p = true ↔ okR q p := by
  unfold okRb okR
  cases rds (q p).o.k <;> simp
def okPb (q : Nat → StR) (p : Nat) : Bool := !decide (0 < (q p).lr) || !(ovB (wrt q p) (q (q p).lr.toNat) 4)
theorem okPb_iff (q : Nat → StR) (p : Nat) : okPb q p = true ↔ okP q p := by
  unfold okPb okP
  by_cases h : 0 < (q p).lr <;> simp [h]
/-- The first m are as they have to be; the next one, if there is one, is not. -/
def upB (f : Nat → Bool) (m M : Nat) : Bool := all m f && (!decide (m < M) || !(f m))
theorem upB_1 {f : Nat → Bool} {m M : Nat} (h : upB f m M = true) (p : Nat) (hp : p < m) : f p = true := by
  unfold upB at h
  rw [Bool.and_eq_true] at h
  exact all_ok h.1 p hp
theorem upB_2 {f : Nat → Bool} {m M : Nat} (h : upB f m M = true) (hm : m < M) : ¬ f m = true := by
  unfold upB at h
  rw [Bool.and_eq_true] at h
  simpa [hm] using h.2
/-- All at once. -/
def ckB (LL : List (List Opr)) (rs : List (Nat × Nat)) (m1 m2 : Nat) : Bool := vdB LL && orB LL rs && itB LL rs && decide (rs.length ≤ 4096) && frB (stM LL rs) (rs.length + 1) && lrB (stM LL rs) (rs.length + 1) && upB (okRb (stM LL rs)) m1 (rs.length + 1) && upB (okPb (stM LL rs)) m2 (rs.length + 1)
theorem stp_P (P : Opr → Prop) (x : Nat → Nat → Oz) (S : Nat → Nat → S3) (n : Nat → Nat) (pl : Nat → Nat → Int) (K N : Nat) (h0 : P (op3 0 0 0)) (hx : ∀ h i, P (x h i).o) (p : Nat) : P (stp x S n pl K N p).o := by
  have hin : ∀ (x : Nat → Oz) (S : Nat → S3) (pl : Nat → Int) (h : Int) (q : Nat → StR), (∀ p, P (q p).o) → (∀ i, P (x i).o) → ∀ i p, P (innS x S pl h q i p).o := fun x S pl h q hq hx i => by
    induction i with
    | zero => exact hq
    | succ i ih =>
      intro p
      unfold innS
      split
      · exact ih p
      · unfold updQ
        split
        · exact hx i
        · exact ih p
  have hst : ∀ h p, P (sts x S n pl h p).o := fun h => by
    induction h with
    | zero => exact fun p => h0
    | succ h ih =>
      intro p
      unfold sts
      rw [fol_o]
      exact hin _ _ _ _ _ ih (hx h) _ p
  unfold stp
  rw [fol_o]
  exact hst K p
end W
/-- Harts in memory, written out: an outer block of slices, a block of operations each. -/
theorem hf_rows {w : World} (b : Nat) (LL : List (List W.Opr)) (gs : Nat → Nat) (T : TypeId) (hb : b < w.heap.size) (ho : ∀ h, h < LL.length → w.cell? ⟨b, h, none⟩ = some (.slice (some ⟨gs h, 0, none⟩) (W.nM LL h) (W.nM LL h))) (hi : ∀ h, h < LL.length → w.heap[gs h]? = some (.cells (opsR (LL.getD h [])) T)) :
    Hf b LL.length (fun h => some ⟨gs h, 0, none⟩) (W.nM LL) (W.nM LL) (W.xM LL) W.sM w := by
  have hx : ∀ h j o, (LL.getD h [])[j]? = some o → W.xM LL h j = W.oz0 o := fun h j o e => by
    unfold W.xM W.ozM
    rw [List.getD_eq_getElem?_getD, e]
    rfl
  have how := fun h hh => ow_row (LL.getD h []) T (hi h hh) (W.xM LL h) (hx h)
  refine ⟨⟨hb, ho, fun h hh => (how h hh).ol⟩, fun h hh h0 => ⟨gs h, 0, rfl, (how h hh).b.lt, fun j hj k hk => ?_⟩⟩
  have e := (how h hh).b.c (j * 13 + k) (by have : j < (LL.getD h []).length := hj; omega)
  rw [Nat.zero_add, e]
  have m : (j * 13 + k) % 13 = k := by omega
  have d : (j * 13 + k) / 13 = j := by omega
  have k3 : k % 13 = k := by omega
  unfold opF W.sM W.oz0
  rw [m, d, k3]
end Go.Proofs.YtibohlbkkaghkaaDoor
