/- Texts in one: DepT, DepU, DepV, DepBranchesWalk, DepBranchesTop. -/
import Derived.Deep.AppendLies
import Derived.Test.YtopehmpjfndgjaaJ44
/- A value handed on through registers; without any Go. -/
namespace Go.Proofs.Ytopehmpjfndgjaa
open Go.RowKit
set_option linter.unusedVariables false
set_option linter.unusedSimpArgs false

namespace W
theorem dn_word {i : I} (h : encE i = 0) : dnB (itw (encV i)) = true ∧ dnI (itw (encV i)) = i ∧ Rg (encV i) := by
  obtain ⟨h1, h2⟩ := dec_enc h
  have hV : encV i = encW (code i.op.toNat) (shp i.op) i := by rw [encV, h]; rfl
  exact ⟨h1, h2, by rw [hV]; exact encW_lt _ _ _⟩
theorem e_add (i : Nat) (h : i < 21) : encE (in5 28 ((i : Int) + 1) (i : Int) 0 0) = 0 := by
  have : ((List.range 21).all fun i => encE (in5 28 ((i : Int) + 1) (i : Int) 0 0) == 0) = true := by decide +kernel
  simpa using List.all_eq_true.1 this i (List.mem_range.2 h)
theorem e_lui (i : Nat) (h : i < 21) : encE (in5 1 ((i : Int) + 1) 0 0 4096) = 0 := by
  have : ((List.range 21).all fun i => encE (in5 1 ((i : Int) + 1) 0 0 4096) == 0) = true := by decide +kernel
  simpa using List.all_eq_true.1 this i (List.mem_range.2 h)
theorem e_swa (i : Nat) (h : i < 22) : encE (in5 18 0 (i : Int) 0 0) = 0 := by
  have : ((List.range 22).all fun i => encE (in5 18 0 (i : Int) 0 0) == 0) = true := by decide +kernel
  simpa using List.all_eq_true.1 this i (List.mem_range.2 h)
theorem e_swd (i : Nat) (h : i < 22) : encE (in5 18 0 0 (i : Int) 0) = 0 := by
  have : ((List.range 22).all fun i => encE (in5 18 0 0 (i : Int) 0) == 0) = true := by decide +kernel
  simpa using List.all_eq_true.1 this i (List.mem_range.2 h)
theorem e_lw : encE (in5 13 1 0 0 0) = 0 := by decide +kernel
theorem tk_nok (f : Fl) (i : I) (o : Opr) (hk : (o.k != 0) = false) (hc : (kind i.op == 3 || i.op == 4) = false) : (tk i o f).p = f.p ∧ (tk i o f).c = f.c := by
  constructor
  · show f.p ++ (bif o.k != 0 then _ else []) = _
    rw [hk]
    exact List.append_nil _
  · show (bif kind i.op == 3 || i.op == 4 then _ else _ : List Int) = _
    rw [hc]
    rfl
theorem tk_c (f : Fl) (i : I) (o : Opr) (hc : (kind i.op == 3 || i.op == 4) = false) : (tk i o f).c = f.c := by
  unfold tk
  dsimp only
  rw [hc]
  rfl
theorem tk_r (f : Fl) (i : I) (o : Opr) (hrd : (i.rd != 0) = true) (k : Nat) : (tk i o f).r k = if k = i.rd.toNat then resL f.p.length i.op o.k (f.r i.rs1.toNat) (f.r i.rs2.toNat) else f.r k := by
  show (bif i.rd != 0 then _ else _ : Nat → List Int) k = _
  rw [hrd]
  rfl
/-- The items of the chain, but the last. -/
def chW (cut : Int) (i : Nat) : Int := if i = 0 then encV (in5 13 1 0 0 0) else if (i : Int) = cut then encV (in5 1 ((i : Int) + 1) 0 0 4096) else encV (in5 28 ((i : Int) + 1) (i : Int) 0 0)
/-- What the last register hangs on. -/
def chL (cut : Int) (i : Nat) : List Int := if 1 ≤ cut ∧ cut ≤ (i : Int) then [] else [0]
/-- Behind the i-th of them. -/
theorem chain_run (cut : Int) (x : Nat → It) (n : Nat) (hn : n ≤ 20) (hx : ∀ i, i ≤ n → x i = itw (chW cut i)) : ∀ i, i ≤ n → (runN x (i + 1)).p.length = 1 ∧ (runN x (i + 1)).c = [] ∧ (runN x (i + 1)).r 0 = [] ∧ (runN x (i + 1)).r (i + 1) = chL cut i
  | 0, hi => by
    obtain ⟨h1, h2, _⟩ := dn_word e_lw
    have e : x 0 = itw (encV (in5 13 1 0 0 0)) := hx 0 (Nat.zero_le _)
    have hr : runN x 1 = tk (in5 13 1 0 0 0) (oper (in5 13 1 0 0 0) (x 0)) Fl.z := by
      show (bif dnB (x 0) then tk (dnI (x 0)) (oper (dnI (x 0)) (x 0)) (runN x 0) else runN x 0) = _
      rw [e, h1, h2]
      rfl
    rw [hr]
    have hk : (oper (in5 13 1 0 0 0) (x 0)).k = 1 := by rw [oper_k, e]; decide +kernel
    have hk' : ((oper (in5 13 1 0 0 0) (x 0)).k != 0) = true := by rw [hk]; rfl
    have hrd : ((in5 13 1 0 0 0).rd != 0) = true := rfl
    refine ⟨?_, ?_, ?_, ?_⟩
    · show ([] ++ (bif (oper (in5 13 1 0 0 0) (x 0)).k != 0 then _ else []) : List _).length = 1
      rw [hk']
      rfl
    · have h0 : (kind (in5 13 1 0 0 0).op == 3 || (in5 13 1 0 0 0).op == 4) = false := by decide +kernel
      exact tk_c _ _ _ h0
    · rw [tk_r _ _ _ hrd]
      rfl
    · rw [tk_r _ _ _ hrd, if_pos (show 0 + 1 = (in5 13 1 0 0 0).rd.toNat from rfl)]
      unfold resL chL
      rw [hk', if_neg (by omega)]
      rfl
  | i + 1, hi => by
    obtain ⟨p1, p2, p3, p4⟩ := chain_run cut x n hn hx i (by omega)
    have e : x (i + 1) = itw (chW cut (i + 1)) := hx (i + 1) hi
    have hc : chW cut (i + 1) = if ((i + 1 : Nat) : Int) = cut then encV (in5 1 (((i + 1 : Nat) : Int) + 1) 0 0 4096) else encV (in5 28 (((i + 1 : Nat) : Int) + 1) ((i + 1 : Nat) : Int) 0 0) := by
      unfold chW
      rw [if_neg (by omega)]
    have step : runN x (i + 1 + 1) = bif dnB (x (i + 1)) then tk (dnI (x (i + 1))) (oper (dnI (x (i + 1))) (x (i + 1))) (runN x (i + 1)) else runN x (i + 1) := rfl
    by_cases hq : ((i + 1 : Nat) : Int) = cut
    · rw [hc, if_pos hq] at e
      obtain ⟨h1, h2, _⟩ := dn_word (e_lui (i + 1) (by omega))
      rw [step, e, h1, h2, cond_true]
      have hk : ((oper (in5 1 (((i + 1 : Nat) : Int) + 1) 0 0 4096) (itw (encV (in5 1 (((i + 1 : Nat) : Int) + 1) 0 0 4096)))).k != 0) = false := by
        rw [oper_k]
        show (okind 1 false != 0) = false
        decide +kernel
      generalize oper (in5 1 (((i + 1 : Nat) : Int) + 1) 0 0 4096) (itw (encV (in5 1 (((i + 1 : Nat) : Int) + 1) 0 0 4096))) = o at *
      generalize runN x (i + 1) = f at *
      have k1 : (kind (in5 1 (((i + 1 : Nat) : Int) + 1) 0 0 4096).op == 3 || (in5 1 (((i + 1 : Nat) : Int) + 1) 0 0 4096).op == 4) = false := by show (kind 1 == 3 || (1 : Int) == 4) = false; decide +kernel
      have k2 : (kind (in5 1 (((i + 1 : Nat) : Int) + 1) 0 0 4096).op == 1) = true := by show (kind 1 == 1) = true; decide +kernel
      have hrd : ((in5 1 (((i + 1 : Nat) : Int) + 1) 0 0 4096).rd != 0) = true := by show ((((i + 1 : Nat) : Int) + 1) != 0) = true; simp; omega
      obtain ⟨q1, q2⟩ := tk_nok f (in5 1 (((i + 1 : Nat) : Int) + 1) 0 0 4096) o hk k1
      refine ⟨by rw [q1]; exact p1, by rw [q2]; exact p2, by rw [tk_r _ _ _ hrd, if_neg (by show ¬ (0 : Nat) = (((i + 1 : Nat) : Int) + 1).toNat; omega)]; exact p3, ?_⟩
      rw [tk_r _ _ _ hrd, if_pos (by show i + 1 + 1 = (((i + 1 : Nat) : Int) + 1).toNat; omega)]
      unfold resL
      rw [hk, cond_false, k2, cond_true]
      show uni (f.r 0) (f.r 0) = _
      rw [p3]
      unfold chL
      rw [if_pos (by omega)]
      rfl
    · rw [hc, if_neg hq] at e
      obtain ⟨h1, h2, _⟩ := dn_word (e_add (i + 1) (by omega))
      rw [step, e, h1, h2, cond_true]
      have hk : ((oper (in5 28 (((i + 1 : Nat) : Int) + 1) ((i + 1 : Nat) : Int) 0 0) (itw (encV (in5 28 (((i + 1 : Nat) : Int) + 1) ((i + 1 : Nat) : Int) 0 0)))).k != 0) = false := by
        rw [oper_k]
        show (okind 28 false != 0) = false
        decide +kernel
      have pw := (good_run x (i + 1)).r (i + 1)
      generalize oper (in5 28 (((i + 1 : Nat) : Int) + 1) ((i + 1 : Nat) : Int) 0 0) (itw (encV (in5 28 (((i + 1 : Nat) : Int) + 1) ((i + 1 : Nat) : Int) 0 0))) = o at *
      generalize runN x (i + 1) = f at *
      have k1 : (kind (in5 28 (((i + 1 : Nat) : Int) + 1) ((i + 1 : Nat) : Int) 0 0).op == 3 || (in5 28 (((i + 1 : Nat) : Int) + 1) ((i + 1 : Nat) : Int) 0 0).op == 4) = false := by show (kind 28 == 3 || (28 : Int) == 4) = false; decide +kernel
      have k2 : (kind (in5 28 (((i + 1 : Nat) : Int) + 1) ((i + 1 : Nat) : Int) 0 0).op == 1) = true := by show (kind 28 == 1) = true; decide +kernel
      have hrd : ((in5 28 (((i + 1 : Nat) : Int) + 1) ((i + 1 : Nat) : Int) 0 0).rd != 0) = true := by show ((((i + 1 : Nat) : Int) + 1) != 0) = true; simp; omega
      obtain ⟨q1, q2⟩ := tk_nok f (in5 28 (((i + 1 : Nat) : Int) + 1) ((i + 1 : Nat) : Int) 0 0) o hk k1
      refine ⟨by rw [q1]; exact p1, by rw [q2]; exact p2, by rw [tk_r _ _ _ hrd, if_neg (by show ¬ (0 : Nat) = (((i + 1 : Nat) : Int) + 1).toNat; omega)]; exact p3, ?_⟩
      rw [tk_r _ _ _ hrd, if_pos (by show i + 1 + 1 = (((i + 1 : Nat) : Int) + 1).toNat; omega)]
      unfold resL
      rw [hk, cond_false, k2, cond_true]
      show uni (f.r ((i + 1 : Nat) : Int).toNat) (f.r 0) = _
      rw [p3, show (((i + 1 : Nat) : Int)).toNat = i + 1 by omega, uni_nil_r pw.1, p4]
      unfold chL
      by_cases hh : 1 ≤ cut ∧ cut ≤ (i : Int)
      · rw [if_pos hh, if_pos (by omega)]
      · rw [if_neg hh, if_neg (by omega)]
end W
end Go.Proofs.Ytopehmpjfndgjaa

/- DepChain: its list, its end. -/
namespace Go.Proofs.Ytopehmpjfndgjaa
open Go.ChangeShapes Go.WideShapes Go.ChangeAt Go.RowKit
set_option linter.unusedVariables false
set_option linter.unusedSimpArgs false

namespace W
theorem chain_end (cut : Int) (x : Nat → It) (n : Nat) (hn : n ≤ 20) (hx : ∀ i, i ≤ n → x i = itw (chW cut i)) (a b : Nat) (ha : a < 22) (he : encE (in5 18 0 (a : Int) (b : Int) 0) = 0) (hl : x (n + 1) = itw (encV (in5 18 0 (a : Int) (b : Int) 0))) :
    ∃ d0, (runN x (n + 2)).p.map (fun q => (q.2.1, q.2.2.1, q.2.2.2)) = [d0, ((runN x (n + 1)).r a, (runN x (n + 1)).r b, [])] := by
  obtain ⟨p1, p2, p3, p4⟩ := chain_run cut x n hn hx n (Nat.le_refl _)
  obtain ⟨h1, h2, _⟩ := dn_word he
  have step : runN x (n + 2) = bif dnB (x (n + 1)) then tk (dnI (x (n + 1))) (oper (dnI (x (n + 1))) (x (n + 1))) (runN x (n + 1)) else runN x (n + 1) := rfl
  rw [step, hl, h1, h2, cond_true]
  have hk : ((oper (in5 18 0 (a : Int) (b : Int) 0) (itw (encV (in5 18 0 (a : Int) (b : Int) 0)))).k != 0) = true := by
    rw [oper_k]
    show (okind 18 false != 0) = true
    decide +kernel
  generalize oper (in5 18 0 (a : Int) (b : Int) 0) (itw (encV (in5 18 0 (a : Int) (b : Int) 0))) = o at *
  generalize runN x (n + 1) = f at *
  have hp : (tk (in5 18 0 (a : Int) (b : Int) 0) o f).p = f.p ++ [(o, f.r a, f.r b, f.c)] := by
    show f.p ++ (bif o.k != 0 then [(o, f.r ((a : Int)).toNat, f.r ((b : Int)).toNat, f.c)] else []) = _
    rw [hk]
    simp
  rw [hp, p2]
  match hq : f.p, p1 with
  | [q], _ => exact ⟨(q.2.1, q.2.2.1, q.2.2.2), rfl⟩
end W
/-- The cells of items. -/
def itsX (x : Nat → W.It) (n : Nat) : List Value := (List.range n).flatMap fun j => (itC (x j)).toList
theorem itsX_succ (x : Nat → W.It) (n : Nat) : itsX x (n + 1) = itsX x n ++ (itC (x n)).toList := by
  unfold itsX
  rw [List.range_succ, List.flatMap_append]
  simp
theorem itsX_len (x : Nat → W.It) : ∀ n, (itsX x n).length = n * 6
  | 0 => rfl
  | n + 1 => by rw [itsX_succ, List.length_append, itsX_len x n]; show n * 6 + 6 = _; omega
theorem itsX_get (x : Nat → W.It) : ∀ (n j k : Nat), j < n → k < 6 → (itsX x n)[j * 6 + k]? = (itC (x j))[k]?
  | 0, j, k, h, _ => by omega
  | n + 1, j, k, h, hk => by
    rw [itsX_succ]
    by_cases hj : j < n
    · rw [List.getElem?_append_left (by rw [itsX_len]; omega)]
      exact itsX_get x n j k hj hk
    · obtain rfl : j = n := by omega
      rw [List.getElem?_append_right (by rw [itsX_len]; omega), itsX_len, show j * 6 + k - j * 6 = k by omega]
      simp
theorem own_its {w : World} {base n : Nat} {v : Value} {x : Nat → W.It} (h : w.ownsRow base 37 6 v n (itsX x n)) (hn : 0 < n) (hr : ∀ j, j < n → W.Rg (x j).wd) : ∃ g cap, v = .slice (some ⟨g, 0, none⟩) n cap ∧ Its (some ⟨g, 0, none⟩) n x w := by
  obtain ⟨g, cap, rfl, hb, hl⟩ := h.form hn
  refine ⟨g, cap, rfl, fun _ => ⟨g, 0, rfl, hl, fun j hj k u hu => ?_⟩, hr⟩
  have hk : k < 6 := (Array.getElem?_eq_some_iff.1 hu).1
  have hc := h.cells (g := g) rfl (j * 6 + k) u (by rw [itsX_get x n j k hj hk]; exact hu)
  rw [Addr.add_lit] at hc
  rw [Nat.zero_add]
  simpa using hc
theorem own_first (w : World) (y : W.It) (x : Nat → W.It) (h : x 0 = y) (T : TypeId) (base : Nat) (hb : base ≤ w.heap.size) : (w.alloc (.cells (itC y) T)).ownsRow base T 6 (.slice (some ⟨w.heap.size, 0, none⟩) 1 1) 1 (itsX x 1) := by
  subst h
  exact ⟨itsX_len x 1, .inr ⟨w.heap.size, 1, itC (x 0), rfl, hb, heap_alloc_last w _, Nat.le_refl _, by unfold maxLen; decide, rfl, by simp [itsX, itC]⟩⟩
theorem infoIt : (Try.prog.info? 37).map (fun i => (i.zero, i.size, i.bytes)) = some (some (.agg #[.int .u32 0, .int .u32 0, .int .u32 0, .int .u32 0, .bool false, .bool false]), 6, 20) := by kernel_rfl
theorem bsT_1 (x : W.It) (w : World) : (bsT 1 #[(0, .agg (itC x))]).run Try.prog w = .ok (.slice (some ⟨w.heap.size, 0, none⟩) 1 1) (w.alloc (.cells (itC x) 37)) := by kernel_rfl
theorem itC_one (x : W.It) : ∀ u ∈ (itC x).toList, u.oneCell' = true := by
  intro u hu
  simp [itC] at hu
  rcases hu with h | h | h | h | h | h <;> rw [h] <;> rfl
theorem news_it (x : W.It) (w : World) : ∀ j u, (itC x).toList[j]? = some u → (w.alloc (.cells (itC x) 37)).cell? ((⟨w.heap.size, 0, none⟩ : Addr).add j) = some u := World.news_of_block (cs := itC x) (heap_alloc_last w _)
end Go.Proofs.Ytopehmpjfndgjaa

/- What lies behind a branch; without any Go. -/
namespace Go.Proofs.Ytopehmpjfndgjaa
open Go.RowKit
set_option linter.unusedVariables false
set_option linter.unusedSimpArgs false

namespace W
theorem e_ld (i : Nat) (h : i < 2) : encE (in5 13 (1 + (i : Int)) 5 0 0) = 0 := by
  have : ((List.range 2).all fun i => encE (in5 13 (1 + (i : Int)) 5 0 0) == 0) = true := by decide +kernel
  simpa using List.all_eq_true.1 this i (List.mem_range.2 h)
theorem e_beq : encE (in5 5 0 1 2 8) = 0 := by decide +kernel
theorem e_jalr : encE (in5 4 0 1 0 0) = 0 := by decide +kernel
/-- The word of the load i, of the branch. -/
def brL (i : Nat) : Int := encV (in5 13 (1 + ((i % 2 : Nat) : Int)) 5 0 0)
def brB (jump : Bool) : Int := bif jump then encV (in5 4 0 1 0 0) else encV (in5 5 0 1 2 8)
/-- The items, the branch at its place. -/
def brX (t : Nat) (jump : Bool) (j : Nat) : It := itw (if j < t then brL j else if j = t then brB jump else brL (j - 1))
def lastE (j : Nat) : List Int := if j = 0 then [] else [((j - 1 - (j - 1) % 2 : Nat) : Int)]
def lastO (j : Nat) : List Int := if j < 2 then [] else [((j - 1 - j % 2 : Nat) : Int)]
def wantB (t : Nat) (jump : Bool) (i : Nat) : Bool := (decide (i % 2 = 0) && decide (t ≤ i + 2)) || ((!jump) && decide (i % 2 = 1) && decide (t ≤ i + 2))
def wantL (t : Nat) (jump : Bool) (m : Nat) : List Int := ((List.range m).filter (wantB t jump)).map fun (i : Nat) => (i : Int)
theorem wantL_succ (t : Nat) (jump : Bool) (m : Nat) : wantL t jump (m + 1) = wantL t jump m ++ bif wantB t jump m then [(m : Int)] else [] := by
  unfold wantL
  rw [List.range_succ, List.filter_append, List.map_append]
  cases h : wantB t jump m <;> simp [List.filter_cons, h]
theorem want_len (t : Nat) (jump : Bool) (m : Nat) : (wantL t jump m).length ≤ m := by
  unfold wantL
  rw [List.length_map]
  exact Nat.le_trans (List.length_filter_le _ _) (by simp)
def brC (t : Nat) (jump : Bool) : List Int := uni [] (uni (lastE t) (bif jump then [] else lastO t))
theorem brC_eq (t : Nat) (jump : Bool) (h : t < 21) : brC t jump = wantL t jump t := by
  have : ((List.range 21).all fun t => (brC t false == wantL t false t) && (brC t true == wantL t true t)) = true := by decide +kernel
  have := List.all_eq_true.1 this t (List.mem_range.2 h)
  simp at this
  cases jump
  · exact this.1
  · exact this.2
/-- A load. -/
theorem ld_step (f : Fl) (e : Nat) (he : e < 2) (y : It) : (oper (in5 13 (1 + (e : Int)) 5 0 0) y).k = 1 ∧ (tk (in5 13 (1 + (e : Int)) 5 0 0) (oper (in5 13 (1 + (e : Int)) 5 0 0) y) f).c = f.c ∧ (∀ k, (tk (in5 13 (1 + (e : Int)) 5 0 0) (oper (in5 13 (1 + (e : Int)) 5 0 0) y) f).r k = if k = 1 + e then [(f.p.length : Int)] else f.r k) ∧ (tk (in5 13 (1 + (e : Int)) 5 0 0) (oper (in5 13 (1 + (e : Int)) 5 0 0) y) f).p = f.p ++ [(oper (in5 13 (1 + (e : Int)) 5 0 0) y, f.r 5, f.r 0, f.c)] := by
  have hk : (oper (in5 13 (1 + (e : Int)) 5 0 0) y).k = 1 := by
    rw [oper_k]
    show okind 13 y.dn = 1
    cases y.dn <;> decide +kernel
  have hk' : ((oper (in5 13 (1 + (e : Int)) 5 0 0) y).k != 0) = true := by rw [hk]; rfl
  have hrd : ((in5 13 (1 + (e : Int)) 5 0 0).rd != 0) = true := by show ((1 + (e : Int)) != 0) = true; simp; omega
  have h0 : (kind (in5 13 (1 + (e : Int)) 5 0 0).op == 3 || (in5 13 (1 + (e : Int)) 5 0 0).op == 4) = false := by show (kind 13 == 3 || (13 : Int) == 4) = false; decide +kernel
  refine ⟨hk, tk_c _ _ _ h0, fun k => ?_, ?_⟩
  · rw [tk_r _ _ _ hrd]
    have e2 : (in5 13 (1 + (e : Int)) 5 0 0).rd.toNat = 1 + e := by show (1 + (e : Int)).toNat = _; omega
    rw [e2]
    unfold resL
    rw [hk']
    rfl
  · show f.p ++ (bif (oper (in5 13 (1 + (e : Int)) 5 0 0) y).k != 0 then _ else []) = _
    rw [hk']
    rfl
theorem br_step (f : Fl) (jump : Bool) (y : It) : let i := bif jump then in5 4 0 1 0 0 else in5 5 0 1 2 8
    (tk i (oper i y) f).c = uni f.c (uni (f.r 1) (f.r (bif jump then 0 else 2))) ∧ (tk i (oper i y) f).r = f.r ∧ (tk i (oper i y) f).p = f.p := by
  cases jump
  · have hk : ((oper (in5 5 0 1 2 8) y).k != 0) = false := by
      rw [oper_k]
      show (okind 5 y.dn != 0) = false
      cases y.dn <;> decide +kernel
    have hc : (kind (in5 5 0 1 2 8).op == 3 || (in5 5 0 1 2 8).op == 4) = true := by show (kind 5 == 3 || (5 : Int) == 4) = true; decide +kernel
    refine ⟨?_, rfl, ?_⟩
    · show (bif kind (in5 5 0 1 2 8).op == 3 || (in5 5 0 1 2 8).op == 4 then uni f.c (uni (f.r 1) (f.r 2)) else f.c : List Int) = _
      rw [hc]
      rfl
    · show f.p ++ (bif (oper (in5 5 0 1 2 8) y).k != 0 then _ else []) = _
      rw [hk]
      exact List.append_nil _
  · have hk : ((oper (in5 4 0 1 0 0) y).k != 0) = false := by
      rw [oper_k]
      show (okind 4 y.dn != 0) = false
      cases y.dn <;> decide +kernel
    refine ⟨?_, rfl, ?_⟩
    · show (bif kind (in5 4 0 1 0 0).op == 3 || (in5 4 0 1 0 0).op == 4 then uni f.c (uni (f.r 1) (f.r 0)) else f.c : List Int) = _
      have hc : (kind (in5 4 0 1 0 0).op == 3 || (in5 4 0 1 0 0).op == 4) = true := by show (kind 4 == 3 || (4 : Int) == 4) = true; decide +kernel
      rw [hc]
      rfl
    · show f.p ++ (bif (oper (in5 4 0 1 0 0) y).k != 0 then _ else []) = _
      rw [hk]
      exact List.append_nil _
/-- What control hangs on, of each. -/
def cts (f : Fl) : List (List Int) := f.p.map fun q => q.2.2.2
theorem brL_dn (i : Nat) : dnB (itw (brL i)) = true ∧ dnI (itw (brL i)) = in5 13 (1 + ((i % 2 : Nat) : Int)) 5 0 0 ∧ Rg (brL i) := dn_word (e_ld (i % 2) (by omega))
theorem brB_dn (jump : Bool) : dnB (itw (brB jump)) = true ∧ dnI (itw (brB jump)) = (bif jump then in5 4 0 1 0 0 else in5 5 0 1 2 8) ∧ Rg (brB jump) := by
  cases jump
  · exact dn_word e_beq
  · exact dn_word e_jalr
theorem brX_rg (t : Nat) (jump : Bool) (j : Nat) : Rg (brX t jump j).wd := by
  show Rg (if j < t then brL j else if j = t then brB jump else brL (j - 1))
  split
  · exact (brL_dn j).2.2
  · split
    · exact (brB_dn jump).2.2
    · exact (brL_dn _).2.2
theorem run_succ (x : Nat → It) (n : Nat) (i : I) (h1 : dnB (x n) = true) (h2 : dnI (x n) = i) : runN x (n + 1) = tk i (oper i (x n)) (runN x n) := by
  show (bif dnB (x n) then tk (dnI (x n)) (oper (dnI (x n)) (x n)) (runN x n) else runN x n) = _
  rw [h1, h2]
  rfl
/-- Ahead of the branch. -/
theorem br_ahead (t : Nat) (jump : Bool) : ∀ j, j ≤ t → (runN (brX t jump) j).c = [] ∧ (runN (brX t jump) j).r 0 = [] ∧ (runN (brX t jump) j).r 1 = lastE j ∧ (runN (brX t jump) j).r 2 = lastO j ∧ cts (runN (brX t jump) j) = List.replicate j []
  | 0, _ => ⟨rfl, rfl, rfl, rfl, rfl⟩
  | j + 1, hj => by
    obtain ⟨p1, p2, p3, p4, p5⟩ := br_ahead t jump j (by omega)
    have ex : brX t jump j = itw (brL j) := by unfold brX; rw [if_pos (by omega)]
    obtain ⟨d1, d2, _⟩ := brL_dn j
    rw [run_succ (brX t jump) j (in5 13 (1 + ((j % 2 : Nat) : Int)) 5 0 0) (by rw [ex]; exact d1) (by rw [ex]; exact d2)]
    have hlen : (runN (brX t jump) j).p.length = j := by
      have := congrArg List.length p5
      simpa [cts] using this
    generalize brX t jump j = y at *
    obtain ⟨s1, s2, s3, s4⟩ := ld_step (runN (brX t jump) j) (j % 2) (by omega) y
    refine ⟨by rw [s2]; exact p1, by rw [s3, if_neg (by omega)]; exact p2, ?_, ?_, ?_⟩
    · rw [s3, hlen]
      unfold lastE
      rw [if_neg (by omega : ¬ j + 1 = 0)]
      by_cases h : j % 2 = 0
      · rw [if_pos (by omega)]
        congr 2
        omega
      · rw [if_neg (by omega), p3]
        unfold lastE
        rw [if_neg (by omega)]
        congr 2
        omega
    · rw [s3, hlen]
      unfold lastO
      by_cases h : j % 2 = 1
      · rw [if_pos (by omega), if_neg (by omega)]
        congr 2
        omega
      · rw [if_neg (by omega), p4]
        unfold lastO
        by_cases h2 : j < 2
        · rw [if_pos h2, if_pos (by omega)]
        · rw [if_neg h2, if_neg (by omega)]
          congr 2
          omega
    · unfold cts at p5 ⊢
      rw [s4, List.map_append, p5, p1, List.replicate_succ']
      rfl
/-- Behind it. -/
theorem br_behind (t : Nat) (jump : Bool) (ht : t < 21) : ∀ j, (runN (brX t jump) (t + 1 + j)).c = wantL t jump t ∧ cts (runN (brX t jump) (t + 1 + j)) = List.replicate t [] ++ List.replicate j (wantL t jump t)
  | 0 => by
    obtain ⟨p1, p2, p3, p4, p5⟩ := br_ahead t jump t (Nat.le_refl _)
    have ex : brX t jump t = itw (brB jump) := by unfold brX; rw [if_neg (by omega), if_pos rfl]
    obtain ⟨d1, d2, _⟩ := brB_dn jump
    rw [show t + 1 + 0 = t + 1 from rfl, run_succ (brX t jump) t (bif jump then in5 4 0 1 0 0 else in5 5 0 1 2 8) (by rw [ex]; exact d1) (by rw [ex]; exact d2)]
    have hs := br_step (runN (brX t jump) t) jump (brX t jump t)
    dsimp only at hs
    obtain ⟨s1, s2, s3⟩ := hs
    constructor
    · rw [s1, p1, p3, ← brC_eq t jump ht]
      unfold brC
      cases jump
      · show uni [] (uni _ ((runN (brX t false) t).r 2)) = _
        rw [p4]
        rfl
      · show uni [] (uni _ ((runN (brX t true) t).r 0)) = _
        rw [p2]
        rfl
    · unfold cts at p5 ⊢
      rw [s3, p5]
      simp
  | j + 1 => by
    obtain ⟨p1, p2⟩ := br_behind t jump ht j
    have ex : brX t jump (t + 1 + j) = itw (brL (t + j)) := by
      unfold brX
      rw [if_neg (by omega), if_neg (by omega), show t + 1 + j - 1 = t + j by omega]
    obtain ⟨d1, d2, _⟩ := brL_dn (t + j)
    rw [show t + 1 + (j + 1) = (t + 1 + j) + 1 by omega, run_succ (brX t jump) (t + 1 + j) (in5 13 (1 + (((t + j) % 2 : Nat) : Int)) 5 0 0) (by rw [ex]; exact d1) (by rw [ex]; exact d2)]
    generalize brX t jump (t + 1 + j) = y at *
    obtain ⟨s1, s2, s3, s4⟩ := ld_step (runN (brX t jump) (t + 1 + j)) ((t + j) % 2) (by omega) y
    refine ⟨by rw [s2]; exact p1, ?_⟩
    unfold cts at p2 ⊢
    rw [s4, List.map_append, p2, p1, List.replicate_succ', ← List.append_assoc]
    rfl
/-- Of all. -/
def brN (n t : Nat) : Nat := if t < n then n + 1 else n
theorem br_all (n t : Nat) (jump : Bool) (ht : t ≤ n) (hn : n ≤ 20) (i : Nat) (hi : i < n) : (cts (runN (brX t jump) (brN n t)))[i]? = some (if i < t then [] else wantL t jump t) := by
  unfold brN
  by_cases h : t < n
  · rw [if_pos h, show n + 1 = t + 1 + (n - t) by omega, (br_behind t jump (by omega) (n - t)).2]
    by_cases h2 : i < t
    · rw [if_pos h2, List.getElem?_append_left (by simp; omega), List.getElem?_replicate, if_pos h2]
    · rw [if_neg h2, List.getElem?_append_right (by simp; omega), List.getElem?_replicate, if_pos (by simp; omega)]
  · obtain rfl : t = n := by omega
    rw [if_neg h, (br_ahead t jump t (Nat.le_refl _)).2.2.2.2, List.getElem?_replicate, if_pos hi, if_pos hi]
theorem br_len (n t : Nat) (jump : Bool) (ht : t ≤ n) (hn : n ≤ 20) : (cts (runN (brX t jump) (brN n t))).length = n := by
  unfold brN
  by_cases h : t < n
  · rw [if_pos h, show n + 1 = t + 1 + (n - t) by omega, (br_behind t jump (by omega) (n - t)).2]
    simp
    omega
  · obtain rfl : t = n := by omega
    rw [if_neg h, (br_ahead t jump t (Nat.le_refl _)).2.2.2.2]
    simp
end W
end Go.Proofs.Ytopehmpjfndgjaa

/- DepBranches. -/
namespace Go.Proofs.Ytopehmpjfndgjaa
open Go.ChangeShapes Go.WideShapes Go.ChangeAt Go.RowKit
set_option linter.unusedVariables false
set_option linter.unusedSimpArgs false

namespace W
def brc (T j : Nat) : Nat := if T < j then j + 1 else j
theorem brX_lt (T : Nat) (jump : Bool) (j : Nat) (h : j ≠ T) : brX T jump (brc T j) = itw (brL j) := by
  unfold brX brc
  by_cases e : T < j
  · rw [if_pos e, if_neg (by omega), if_neg (by omega), show j + 1 - 1 = j by omega]
  · rw [if_neg e, if_pos (by omega)]
theorem brX_at (T : Nat) (jump : Bool) : brX T jump T = itw (brB jump) := by unfold brX; rw [if_neg (by omega), if_pos rfl]
theorem brX_next (T : Nat) (jump : Bool) : brX T jump (T + 1) = itw (brL T) := by unfold brX; rw [if_neg (by omega), if_neg (by omega), show T + 1 - 1 = T by omega]
theorem brc_succ (T j : Nat) (h : j ≠ T) : brc T (j + 1) = brc T j + 1 := by
  unfold brc
  by_cases e : T < j
  · rw [if_pos e, if_pos (by omega)]
  · rw [if_neg e, if_neg (by omega)]
theorem brc_at (T : Nat) : brc T T = T ∧ brc T (T + 1) = T + 2 := by
  unfold brc
  rw [if_neg (by omega), if_pos (by omega)]
  exact ⟨rfl, rfl⟩
theorem brc_le (T j : Nat) : brc T j ≤ j + 1 := by unfold brc; split <;> omega
end W
attribute [local go_sem ↓] bdT_eq bsT_eq
set_option maxRecDepth 100000 in
set_option maxHeartbeats 3200000 in
theorem branches_walk (N T : Nat) (jump : Bool) (n at_ : Int) (n0 : -9223372036854775808 ≤ n) (n1 : n ≤ 9223372036854775807) (u0 : -9223372036854775808 ≤ at_) (u1 : at_ ≤ 9223372036854775807) (hN : n % 20 + 1 = (N : Int)) (hT : at_ % ((N : Int) + 1) = (T : Int)) (w : World) :
    Calls Try.prog 5 #[.int .i64 n, .int .i64 at_, .bool jump] w fun e w' => e = .returned (.bool true) ∧ Below w.heap.size w w' := by
  obtain ⟨ii, hi, hzz⟩ := Option.map_eq_some_iff.1 infoIt
  simp only [Prod.mk.injEq] at hzz
  obtain ⟨hz0, hz1, hz2⟩ := hzz
  have N1 : 1 ≤ N := by omega
  have N20 : N ≤ 20 := by omega
  have TN : T ≤ N := by have := Int.emod_lt_of_pos at_ (show 0 < (N : Int) + 1 by omega); omega
  have c1 := fun w => number_any n 20 n0 n1 (by decide) (by decide) w
  have c2 := fun w => number_any at_ ((N : Int) + 1) u0 u1 (by omega) (by omega) w
  have e1 : n % 20 = (N : Int) - 1 := by omega
  rw [e1] at c1
  rw [hT] at c2
  have e3 : (N : Int) - 1 + 1 = (N : Int) := by omega
  have hF := first12_any w
  have hbd := bdT_any
  have hbs := bsT_1
  have hLd := fun (j : Nat) w => cword_any 13 (1 + ((j % 2 : Nat) : Int)) 5 0 0 (by decide) (by decide) (W.brL j) (W.e_ld (j % 2) (by omega)) rfl w
  have hBq := fun w => cword_any 5 0 1 2 8 (by decide) (by decide) (W.brB false) W.e_beq rfl w
  have hJr := fun w => cword_any 4 0 1 0 0 (by decide) (by decide) (W.brB true) W.e_jalr rfl w
  have HH : Hid (_ ∧ _ ∧ _ ∧ _ ∧ _ ∧ _) := ⟨hF, c1, c2, hLd, hBq, hJr⟩
  clear hF c1 c2 hLd hBq hJr hN hT e1
  go_enter Try.func5, Try.ntmps5
  go_wp2_with (fail)
  refine HH.out.1.mono ?_
  rintro e w1 ⟨rfl, bw1⟩
  go_wp2_with (fail)
  refine (HH.out.2.1 _).mono ?_
  rintro e w1' ⟨rfl, rfl⟩
  go_wp2_with (fail)
  refine (HH.out.2.2.1 _).mono ?_
  rintro e w1' ⟨rfl, rfl⟩
  go_wp2
  go_loopw [8, 9] (fun l i wr => ∃ j : Nat, j ≤ N ∧ i = .int .i64 (j : Int) ∧ wr.ownsRow w.heap.size 37 6 l (W.brc T j) (itsX (W.brX T jump) (W.brc T j)) ∧ Below w.heap.size w wr) (fun _ i _ => N - (intOf i).toNat)
  case atStart => exact ⟨0, by omega, rfl, ⟨rfl, .inl ⟨rfl, rfl⟩⟩, bw1⟩
  case round =>
    clear bw1
    obtain ⟨j, hj, rfl, hown, hbl⟩ := hrel
    by_cases hlt : j < N
    · have hjn : (j : Int) < (N : Int) := by omega
      have j20 : (j : Int) < 20 := by omega
      have hL := HH.out.2.2.2.1 j
      rw [show ((j % 2 : Nat) : Int) = (j : Int) % 2 by omega] at hL
      have hcl := W.brc_le T j
      by_cases hq : j = T
      · have hqb : ((j : Int) == (T : Int)) = true := by simp [hq]
        subst hq
        have hBB : W.brX j jump j = W.itw (W.brB jump) := W.brX_at j jump
        have hLL : W.brX j jump (j + 1) = W.itw (W.brL j) := W.brX_next j jump
        obtain ⟨hc0, hc1⟩ := W.brc_at j
        rw [hc0] at hown hcl
        generalize W.brL j = xl at *
        have HB := HH.out.2.2.2.2.1
        have HJ := HH.out.2.2.2.2.2
        cases jump
        · generalize W.brB false = xb at *
          have HW : Hid (_ ∧ _) := ⟨hL, HB⟩
          clear hL HB HJ HH
          go_wp2_with (fail)
          refine (HW.out.2 _).mono ?_
          rintro e w3 ⟨rfl, b3⟩
          have B3 := hbl.trans (b3.mono hbl.size)
          have O3 := own_below hown b3
          have c3 : w.heap.size ≤ (w3.alloc (.cells (itC (W.itw xb)) 37)).heap.size := by have := B3.size; simp; omega
          have H3 : Hid (_ ∧ _ ∧ _) := ⟨O3, B3, c3⟩
          clear b3 O3 B3 c3 hown hbl
          go_wp2_with (at_builtin; refine wpList_append_own _ rfl _ _ 22 rfl w.heap.size 37 ii (.agg #[.int .u32 0, .int .u32 0, .int .u32 0, .int .u32 0, .bool false, .bool false]) 6 20 Try.underlying22 hi hz0 hz1 hz2 rfl (by decide) u8 j (itsX (W.brX j false) j) rfl (H3.out.1.alloc _) ⟨w3.heap.size, 0, none⟩ 1 1 (itC (W.itw xb)).toList rfl rfl (news_it _ _) (itC_one _) (by unfold maxLen; omega) (by omega) H3.out.2.2 ?_)
          intro v6 w6 own6 hg6 _
          have b6 : Below w.heap.size w w6 := Below.grown (H3.out.2.1.alloc H3.out.2.1.size _) hg6 H3.out.2.2 (fun b hb => (H3.out.1.lt b hb).1)
          have own7 : w6.ownsRow w.heap.size 37 6 v6 (j + 1) (itsX (W.brX j false) (j + 1)) := by rw [itsX_succ, hBB]; exact own6
          clear own6 hg6 H3
          go_wp2_with (fail)
          refine (HW.out.1 _).mono ?_
          rintro e w5a ⟨rfl, b5a⟩
          have B5a := b6.trans (b5a.mono b6.size)
          have O5a := own_below own7 b5a
          have c5a : w.heap.size ≤ (w5a.alloc (.cells (itC (W.itw xl)) 37)).heap.size := by have := B5a.size; simp; omega
          have H5a : Hid (_ ∧ _ ∧ _) := ⟨O5a, B5a, c5a⟩
          clear b5a O5a B5a c5a own7 b6
          go_wp2_with (at_builtin; refine wpList_append_own _ rfl _ _ 22 rfl w.heap.size 37 ii (.agg #[.int .u32 0, .int .u32 0, .int .u32 0, .int .u32 0, .bool false, .bool false]) 6 20 Try.underlying22 hi hz0 hz1 hz2 rfl (by decide) v6 (j + 1) (itsX (W.brX j false) (j + 1)) rfl (H5a.out.1.alloc _) ⟨w5a.heap.size, 0, none⟩ 1 1 (itC (W.itw xl)).toList rfl rfl (news_it _ _) (itC_one _) (by unfold maxLen; omega) (by omega) H5a.out.2.2 ?_)
          intro v6a w6a own6a hg6a _
          have b6a : Below w.heap.size w w6a := Below.grown (H5a.out.2.1.alloc H5a.out.2.1.size _) hg6a H5a.out.2.2 (fun b hb => (H5a.out.1.lt b hb).1)
          have X : Hid (w6a.ownsRow w.heap.size 37 6 v6a (W.brc j (j + 1)) (itsX (W.brX j false) (W.brc j (j + 1))) ∧ Below w.heap.size w w6a) := ⟨by rw [hc1, show j + 2 = j + 1 + 1 from rfl, itsX_succ, hLL]; exact own6a, b6a⟩
          clear own6a hg6a b6a H5a HW hbd hbs
          go_wp2
          go_roundw
          case rel => exact ⟨j + 1, by omega, by go_num, X.out.1, X.out.2⟩
          case measure => simp [intOf]; omega
        · generalize W.brB false = xa at *
          generalize W.brB true = xb at *
          have HW : Hid (_ ∧ _ ∧ _) := ⟨hL, HB, HJ⟩
          clear hL HB HJ HH
          go_wp2_with (fail)
          refine (HW.out.2.1 _).mono ?_
          rintro e w3 ⟨rfl, b3⟩
          go_wp2_with (fail)
          refine (HW.out.2.2 _).mono ?_
          rintro e w4 ⟨rfl, b4'⟩
          have b4 := b3.trans (b4'.mono b3.size)
          clear b3 b4'
          have B3 := hbl.trans (b4.mono hbl.size)
          have O3 := own_below hown b4
          have c3 : w.heap.size ≤ (w4.alloc (.cells (itC (W.itw xb)) 37)).heap.size := by have := B3.size; simp; omega
          have H3 : Hid (_ ∧ _ ∧ _) := ⟨O3, B3, c3⟩
          clear b4 O3 B3 c3 hown hbl
          go_wp2_with (at_builtin; refine wpList_append_own _ rfl _ _ 22 rfl w.heap.size 37 ii (.agg #[.int .u32 0, .int .u32 0, .int .u32 0, .int .u32 0, .bool false, .bool false]) 6 20 Try.underlying22 hi hz0 hz1 hz2 rfl (by decide) u8 j (itsX (W.brX j true) j) rfl (H3.out.1.alloc _) ⟨w4.heap.size, 0, none⟩ 1 1 (itC (W.itw xb)).toList rfl rfl (news_it _ _) (itC_one _) (by unfold maxLen; omega) (by omega) H3.out.2.2 ?_)
          intro v6 w6 own6 hg6 _
          have b6 : Below w.heap.size w w6 := Below.grown (H3.out.2.1.alloc H3.out.2.1.size _) hg6 H3.out.2.2 (fun b hb => (H3.out.1.lt b hb).1)
          have own7 : w6.ownsRow w.heap.size 37 6 v6 (j + 1) (itsX (W.brX j true) (j + 1)) := by rw [itsX_succ, hBB]; exact own6
          clear own6 hg6 H3
          go_wp2_with (fail)
          refine (HW.out.1 _).mono ?_
          rintro e w5a ⟨rfl, b5a⟩
          have B5a := b6.trans (b5a.mono b6.size)
          have O5a := own_below own7 b5a
          have c5a : w.heap.size ≤ (w5a.alloc (.cells (itC (W.itw xl)) 37)).heap.size := by have := B5a.size; simp; omega
          have H5a : Hid (_ ∧ _ ∧ _) := ⟨O5a, B5a, c5a⟩
          clear b5a O5a B5a c5a own7 b6
          go_wp2_with (at_builtin; refine wpList_append_own _ rfl _ _ 22 rfl w.heap.size 37 ii (.agg #[.int .u32 0, .int .u32 0, .int .u32 0, .int .u32 0, .bool false, .bool false]) 6 20 Try.underlying22 hi hz0 hz1 hz2 rfl (by decide) v6 (j + 1) (itsX (W.brX j true) (j + 1)) rfl (H5a.out.1.alloc _) ⟨w5a.heap.size, 0, none⟩ 1 1 (itC (W.itw xl)).toList rfl rfl (news_it _ _) (itC_one _) (by unfold maxLen; omega) (by omega) H5a.out.2.2 ?_)
          intro v6a w6a own6a hg6a _
          have b6a : Below w.heap.size w w6a := Below.grown (H5a.out.2.1.alloc H5a.out.2.1.size _) hg6a H5a.out.2.2 (fun b hb => (H5a.out.1.lt b hb).1)
          have X : Hid (w6a.ownsRow w.heap.size 37 6 v6a (W.brc j (j + 1)) (itsX (W.brX j true) (W.brc j (j + 1))) ∧ Below w.heap.size w w6a) := ⟨by rw [hc1, show j + 2 = j + 1 + 1 from rfl, itsX_succ, hLL]; exact own6a, b6a⟩
          clear own6a hg6a b6a H5a HW hbd hbs
          go_wp2
          go_roundw
          case rel => exact ⟨j + 1, by omega, by go_num, X.out.1, X.out.2⟩
          case measure => simp [intOf]; omega
      · have hqb : ((j : Int) == (T : Int)) = false := by simp; omega
        have hX := W.brX_lt T jump j hq
        have hc1 := W.brc_succ T j hq
        clear hq
        generalize W.brL j = xl at *
        have HW : Hid (_ ∧ _) := ⟨hL, hX⟩
        clear hL hX HH
        go_wp2_with (fail)
        refine (HW.out.1 _).mono ?_
        rintro e w5a ⟨rfl, b5a⟩
        have B5a := hbl.trans (b5a.mono hbl.size)
        have O5a := own_below hown b5a
        have c5a : w.heap.size ≤ (w5a.alloc (.cells (itC (W.itw xl)) 37)).heap.size := by have := B5a.size; simp; omega
        have H5a : Hid (_ ∧ _ ∧ _) := ⟨O5a, B5a, c5a⟩
        clear b5a O5a B5a c5a hown hbl
        go_wp2_with (at_builtin; refine wpList_append_own _ rfl _ _ 22 rfl w.heap.size 37 ii (.agg #[.int .u32 0, .int .u32 0, .int .u32 0, .int .u32 0, .bool false, .bool false]) 6 20 Try.underlying22 hi hz0 hz1 hz2 rfl (by decide) u8 (W.brc T j) (itsX (W.brX T jump) (W.brc T j)) rfl (H5a.out.1.alloc _) ⟨w5a.heap.size, 0, none⟩ 1 1 (itC (W.itw xl)).toList rfl rfl (news_it _ _) (itC_one _) (by unfold maxLen; omega) (by omega) H5a.out.2.2 ?_)
        intro v6a w6a own6a hg6a _
        have b6a : Below w.heap.size w w6a := Below.grown (H5a.out.2.1.alloc H5a.out.2.1.size _) hg6a H5a.out.2.2 (fun b hb => (H5a.out.1.lt b hb).1)
        have X : Hid (w6a.ownsRow w.heap.size 37 6 v6a (W.brc T (j + 1)) (itsX (W.brX T jump) (W.brc T (j + 1))) ∧ Below w.heap.size w w6a) := ⟨by rw [hc1, itsX_succ, HW.out.2]; exact own6a, b6a⟩
        clear own6a hg6a b6a H5a HW hbd hbs
        go_wp2
        go_roundw
        case rel => exact ⟨j + 1, by omega, by go_num, X.out.1, X.out.2⟩
        case measure => simp [intOf]; omega
    · have e : j = N := by omega
      subst e
      have hbn : W.brc T j = W.brN j T := rfl
      have hle := W.brc_le T j
      have hpos : 0 < W.brc T j := by unfold W.brc; split <;> omega
      obtain ⟨g, cap, rfl, hIts⟩ := own_its hown hpos (fun q _ => W.brX_rg T jump q)
      have hOps := ops_oi (some ⟨g, 0, none⟩) (W.brc T j) cap (W.brX T jump) wr hIts (by omega) _ rfl
      have hlen := W.br_len j T jump TN N20
      have hall := fun i hi => W.br_all j T jump TN N20 i hi
      unfold W.cts at hlen hall
      rw [← hbn] at hlen hall
      generalize (W.runN (W.brX T jump) (W.brc T j)).p = PP at *
      have HO : Hid (Calls _ _ _ _ _ ∧ _ ∧ _ ∧ _) := ⟨hOps, hlen, hall, hbl⟩
      clear hOps hlen hall hbl hown hIts hi hz0 hz1 hz2 HH hbd hbs hbn
      obtain ⟨it, ht, hyy⟩ := Option.map_eq_some_iff.1 (show (Try.prog.info? 3).map (fun i => (i.zero, i.size, i.bytes)) = some (some (.int .i64 0), 1, 8) by kernel_rfl)
      simp only [Prod.mk.injEq] at hyy
      obtain ⟨hy0, hy1, hy2⟩ := hyy
      have hTj : (T : Int) ≤ (j : Int) := by omega
      go_wp2_with (fail)
      refine HO.out.1.mono ?_
      rintro e w7 ⟨⟨OA, rfl, iA⟩, b7⟩
      have nA : OA.n = j := by rw [iA.n]; have := HO.out.2.1; simpa using this
      obtain ⟨oa, on, oc⟩ := OA
      dsimp only at nA
      subst nA
      have HA : Hid (_ ∧ _ ∧ _ ∧ _) := ⟨iA, HO.out.2.1, HO.out.2.2.1, HO.out.2.2.2.trans (b7.mono HO.out.2.2.2.size)⟩
      clear iA b7 HO
      unfold slV at HA ⊢
      dsimp only
      go_wp2
      go_loopw [12, 13] (fun v i wr => ∃ q : Nat, q ≤ T ∧ i = .int .i64 (q : Int) ∧ wr.ownsRow w7.heap.size 3 1 v (W.wantL T jump q).length (intsL (W.wantL T jump q)) ∧ Below w7.heap.size w7 wr) (fun _ i _ => T - (intOf i).toNat)
      case atStart => exact ⟨0, by omega, rfl, ⟨rfl, .inl ⟨rfl, rfl⟩⟩, Below.refl _ _⟩
      case round =>
        obtain ⟨q, hq, rfl, hown, hbl⟩ := hrel
        by_cases hlt : q < T
        · have hqt : (q : Int) < (T : Int) := by omega
          have q20 : (q : Int) < 20 := by omega
          have hsc := W.wantL_succ T jump q
          have hwl := W.want_len T jump q
          have hwb : W.wantB T jump q = ((((q : Int) % 2 == 0) && decide ((T : Int) ≤ (q : Int) + 2)) || ((!jump) && ((q : Int) % 2 == 1) && decide ((T : Int) ≤ (q : Int) + 2))) := by
            unfold W.wantB
            have r0 : decide (q % 2 = 0) = ((q : Int) % 2 == 0) := by rw [Bool.eq_iff_iff]; simp; omega
            have r1 : decide (q % 2 = 1) = ((q : Int) % 2 == 1) := by rw [Bool.eq_iff_iff]; simp; omega
            have r2 : decide (T ≤ q + 2) = decide ((T : Int) ≤ (q : Int) + 2) := by rw [Bool.eq_iff_iff]; simp; omega
            rw [r0, r1, r2]
          rw [hwb] at hsc
          clear hwb
          have hr : ((q : Int) % 2 == 0) = true ∧ ((q : Int) % 2 == 1) = false ∨ ((q : Int) % 2 == 0) = false ∧ ((q : Int) % 2 == 1) = true := by
            have : (q : Int) % 2 = 0 ∨ (q : Int) % 2 = 1 := by omega
            rcases this with h | h <;> rw [h] <;> decide
          have HS : Hid (_ ∧ _) := ⟨hown, hbl⟩
          have own0 := hown
          clear hown hbl
          clear own0
          rcases hr with ⟨r0, r1⟩ | ⟨r0, r1⟩ <;> cases hg : decide ((T : Int) ≤ (q : Int) + 2) <;> cases jump
          · rw [r0, r1, hg] at hsc
            simp only [Bool.and_true, Bool.and_false, Bool.or_false, Bool.or_true, Bool.true_and, Bool.false_and, Bool.or_self, Bool.and_self, Bool.not_true, Bool.not_false, cond_true, cond_false, List.append_nil] at hsc
            have X : Hid (wr.ownsRow w7.heap.size 3 1 u12 (W.wantL T false (q + 1)).length (intsL (W.wantL T false (q + 1)))) := by
              have h : wr.ownsRow w7.heap.size 3 1 u12 (W.wantL T false (q + 1)).length (intsL (W.wantL T false (q + 1))) := by rw [hsc]; exact HS.out.1
              exact h
            clear hsc
            go_wp2
            go_roundw
            case rel => exact ⟨q + 1, by omega, by go_num, X.out, HS.out.2⟩
            case measure => simp [intOf]; omega
          · rw [r0, r1, hg] at hsc
            simp only [Bool.and_true, Bool.and_false, Bool.or_false, Bool.or_true, Bool.true_and, Bool.false_and, Bool.or_self, Bool.and_self, Bool.not_true, Bool.not_false, cond_true, cond_false, List.append_nil] at hsc
            have X : Hid (wr.ownsRow w7.heap.size 3 1 u12 (W.wantL T true (q + 1)).length (intsL (W.wantL T true (q + 1)))) := by
              have h : wr.ownsRow w7.heap.size 3 1 u12 (W.wantL T true (q + 1)).length (intsL (W.wantL T true (q + 1))) := by rw [hsc]; exact HS.out.1
              exact h
            clear hsc
            go_wp2
            go_roundw
            case rel => exact ⟨q + 1, by omega, by go_num, X.out, HS.out.2⟩
            case measure => simp [intOf]; omega
          · rw [r0, r1, hg] at hsc
            simp only [Bool.and_true, Bool.and_false, Bool.or_false, Bool.or_true, Bool.true_and, Bool.false_and, Bool.or_self, Bool.and_self, Bool.not_true, Bool.not_false, cond_true, cond_false, List.append_nil] at hsc
            have HSC : Hid _ := hsc
            clear hsc
            have c6 : w7.heap.size ≤ (wr.alloc (.cells #[.int .i64 (q : Int)] 3)).heap.size := by have := HS.out.2.size; simp; omega
            have n6 : ∀ j u, [Value.int .i64 (q : Int)][j]? = some u → (wr.alloc (.cells #[.int .i64 (q : Int)] 3)).cell? ((⟨wr.heap.size, 0, none⟩ : Addr).add j) = some u := World.news_of_block (cs := #[.int .i64 (q : Int)]) (heap_alloc_last wr _)
            have d3 : ∀ u ∈ [Value.int .i64 (q : Int)], u.oneCell' = true := by intro u hu; simp at hu; rw [hu]; rfl
            have HN : Hid (_ ∧ _ ∧ _) := ⟨c6, n6, d3⟩
            clear c6 n6 d3
            go_wp2_with (at_builtin; refine wpList_append_own _ rfl _ _ 30 rfl w7.heap.size 3 it (.int .i64 0) 1 8 Try.underlying30 ht hy0 hy1 hy2 rfl (by decide) u12 (W.wantL T false q).length (intsL (W.wantL T false q)) rfl (HS.out.1.alloc _) ⟨wr.heap.size, 0, none⟩ 1 1 [.int .i64 (q : Int)] rfl rfl HN.out.2.1 HN.out.2.2 (by unfold maxLen; omega) (by omega) HN.out.1 ?_)
            intro v6 w6 own6 hg6 _
            have b6 : Below w7.heap.size w7 w6 := Below.grown (HS.out.2.alloc HS.out.2.size _) hg6 HN.out.1 (fun b hb => (HS.out.1.lt b hb).1)
            have X : Hid (w6.ownsRow w7.heap.size 3 1 v6 (W.wantL T false (q + 1)).length (intsL (W.wantL T false (q + 1))) ∧ Below w7.heap.size w7 w6) := ⟨by rw [HSC.out, List.length_append, ← intsL_app]; exact own6, b6⟩
            clear own6 hg6 b6 HN HS HSC
            go_wp2
            go_roundw
            case rel => exact ⟨q + 1, by omega, by go_num, X.out.1, X.out.2⟩
            case measure => simp [intOf]; omega
          · rw [r0, r1, hg] at hsc
            simp only [Bool.and_true, Bool.and_false, Bool.or_false, Bool.or_true, Bool.true_and, Bool.false_and, Bool.or_self, Bool.and_self, Bool.not_true, Bool.not_false, cond_true, cond_false, List.append_nil] at hsc
            have HSC : Hid _ := hsc
            clear hsc
            have c6 : w7.heap.size ≤ (wr.alloc (.cells #[.int .i64 (q : Int)] 3)).heap.size := by have := HS.out.2.size; simp; omega
            have n6 : ∀ j u, [Value.int .i64 (q : Int)][j]? = some u → (wr.alloc (.cells #[.int .i64 (q : Int)] 3)).cell? ((⟨wr.heap.size, 0, none⟩ : Addr).add j) = some u := World.news_of_block (cs := #[.int .i64 (q : Int)]) (heap_alloc_last wr _)
            have d3 : ∀ u ∈ [Value.int .i64 (q : Int)], u.oneCell' = true := by intro u hu; simp at hu; rw [hu]; rfl
            have HN : Hid (_ ∧ _ ∧ _) := ⟨c6, n6, d3⟩
            clear c6 n6 d3
            go_wp2_with (at_builtin; refine wpList_append_own _ rfl _ _ 30 rfl w7.heap.size 3 it (.int .i64 0) 1 8 Try.underlying30 ht hy0 hy1 hy2 rfl (by decide) u12 (W.wantL T true q).length (intsL (W.wantL T true q)) rfl (HS.out.1.alloc _) ⟨wr.heap.size, 0, none⟩ 1 1 [.int .i64 (q : Int)] rfl rfl HN.out.2.1 HN.out.2.2 (by unfold maxLen; omega) (by omega) HN.out.1 ?_)
            intro v6 w6 own6 hg6 _
            have b6 : Below w7.heap.size w7 w6 := Below.grown (HS.out.2.alloc HS.out.2.size _) hg6 HN.out.1 (fun b hb => (HS.out.1.lt b hb).1)
            have X : Hid (w6.ownsRow w7.heap.size 3 1 v6 (W.wantL T true (q + 1)).length (intsL (W.wantL T true (q + 1))) ∧ Below w7.heap.size w7 w6) := ⟨by rw [HSC.out, List.length_append, ← intsL_app]; exact own6, b6⟩
            clear own6 hg6 b6 HN HS HSC
            go_wp2
            go_roundw
            case rel => exact ⟨q + 1, by omega, by go_num, X.out.1, X.out.2⟩
            case measure => simp [intOf]; omega
          · rw [r0, r1, hg] at hsc
            simp only [Bool.and_true, Bool.and_false, Bool.or_false, Bool.or_true, Bool.true_and, Bool.false_and, Bool.or_self, Bool.and_self, Bool.not_true, Bool.not_false, cond_true, cond_false, List.append_nil] at hsc
            have X : Hid (wr.ownsRow w7.heap.size 3 1 u12 (W.wantL T false (q + 1)).length (intsL (W.wantL T false (q + 1)))) := by
              have h : wr.ownsRow w7.heap.size 3 1 u12 (W.wantL T false (q + 1)).length (intsL (W.wantL T false (q + 1))) := by rw [hsc]; exact HS.out.1
              exact h
            clear hsc
            go_wp2
            go_roundw
            case rel => exact ⟨q + 1, by omega, by go_num, X.out, HS.out.2⟩
            case measure => simp [intOf]; omega
          · rw [r0, r1, hg] at hsc
            simp only [Bool.and_true, Bool.and_false, Bool.or_false, Bool.or_true, Bool.true_and, Bool.false_and, Bool.or_self, Bool.and_self, Bool.not_true, Bool.not_false, cond_true, cond_false, List.append_nil] at hsc
            have X : Hid (wr.ownsRow w7.heap.size 3 1 u12 (W.wantL T true (q + 1)).length (intsL (W.wantL T true (q + 1)))) := by
              have h : wr.ownsRow w7.heap.size 3 1 u12 (W.wantL T true (q + 1)).length (intsL (W.wantL T true (q + 1))) := by rw [hsc]; exact HS.out.1
              exact h
            clear hsc
            go_wp2
            go_roundw
            case rel => exact ⟨q + 1, by omega, by go_num, X.out, HS.out.2⟩
            case measure => simp [intOf]; omega
          · rw [r0, r1, hg] at hsc
            simp only [Bool.and_true, Bool.and_false, Bool.or_false, Bool.or_true, Bool.true_and, Bool.false_and, Bool.or_self, Bool.and_self, Bool.not_true, Bool.not_false, cond_true, cond_false, List.append_nil] at hsc
            have HSC : Hid _ := hsc
            clear hsc
            have c6 : w7.heap.size ≤ (wr.alloc (.cells #[.int .i64 (q : Int)] 3)).heap.size := by have := HS.out.2.size; simp; omega
            have n6 : ∀ j u, [Value.int .i64 (q : Int)][j]? = some u → (wr.alloc (.cells #[.int .i64 (q : Int)] 3)).cell? ((⟨wr.heap.size, 0, none⟩ : Addr).add j) = some u := World.news_of_block (cs := #[.int .i64 (q : Int)]) (heap_alloc_last wr _)
            have d3 : ∀ u ∈ [Value.int .i64 (q : Int)], u.oneCell' = true := by intro u hu; simp at hu; rw [hu]; rfl
            have HN : Hid (_ ∧ _ ∧ _) := ⟨c6, n6, d3⟩
            clear c6 n6 d3
            go_wp2_with (at_builtin; refine wpList_append_own _ rfl _ _ 30 rfl w7.heap.size 3 it (.int .i64 0) 1 8 Try.underlying30 ht hy0 hy1 hy2 rfl (by decide) u12 (W.wantL T false q).length (intsL (W.wantL T false q)) rfl (HS.out.1.alloc _) ⟨wr.heap.size, 0, none⟩ 1 1 [.int .i64 (q : Int)] rfl rfl HN.out.2.1 HN.out.2.2 (by unfold maxLen; omega) (by omega) HN.out.1 ?_)
            intro v6 w6 own6 hg6 _
            have b6 : Below w7.heap.size w7 w6 := Below.grown (HS.out.2.alloc HS.out.2.size _) hg6 HN.out.1 (fun b hb => (HS.out.1.lt b hb).1)
            have X : Hid (w6.ownsRow w7.heap.size 3 1 v6 (W.wantL T false (q + 1)).length (intsL (W.wantL T false (q + 1))) ∧ Below w7.heap.size w7 w6) := ⟨by rw [HSC.out, List.length_append, ← intsL_app]; exact own6, b6⟩
            clear own6 hg6 b6 HN HS HSC
            go_wp2
            go_roundw
            case rel => exact ⟨q + 1, by omega, by go_num, X.out.1, X.out.2⟩
            case measure => simp [intOf]; omega
          · rw [r0, r1, hg] at hsc
            simp only [Bool.and_true, Bool.and_false, Bool.or_false, Bool.or_true, Bool.true_and, Bool.false_and, Bool.or_self, Bool.and_self, Bool.not_true, Bool.not_false, cond_true, cond_false, List.append_nil] at hsc
            have X : Hid (wr.ownsRow w7.heap.size 3 1 u12 (W.wantL T true (q + 1)).length (intsL (W.wantL T true (q + 1)))) := by
              have h : wr.ownsRow w7.heap.size 3 1 u12 (W.wantL T true (q + 1)).length (intsL (W.wantL T true (q + 1))) := by rw [hsc]; exact HS.out.1
              exact h
            clear hsc
            go_wp2
            go_roundw
            case rel => exact ⟨q + 1, by omega, by go_num, X.out, HS.out.2⟩
            case measure => simp [intOf]; omega
        · have e : q = T := by omega
          subst e
          have hwl := W.want_len q jump q
          obtain ⟨sw, rfl, hsw, _⟩ := own_li hown (by omega)
          have HB : Hid (_ ∧ _) := ⟨hsw, hbl⟩
          clear hsw hbl hown ht hy0 hy1 hy2 hwl
          generalize W.wantL q jump q = WL at *
          obtain ⟨W8, hW8⟩ : ∃ W, W = wr := ⟨_, rfl⟩
          subst hW8
          have hqj : ¬ (q : Int) < (q : Int) := by omega
          go_wp2
          go_loopw [14] (fun t wx => ∃ i : Nat, i ≤ on ∧ t = .int .i64 (i : Int) ∧ Below W8.heap.size W8 wx) (fun t _ => on - (intOf t).toNat)
          case atStart => exact ⟨0, by omega, rfl, Below.refl _ _⟩
          case round =>
            obtain ⟨i, hi, rfl, bx⟩ := hrel
            by_cases hio : i < on
            · have hin : (i : Int) < (on : Int) := by omega
              have ezc := HA.out.2.2.1 i hio
              rw [List.getElem?_map] at ezc
              cases hz : PP[i]? with
              | none => rw [hz] at ezc; cases ezc
              | some z =>
                rw [hz] at ezc
                have ez : z.2.2.2 = if i < q then [] else WL := by simpa using ezc
                have bxx := HB.out.2.trans (bx.mono HB.out.2.size)
                obtain ⟨go, sa, sd, sc, hoa, hgl, hcc, _, _, hlc⟩ := (HA.out.1.below bxx).at_ i z hz
                dsimp only at hoa
                subst hoa
                have c12 := hcc 12 _ rfl
                have hbi : i * 13 + 12 < 1000 := by omega
                clear hcc
                rw [ez] at hlc
                clear ez ezc hz
                by_cases hiq : i < q
                · rw [if_pos hiq] at hlc
                  have zn : sc.n = 0 := hlc.n
                  obtain ⟨ca, cn, cc⟩ := sc
                  dsimp only at zn
                  subst zn
                  have c13 : wr.cell? ⟨go, i * 13 + 12, none⟩ = some (.slice ca 0 cc) := c12
                  clear c12
                  have hiq' : (i : Int) < (q : Int) := by omega
                  clear hlc hiq
                  go_wp2
                  go_roundw
                  case rel => exact ⟨i + 1, by omega, by go_num, bx⟩
                  case measure => simp [intOf]; omega
                · rw [if_neg hiq] at hlc
                  have hs := sameints_any sc sw WL WL wr hlc (HB.out.1.below bx)
                  have hdc : decide (WL = WL) = true := by simp
                  rw [hdc] at hs
                  have HSm : Hid (Calls _ _ _ _ _) := hs
                  obtain ⟨ca, cn, cc⟩ := sc
                  have c13 : wr.cell? ⟨go, i * 13 + 12, none⟩ = some (.slice ca cn cc) := c12
                  have hiq' : ¬ (i : Int) < (q : Int) := by omega
                  have hiq2 : (q : Int) ≤ (i : Int) := by omega
                  clear hlc hiq hs hdc c12
                  unfold slV at HSm ⊢
                  try dsimp only at HSm
                  go_wp2_with (fail)
                  refine HSm.out.mono ?_
                  rintro e w9 ⟨rfl, b9⟩
                  have c9 := bx.trans (b9.mono bx.size)
                  clear b9 bx c13 HSm bxx
                  go_wp2
                  go_roundw
                  case rel => exact ⟨i + 1, by omega, by go_num, c9⟩
                  case measure => simp [intOf]; omega
            · have hio' : ¬ (i : Int) < (on : Int) := by omega
              have b9 := HA.out.2.2.2.trans ((HB.out.2.trans (bx.mono HB.out.2.size)).mono HA.out.2.2.2.size)
              clear HA HB
              go_wp2
              go_ret
              exact ⟨rfl, b9⟩
end Go.Proofs.Ytopehmpjfndgjaa

/- DepBranches of all numbers. -/
namespace Go.Proofs.Ytopehmpjfndgjaa
open Go.ChangeShapes Go.WideShapes Go.ChangeAt Go.RowKit
set_option linter.unusedVariables false

theorem depbranches_walk (n at_ : Int) (jump : Bool) (n0 : -9223372036854775808 ≤ n) (n1 : n ≤ 9223372036854775807) (u0 : -9223372036854775808 ≤ at_) (u1 : at_ ≤ 9223372036854775807) (w : World) :
    Calls Try.prog 5 #[.int .i64 n, .int .i64 at_, .bool jump] w fun e w' => e = .returned (.bool true) ∧ Below w.heap.size w w' := by
  obtain ⟨N, hN⟩ := Int.eq_ofNat_of_zero_le (show 0 ≤ n % 20 + 1 by omega)
  obtain ⟨T, hT⟩ := Int.eq_ofNat_of_zero_le (show 0 ≤ at_ % ((N : Int) + 1) from Int.emod_nonneg at_ (by omega))
  exact branches_walk N T jump n at_ n0 n1 u0 u1 hN hT w
end Go.Proofs.Ytopehmpjfndgjaa
