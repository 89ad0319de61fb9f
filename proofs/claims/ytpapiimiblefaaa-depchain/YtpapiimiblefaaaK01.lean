/- Texts in one: DepT, DepU, DepChainWalk. -/
import Derived.Deep.AppendLies
import Derived.Test.YtpapiimiblefaaaJ32
/- A value handed on through registers; without any Go. -/
namespace Go.Proofs.Ytpapiimiblefaaa
open Go.RowKit
set_option linter.unusedVariables false
set_option linter.unusedSimpArgs false

namespace W
theorem dn_word {i : I} (h : encE i = 0) : dnB (itw (encV i)) = true ∧ dnI (itw (encV i)) = i ∧ Rg (encV i) := by
  obtain ⟨h1, h2⟩ := dec_enc h
  have hV : encV i = encW (code i.op.toNat) (shp i.op) i := by rw [encV, h]; rfl
  exact ⟨h1, h2, by rw [hV]; exact encW_lt _ _ _⟩
theorem e_add (i : Nat) (h : i < 21) : encE (in5 28 ((i : Int) + 1) (i : Int) 0 0) = 0 := by
  have : ((List.range 21).all fun i => encE (in5 28 ((i : Int) + 1) (i : Int) 0 0) == 0) = true := by decide +kernel
  simpa using List.all_eq_true.1 this i (List.mem_range.2 h)
theorem e_lui (i : Nat) (h : i < 21) : encE (in5 1 ((i : Int) + 1) 0 0 4096) = 0 := by
  have : ((List.range 21).all fun i => encE (in5 1 ((i : Int) + 1) 0 0 4096) == 0) = true := by decide +kernel
  simpa using List.all_eq_true.1 this i (List.mem_range.2 h)
theorem e_swa (i : Nat) (h : i < 22) : encE (in5 18 0 (i : Int) 0 0) = 0 := by
  have : ((List.range 22).all fun i => encE (in5 18 0 (i : Int) 0 0) == 0) = true := by decide +kernel
  simpa using List.all_eq_true.1 this i (List.mem_range.2 h)
theorem e_swd (i : Nat) (h : i < 22) : encE (in5 18 0 0 (i : Int) 0) = 0 := by
  have : ((List.range 22).all fun i => encE (in5 18 0 0 (i : Int) 0) == 0) = true := by decide +kernel
  simpa using List.all_eq_true.1 this i (List.mem_range.2 h)
theorem e_lw : encE (in5 13 1 0 0 0) = 0 := by decide +kernel
theorem tk_nok (f : Fl) (i : I) (o : Opr) (hk : (o.k != 0) = false) (hc : (kind i.op == 3 || i.op == 4) = false) : (tk i o f).p = f.p ∧ (tk i o f).c = f.c := by
  constructor
  · show f.p ++ (bif o.k != 0 then _ else []) = _
    rw [hk]
    exact List.append_nil _
  · show (bif kind i.op == 3 || i.op == 4 then _ else _ : List Int) = _
    rw [hc]
    rfl
theorem tk_c (f : Fl) (i : I) (o : Opr) (hc : (kind i.op == 3 || i.op == 4) = false) : (tk i o f).c = f.c := by
  unfold tk
  dsimp only
  rw [hc]
  rfl
theorem tk_r (f : Fl) (i : I) (o : Opr) (hrd : (i.rd != 0) = true) (k : Nat) : (tk i o f).r k = if k = i.rd.toNat then resL f.p.length i.op o.k (f.r i.rs1.toNat) (f.r i.rs2.toNat) else f.r k := by
  show (bif i.rd != 0 then _ else _ : Nat → List Int) k = _
  rw [hrd]
  rfl
/-- The items of the chain, but the last. -/
def chW (cut : Int) (i : Nat) : Int := if i = 0 then encV (in5 13 1 0 0 0) else if (i : Int) = cut then encV (in5 1 ((i : Int) + 1) 0 0 4096) else encV (in5 28 ((i : Int) + 1) (i : Int) 0 0)
/-- What the last register hangs on. -/
def chL (cut : Int) (i : Nat) : List Int := if 1 ≤ cut ∧ cut ≤ (i : Int) then [] else [0]
/-- Behind the i-th of them. -/
theorem chain_run (cut : Int) (x : Nat → It) (n : Nat) (hn : n ≤ 20) (hx : ∀ i, i ≤ n → x i = itw (chW cut i)) : ∀ i, i ≤ n → (runN x (i + 1)).p.length = 1 ∧ (runN x (i + 1)).c = [] ∧ (runN x (i + 1)).r 0 = [] ∧ (runN x (i + 1)).r (i + 1) = chL cut i
  | 0, hi => by
    obtain ⟨h1, h2, _⟩ := dn_word e_lw
    have e : x 0 = itw (encV (in5 13 1 0 0 0)) := hx 0 (Nat.zero_le _)
    have hr : runN x 1 = tk (in5 13 1 0 0 0) (oper (in5 13 1 0 0 0) (x 0)) Fl.z := by
      show (bif dnB (x 0) then tk (dnI (x 0)) (oper (dnI (x 0)) (x 0)) (runN x 0) else runN x 0) = _
      rw [e, h1, h2]
      rfl
    rw [hr]
    have hk : (oper (in5 13 1 0 0 0) (x 0)).k = 1 := by rw [oper_k, e]; decide +kernel
    have hk' : ((oper (in5 13 1 0 0 0) (x 0)).k != 0) = true := by rw [hk]; rfl
    have hrd : ((in5 13 1 0 0 0).rd != 0) = true := rfl
    refine ⟨?_, ?_, ?_, ?_⟩
    · show ([] ++ (bif (oper (in5 13 1 0 0 0) (x 0)).k != 0 then _ else []) : List _).length = 1
      rw [hk']
      rfl
    · have h0 : (kind (in5 13 1 0 0 0).op == 3 || (in5 13 1 0 0 0).op == 4) = false := by decide +kernel
      exact tk_c _ _ _ h0
    · rw [tk_r _ _ _ hrd]
      rfl
    · rw [tk_r _ _ _ hrd, if_pos (show 0 + 1 = (in5 13 1 0 0 0).rd.toNat from rfl)]
      unfold resL chL
      rw [hk', if_neg (by omega)]
      rfl
  | i + 1, hi => by
    obtain ⟨p1, p2, p3, p4⟩ := chain_run cut x n hn hx i (by omega)
    have e : x (i + 1) = itw (chW cut (i + 1)) := hx (i + 1) hi
    have hc : chW cut (i + 1) = if ((i + 1 : Nat) : Int) = cut then encV (in5 1 (((i + 1 : Nat) : Int) + 1) 0 0 4096) else encV (in5 28 (((i + 1 : Nat) : Int) + 1) ((i + 1 : Nat) : Int) 0 0) := by
      unfold chW
      rw [if_neg (by omega)]
    have step : runN x (i + 1 + 1) = bif dnB (x (i + 1)) then tk (dnI (x (i + 1))) (oper (dnI (x (i + 1))) (x (i + 1))) (runN x (i + 1)) else runN x (i + 1) := rfl
    by_cases hq : ((i + 1 : Nat) : Int) = cut
    · rw [hc, if_pos hq] at e
      obtain ⟨h1, h2, _⟩ := dn_word (e_lui (i + 1) (by omega))
      rw [step, e, h1, h2, cond_true]
      have hk : ((oper (in5 1 (((i + 1 : Nat) : Int) + 1) 0 0 4096) (itw (encV (in5 1 (((i + 1 : Nat) : Int) + 1) 0 0 4096)))).k != 0) = false := by
        rw [oper_k]
        show (okind 1 false != 0) = false
        decide +kernel
      generalize oper (in5 1 (((i + 1 : Nat) : Int) + 1) 0 0 4096) (itw (encV (in5 1 (((i + 1 : Nat) : Int) + 1) 0 0 4096))) = o at *
      generalize runN x (i + 1) = f at *
      have k1 : (kind (in5 1 (((i + 1 : Nat) : Int) + 1) 0 0 4096).op == 3 || (in5 1 (((i + 1 : Nat) : Int) + 1) 0 0 4096).op == 4) = false := by show (kind 1 == 3 || (1 : Int) == 4) = false; decide +kernel
      have k2 : (kind (in5 1 (((i + 1 : Nat) : Int) + 1) 0 0 4096).op == 1) = true := by show (kind 1 == 1) = true; decide +kernel
      have hrd : ((in5 1 (((i + 1 : Nat) : Int) + 1) 0 0 4096).rd != 0) = true := by show ((((i + 1 : Nat) : Int) + 1) != 0) = true; simp; omega
      obtain ⟨q1, q2⟩ := tk_nok f (in5 1 (((i + 1 : Nat) : Int) + 1) 0 0 4096) o hk k1
      refine ⟨by rw [q1]; exact p1, by rw [q2]; exact p2, by rw [tk_r _ _ _ hrd, if_neg (by show ¬ (0 : Nat) = (((i + 1 : Nat) : Int) + 1).toNat; omega)]; exact p3, ?_⟩
      rw [tk_r _ _ _ hrd, if_pos (by show i + 1 + 1 = (((i + 1 : Nat) : Int) + 1).toNat; omega)]
      unfold resL
      rw [hk, cond_false, k2, cond_true]
      show uni (f.r 0) (f.r 0) = _
      rw [p3]
      unfold chL
      rw [if_pos (by omega)]
      rfl
    · rw [hc, if_neg hq] at e
      obtain ⟨h1, h2, _⟩ := dn_word (e_add (i + 1) (by omega))
      rw [step, e, h1, h2, cond_true]
      have hk : ((oper (in5 28 (((i + 1 : Nat) : Int) + 1) ((i + 1 : Nat) : Int) 0 0) (itw (encV (in5 28 (((i + 1 : Nat) : Int) + 1) ((i + 1 : Nat) : Int) 0 0)))).k != 0) = false := by
        rw [oper_k]
        show (okind 28 false != 0) = false
        decide +kernel
      have pw := (good_run x (i + 1)).r (i + 1)
      generalize oper (in5 28 (((i + 1 : Nat) : Int) + 1) ((i + 1 : Nat) : Int) 0 0) (itw (encV (in5 28 (((i + 1 : Nat) : Int) + 1) ((i + 1 : Nat) : Int) 0 0))) = o at *
      generalize runN x (i + 1) = f at *
      have k1 : (kind (in5 28 (((i + 1 : Nat) : Int) + 1) ((i + 1 : Nat) : Int) 0 0).op == 3 || (in5 28 (((i + 1 : Nat) : Int) + 1) ((i + 1 : Nat) : Int) 0 0).op == 4) = false := by show (kind 28 == 3 || (28 : Int) == 4) = false; decide +kernel
      have k2 : (kind (in5 28 (((i + 1 : Nat) : Int) + 1) ((i + 1 : Nat) : Int) 0 0).op == 1) = true := by show (kind 28 == 1) = true; decide +kernel
      have hrd : ((in5 28 (((i + 1 : Nat) : Int) + 1) ((i + 1 : Nat) : Int) 0 0).rd != 0) = true := by show ((((i + 1 : Nat) : Int) + 1) != 0) = true; simp; omega
      obtain ⟨q1, q2⟩ := tk_nok f (in5 28 (((i + 1 : Nat) : Int) + 1) ((i + 1 : Nat) : Int) 0 0) o hk k1
      refine ⟨by rw [q1]; exact p1, by rw [q2]; exact p2, by rw [tk_r _ _ _ hrd, if_neg (by show ¬ (0 : Nat) = (((i + 1 : Nat) : Int) + 1).toNat; omega)]; exact p3, ?_⟩
      rw [tk_r _ _ _ hrd, if_pos (by show i + 1 + 1 = (((i + 1 : Nat) : Int) + 1).toNat; omega)]
      unfold resL
      rw [hk, cond_false, k2, cond_true]
      show uni (f.r ((i + 1 : Nat) : Int).toNat) (f.r 0) = _
      rw [p3, show (((i + 1 : Nat) : Int)).toNat = i + 1 by omega, uni_nil_r pw.1, p4]
      unfold chL
      by_cases hh : 1 ≤ cut ∧ cut ≤ (i : Int)
      · rw [if_pos hh, if_pos (by omega)]
      · rw [if_neg hh, if_neg (by omega)]
end W
end Go.Proofs.Ytpapiimiblefaaa

/- DepChain: its list, its end. -/
namespace Go.Proofs.Ytpapiimiblefaaa
open Go.ChangeShapes Go.WideShapes Go.ChangeAt Go.RowKit
set_option linter.unusedVariables false
set_option linter.unusedSimpArgs false

namespace W
theorem chain_end (cut : Int) (x : Nat → It) (n : Nat) (hn : n ≤ 20) (hx : ∀ i, i ≤ n → x i = itw (chW cut i)) (a b : Nat) (ha : a < 22) (he : encE (in5 18 0 (a : Int) (b : Int) 0) = 0) (hl : x (n + 1) = itw (encV (in5 18 0 (a : Int) (b : Int) 0))) :
    ∃ d0, (runN x (n + 2)).p.map (fun q => (q.2.1, q.2.2.1, q.2.2.2)) = [d0, ((runN x (n + 1)).r a, (runN x (n + 1)).r b, [])] := by
  obtain ⟨p1, p2, p3, p4⟩ := chain_run cut x n hn hx n (Nat.le_refl _)
  obtain ⟨h1, h2, _⟩ := dn_word he
  have step : runN x (n + 2) = bif dnB (x (n + 1)) then tk (dnI (x (n + 1))) (oper (dnI (x (n + 1))) (x (n + 1))) (runN x (n + 1)) else runN x (n + 1) := rfl
  rw [step, hl, h1, h2, cond_true]
  have hk : ((oper (in5 18 0 (a : Int) (b : Int) 0) (itw (encV (in5 18 0 (a : Int) (b : Int) 0)))).k != 0) = true := by
    rw [oper_k]
    show (okind 18 false != 0) = true
    decide +kernel
  generalize oper (in5 18 0 (a : Int) (b : Int) 0) (itw (encV (in5 18 0 (a : Int) (b : Int) 0))) = o at *
  generalize runN x (n + 1) = f at *
  have hp : (tk (in5 18 0 (a : Int) (b : Int) 0) o f).p = f.p ++ [(o, f.r a, f.r b, f.c)] := by
    show f.p ++ (bif o.k != 0 then [(o, f.r ((a : Int)).toNat, f.r ((b : Int)).toNat, f.c)] else []) = _
    rw [hk]
    simp
  rw [hp, p2]
  match hq : f.p, p1 with
  | [q], _ => exact ⟨(q.2.1, q.2.2.1, q.2.2.2), rfl⟩
end W
/-- The cells of items. -/
def itsX (x : Nat → W.It) (n : Nat) : List Value := (List.range n).flatMap fun j => (itC (x j)).toList
theorem itsX_succ (x : Nat → W.It) (n : Nat) : itsX x (n + 1) = itsX x n ++ (itC (x n)).toList := by
  unfold itsX
  rw [List.range_succ, List.flatMap_append]
  simp
theorem itsX_len (x : Nat → W.It) : ∀ n, (itsX x n).length = n * 6
  | 0 => rfl
  | n + 1 => by rw [itsX_succ, List.length_append, itsX_len x n]; show n * 6 + 6 = _; omega
theorem itsX_get (x : Nat → W.It) : ∀ (n j k : Nat), j < n → k < 6 → (itsX x n)[j * 6 + k]? = (itC (x j))[k]?
  | 0, j, k, h, _ => by omega
  | n + 1, j, k, h, hk => by
    rw [itsX_succ]
    by_cases hj : j < n
    · rw [List.getElem?_append_left (by rw [itsX_len]; omega)]
      exact itsX_get x n j k hj hk
    · obtain rfl : j = n := by omega
      rw [List.getElem?_append_right (by rw [itsX_len]; omega), itsX_len, show j * 6 + k - j * 6 = k by omega]
      simp
theorem own_its {w : World} {base n : Nat} {v : Value} {x : Nat → W.It} (h : w.ownsRow base 37 6 v n (itsX x n)) (hn : 0 < n) (hr : ∀ j, j < n → W.Rg (x j).wd) : ∃ g cap, v = .slice (some ⟨g, 0, none⟩) n cap ∧ Its (some ⟨g, 0, none⟩) n x w := by
  obtain ⟨g, cap, rfl, hb, hl⟩ := h.form hn
  refine ⟨g, cap, rfl, fun _ => ⟨g, 0, rfl, hl, fun j hj k u hu => ?_⟩, hr⟩
  have hk : k < 6 := (Array.getElem?_eq_some_iff.1 hu).1
  have hc := h.cells (g := g) rfl (j * 6 + k) u (by rw [itsX_get x n j k hj hk]; exact hu)
  rw [Addr.add_lit] at hc
  rw [Nat.zero_add]
  simpa using hc
theorem own_first (w : World) (y : W.It) (x : Nat → W.It) (h : x 0 = y) (T : TypeId) (base : Nat) (hb : base ≤ w.heap.size) : (w.alloc (.cells (itC y) T)).ownsRow base T 6 (.slice (some ⟨w.heap.size, 0, none⟩) 1 1) 1 (itsX x 1) := by
  subst h
  exact ⟨itsX_len x 1, .inr ⟨w.heap.size, 1, itC (x 0), rfl, hb, heap_alloc_last w _, Nat.le_refl _, by unfold maxLen; decide, rfl, by simp [itsX, itC]⟩⟩
theorem infoIt : (Try.prog.info? 37).map (fun i => (i.zero, i.size, i.bytes)) = some (some (.agg #[.int .u32 0, .int .u32 0, .int .u32 0, .int .u32 0, .bool false, .bool false]), 6, 20) := by kernel_rfl
theorem bsT_1 (x : W.It) (w : World) : (bsT 1 #[(0, .agg (itC x))]).run Try.prog w = .ok (.slice (some ⟨w.heap.size, 0, none⟩) 1 1) (w.alloc (.cells (itC x) 37)) := by kernel_rfl
theorem itC_one (x : W.It) : ∀ u ∈ (itC x).toList, u.oneCell' = true := by
  intro u hu
  simp [itC] at hu
  rcases hu with h | h | h | h | h | h <;> rw [h] <;> rfl
theorem news_it (x : W.It) (w : World) : ∀ j u, (itC x).toList[j]? = some u → (w.alloc (.cells (itC x) 37)).cell? ((⟨w.heap.size, 0, none⟩ : Addr).add j) = some u := World.news_of_block (cs := itC x) (heap_alloc_last w _)
end Go.Proofs.Ytpapiimiblefaaa

/- DepChain, walked: it returns true, whatever the numbers. -/
namespace Go.Proofs.Ytpapiimiblefaaa
open Go.ChangeShapes Go.WideShapes Go.ChangeAt Go.RowKit
set_option linter.unusedVariables false
set_option linter.unusedSimpArgs false

theorem itsX_congr {x y : Nat → W.It} {n : Nat} (h : ∀ j, j < n → x j = y j) : itsX x n = itsX y n := by
  induction n with
  | zero => rfl
  | succ n ih => rw [itsX_succ, itsX_succ, ih (fun j hj => h j (by omega)), h n (by omega)]
theorem W.chW_rg (cut : Int) (j : Nat) (h : j < 21 + 0) : W.Rg (W.chW cut j) := by
  unfold W.chW
  split
  · exact (W.dn_word W.e_lw).2.2
  · split
    · exact (W.dn_word (W.e_lui j (by omega))).2.2
    · exact (W.dn_word (W.e_add j (by omega))).2.2
attribute [local go_sem ↓] bdT_eq bsT_eq
set_option maxRecDepth 100000 in
set_option maxHeartbeats 3200000 in
theorem depchain_walk (n cut : Int) (addr : Bool) (n0 : -9223372036854775808 ≤ n) (n1 : n ≤ 9223372036854775807) (u0 : -9223372036854775808 ≤ cut) (u1 : cut ≤ 9223372036854775807) (w : World) :
    Calls Try.prog 4 #[.int .i64 n, .int .i64 cut, .bool addr] w fun e w' => e = .returned (.bool true) ∧ Below w.heap.size w w' := by
  obtain ⟨ii, hi, hzz⟩ := Option.map_eq_some_iff.1 infoIt
  simp only [Prod.mk.injEq] at hzz
  obtain ⟨hz0, hz1, hz2⟩ := hzz
  have hNum := fun w => number_any n 20 n0 n1 (by decide) (by decide) w
  obtain ⟨m, hm⟩ := Int.eq_ofNat_of_zero_le (show 0 ≤ n % 20 by omega)
  have hm20 : m < 20 := by omega
  rw [hm] at hNum
  have hL := fun w => cword_any 13 1 0 0 0 (by decide) (by decide) _ W.e_lw rfl w
  have hA := fun (j : Nat) (h : j < 21) w => cword_any 28 ((j : Int) + 1) (j : Int) 0 0 (by decide) (by decide) _ (W.e_add j h) rfl w
  have hU := fun (j : Nat) (h : j < 21) w => cword_any 1 ((j : Int) + 1) 0 0 4096 (by decide) (by decide) _ (W.e_lui j h) rfl w
  have hSa := fun (j : Nat) (h : j < 22) w => cword_any 18 0 (j : Int) 0 0 (by decide) (by decide) _ (W.e_swa j h) rfl w
  have hSd := fun (j : Nat) (h : j < 22) w => cword_any 18 0 0 (j : Int) 0 (by decide) (by decide) _ (W.e_swd j h) rfl w
  have hF := first12_any w
  have hbd := bdT_any
  have hbs := bsT_1
  have HH : Hid (_ ∧ _ ∧ _ ∧ _ ∧ _ ∧ _ ∧ _) := ⟨hF, hNum, hL, hA, hU, hSa, hSd⟩
  clear hF hNum hL hA hU hSa hSd hm
  go_enter Try.func4, Try.ntmps4
  go_wp2_with (fail)
  refine HH.out.1.mono ?_
  rintro e w1 ⟨rfl, b1⟩
  go_wp2_with (fail)
  refine (HH.out.2.1 _).mono ?_
  rintro e w1' ⟨rfl, rfl⟩
  go_wp2_with (fail)
  refine (HH.out.2.2.1 _).mono ?_
  rintro e w2 ⟨rfl, b2⟩
  have B2 : Below w.heap.size w w2 := b1.trans (b2.mono b1.size)
  have O2 := own_first w2 (W.itw (W.encV (W.in5 13 1 0 0 0))) (fun j => W.itw (W.chW cut j)) rfl 37 w.heap.size B2.size
  have B3 : Below w.heap.size w (w2.alloc (.cells (itC (W.itw (W.encV (W.in5 13 1 0 0 0)))) 37)) := B2.alloc B2.size _
  clear b1 b2 B2
  go_wp2
  generalize World.alloc w2 _ = W3 at *
  generalize W.encV (W.in5 13 1 0 0 0) = xl at *
  go_loopw [8, 9] (fun l i wr => ∃ j : Nat, 1 ≤ j ∧ j ≤ m + 2 ∧ i = .int .i64 (j : Int) ∧ wr.ownsRow w.heap.size 37 6 l j (itsX (fun j => W.itw (W.chW cut j)) j) ∧ Below w.heap.size w wr) (fun _ i _ => m + 2 - (intOf i).toNat)
  case atStart => exact ⟨1, by omega, by omega, rfl, O2, B3⟩
  case round =>
    obtain ⟨j, hj1, hj2, rfl, hown, hbl⟩ := hrel
    clear O2 B3
    have hsz := hbl.size
    by_cases hlt : j ≤ m + 1
    · have hA := HH.out.2.2.2.1 j (by omega)
      have hU := HH.out.2.2.2.2.1 j (by omega)
      have hch : W.chW cut j = if (j : Int) = cut then W.encV (W.in5 1 ((j : Int) + 1) 0 0 4096) else W.encV (W.in5 28 ((j : Int) + 1) (j : Int) 0 0) := by
        unfold W.chW
        rw [if_neg (by omega)]
      have j1 : (j : Int) ≤ (m : Int) + 1 := by omega
      by_cases hq : (j : Int) = cut
      · rw [if_pos hq] at hch
        have hqb : ((j : Int) == cut) = true := by simp [hq]
        clear hq
        generalize W.encV (W.in5 1 ((j : Int) + 1) 0 0 4096) = xu at *
        generalize W.encV (W.in5 28 ((j : Int) + 1) (j : Int) 0 0) = xa at *
        have HW : Hid (_ ∧ _) := ⟨hA, hU⟩
        clear hA hU
        go_wp2_with (fail)
        refine (HW.out.1 _).mono ?_
        rintro e w4 ⟨rfl, b4⟩
        go_wp2_with (fail)
        refine (HW.out.2 _).mono ?_
        rintro e w5 ⟨rfl, b5'⟩
        have b5 := b4.trans (b5'.mono b4.size)
        have B5 := hbl.trans (b5.mono hbl.size)
        have O5 := own_below hown b5
        clear b5 b4 b5' hown hbl
        go_wp2_with (at_builtin; refine wpList_append_own _ rfl _ _ 22 rfl w.heap.size 37 ii (.agg #[.int .u32 0, .int .u32 0, .int .u32 0, .int .u32 0, .bool false, .bool false]) 6 20 Try.underlying22 hi hz0 hz1 hz2 rfl (by decide) _ j (itsX (fun j => W.itw (W.chW cut j)) j) rfl ?c1 ⟨w5.heap.size, 0, none⟩ 1 1 (itC (W.itw xu)).toList rfl rfl ?c2 ?c3 ?c4 ?c5 ?c6 ?_)
        case c1 => exact O5.alloc _
        case c2 => exact news_it _ _
        case c3 => exact itC_one _
        case c4 => unfold maxLen; omega
        case c5 => omega
        case c6 => simp; have := B5.size; omega
        intro v' w6 hown' hg _
        have b6 : Below w.heap.size w w6 := Below.grown (B5.alloc B5.size _) hg (by have := B5.size; simp; omega) (fun b hb => (O5.lt b hb).1)
        have X : Hid (w6.ownsRow w.heap.size 37 6 v' (j + 1) (itsX (fun j => W.itw (W.chW cut j)) (j + 1)) ∧ Below w.heap.size w w6) := ⟨by rw [itsX_succ, hch]; exact hown', b6⟩
        clear hown' hg b6 O5 B5
        go_wp2
        go_roundw
        case rel => exact ⟨j + 1, by omega, by omega, by go_num, X.out.1, X.out.2⟩
        case measure => simp [intOf]; omega
      · rw [if_neg hq] at hch
        have hqb : ((j : Int) == cut) = false := by simp [hq]
        generalize W.encV (W.in5 28 ((j : Int) + 1) (j : Int) 0 0) = xa at *
        have HW : Hid (_ ∧ _) := ⟨hA, hU⟩
        clear hA hU
        go_wp2_with (fail)
        refine (HW.out.1 _).mono ?_
        rintro e w5 ⟨rfl, b5⟩
        have B5 := hbl.trans (b5.mono hbl.size)
        have O5 := own_below hown b5
        clear b5 hown hbl
        go_wp2_with (at_builtin; refine wpList_append_own _ rfl _ _ 22 rfl w.heap.size 37 ii (.agg #[.int .u32 0, .int .u32 0, .int .u32 0, .int .u32 0, .bool false, .bool false]) 6 20 Try.underlying22 hi hz0 hz1 hz2 rfl (by decide) _ j (itsX (fun j => W.itw (W.chW cut j)) j) rfl ?c1 ⟨w5.heap.size, 0, none⟩ 1 1 (itC (W.itw xa)).toList rfl rfl ?c2 ?c3 ?c4 ?c5 ?c6 ?_)
        case c1 => exact O5.alloc _
        case c2 => exact news_it _ _
        case c3 => exact itC_one _
        case c4 => unfold maxLen; omega
        case c5 => omega
        case c6 => simp; have := B5.size; omega
        intro v' w6 hown' hg _
        have b6 : Below w.heap.size w w6 := Below.grown (B5.alloc B5.size _) hg (by have := B5.size; simp; omega) (fun b hb => (O5.lt b hb).1)
        have X : Hid (w6.ownsRow w.heap.size 37 6 v' (j + 1) (itsX (fun j => W.itw (W.chW cut j)) (j + 1)) ∧ Below w.heap.size w w6) := ⟨by rw [itsX_succ, hch]; exact hown', b6⟩
        clear hown' hg b6 O5 B5
        go_wp2
        go_roundw
        case rel => exact ⟨j + 1, by omega, by omega, by go_num, X.out.1, X.out.2⟩
        case measure => simp [intOf]; omega
    · obtain rfl : j = m + 2 := by omega
      have hh2 : ¬ ((m : Int) + 2 ≤ (m : Int) + 1) := by omega
      cases addr
      · have hSw := HH.out.2.2.2.2.2.2 (m + 2) (by omega)
        have hee : W.encE (W.in5 18 0 0 (((m + 2 : Nat)) : Int) 0) = 0 := W.e_swd (m + 2) (by omega)
        have hrg := (W.dn_word hee).2.2
        obtain ⟨d0, hN⟩ := W.chain_end cut (fun j => if j = m + 2 then W.itw (W.encV (W.in5 18 0 0 (((m + 2 : Nat)) : Int) 0)) else W.itw (W.chW cut j)) (m + 1) (by omega) (fun i hi => by show (if i = m + 2 then _ else _) = _; rw [if_neg (by omega)]) 0 (m + 2) (by omega) hee (by show (if m + 1 + 1 = m + 2 then _ else _) = _; rw [if_pos rfl]; rfl)
        have hch := W.chain_run cut (fun j => if j = m + 2 then W.itw (W.encV (W.in5 18 0 0 (((m + 2 : Nat)) : Int) 0)) else W.itw (W.chW cut j)) (m + 1) (by omega) (fun i hi => by show (if i = m + 2 then _ else _) = _; rw [if_neg (by omega)]) (m + 1) (Nat.le_refl _)
        have hRg : ∀ j, j < m + 3 → W.Rg ((fun j => if j = m + 2 then W.itw (W.encV (W.in5 18 0 0 (((m + 2 : Nat)) : Int) 0)) else W.itw (W.chW cut j)) j).wd := fun j hj => by
          dsimp only
          by_cases h : j = m + 2
          · rw [if_pos h]; exact hrg
          · rw [if_neg h]; exact W.chW_rg cut j (by omega)
        have hlast : (fun j => if j = m + 2 then W.itw (W.encV (W.in5 18 0 0 (((m + 2 : Nat)) : Int) 0)) else W.itw (W.chW cut j)) (m + 2) = W.itw (W.encV (W.in5 18 0 0 (((m + 2 : Nat)) : Int) 0)) := if_pos rfl
        have hcg : itsX (fun j => if j = m + 2 then W.itw (W.encV (W.in5 18 0 0 (((m + 2 : Nat)) : Int) 0)) else W.itw (W.chW cut j)) (m + 2) = itsX (fun j => W.itw (W.chW cut j)) (m + 2) := itsX_congr (fun j hj => if_neg (by omega))
        have hOps := fun a cap w (h : Its a (m + 3) _ w) => ops_oi a (m + 3) cap (fun j => if j = m + 2 then W.itw (W.encV (W.in5 18 0 0 (((m + 2 : Nat)) : Int) 0)) else W.itw (W.chW cut j)) w h (by omega) _ rfl
        have hN2 : (W.runN (fun j => if j = m + 2 then W.itw (W.encV (W.in5 18 0 0 (((m + 2 : Nat)) : Int) 0)) else W.itw (W.chW cut j)) (m + 3)).p.map (fun q => (q.2.1, q.2.2.1, q.2.2.2)) = [d0, ([], W.chL cut (m + 1), [])] := by
          rw [hN, hch.2.2.1, hch.2.2.2]
        clear hN hch hee hrg
        generalize (W.runN (fun j => if j = m + 2 then W.itw (W.encV (W.in5 18 0 0 (((m + 2 : Nat)) : Int) 0)) else W.itw (W.chW cut j)) (m + 3)).p = PP at *
        generalize hX : (fun j => if j = m + 2 then W.itw (W.encV (W.in5 18 0 0 (((m + 2 : Nat)) : Int) 0)) else W.itw (W.chW cut j)) = X at *
        generalize W.encV (W.in5 18 0 0 (((m + 2 : Nat)) : Int) 0) = xs at *
        rw [show (((m + 2 : Nat)) : Int) = (m : Int) + 1 + 1 by omega] at hSw
        have HW : Hid (_ ∧ _ ∧ _) := ⟨hSw, hOps, hN2⟩
        clear hSw hOps hN2 HH
        go_wp2_with (fail)
        refine (HW.out.1 _).mono ?_
        rintro e w5 ⟨rfl, b5⟩
        have B5 := hbl.trans (b5.mono hbl.size)
        have O5 := own_below hown b5
        clear b5 hown hbl
        go_wp2_with (at_builtin; refine wpList_append_own _ rfl _ _ 22 rfl w.heap.size 37 ii (.agg #[.int .u32 0, .int .u32 0, .int .u32 0, .int .u32 0, .bool false, .bool false]) 6 20 Try.underlying22 hi hz0 hz1 hz2 rfl (by decide) _ (m + 2) (itsX (fun j => W.itw (W.chW cut j)) (m + 2)) rfl ?c1 ⟨w5.heap.size, 0, none⟩ 1 1 (itC (W.itw xs)).toList rfl rfl ?c2 ?c3 ?c4 ?c5 ?c6 ?_)
        case c1 => exact O5.alloc _
        case c2 => exact news_it _ _
        case c3 => exact itC_one _
        case c4 => unfold maxLen; omega
        case c5 => omega
        case c6 => simp; have := B5.size; omega
        intro v' w6 hown' hg _
        have b6 : Below w.heap.size w w6 := Below.grown (B5.alloc B5.size _) hg (by have := B5.size; simp; omega) (fun b hb => (O5.lt b hb).1)
        have O6 : w6.ownsRow w.heap.size 37 6 v' (m + 3) (itsX X (m + 3)) := by
          rw [itsX_succ, hcg, hlast]
          exact hown'
        obtain ⟨g, cap, rfl, hIts⟩ := own_its O6 (by omega) hRg
        clear hown' hg O5 B5 O6 hcg hlast hRg
        have HI : Hid (Its _ _ _ _) := hIts
        clear hIts
        go_wp2_with (fail)
        refine (HW.out.2.1 _ cap w6 HI.out).mono ?_
        rintro e w7 ⟨⟨OA, rfl, iA⟩, b7⟩
        have B7 := b6.trans (b7.mono b6.size)
        clear b6 b7 HI
        obtain ⟨nA, gA, aA, dA, cA, eA, lA, x10, x11, x12, liA, ldA, lcA⟩ := iA.one _ HW.out.2.2 1 _ rfl
        clear iA HW
        obtain ⟨oa, on, oc⟩ := OA
        simp only [List.length_cons, List.length_nil] at nA eA
        subst nA eA
        simp only [Nat.one_mul, Nat.reduceAdd] at x10 x11 x12
        dsimp only at liA ldA
        have zZ : aA.n = 0 := liA.n
        obtain ⟨za, zn, zk⟩ := aA
        simp only at zZ
        subst zZ
        unfold slV at x10
        unfold slV
        dsimp only at x10 ⊢
        unfold W.chL at ldA
        by_cases q1 : cut < 1
        · rw [if_neg (by omega)] at ldA
          have hs := fun w' (hb : Below w7.heap.size w7 w') (t : W.Sl) (ht : Li t [0] w') => sameints_any dA t [0] [0] w' (ldA.below hb) ht
          have HS : Hid _ := hs
          clear hs liA ldA lcA
          go_wp2_with (fail)
          refine (HS.out _ ((Below.refl _ _).alloc (Nat.le_refl _) _) ⟨some ⟨w7.heap.size, 0, none⟩, 1, 1⟩ (li_one w7 _ 0)).mono ?_
          rintro e w8 ⟨rfl, b8⟩
          have b78 : Below w7.heap.size w7 w8 := ((Below.refl _ _).alloc (Nat.le_refl _) _).trans (b8.mono (by simp))
          have z10 := (b78.cell (p := ⟨gA, 23, none⟩) lA).trans x10
          have lA8 : gA < w8.heap.size := Nat.lt_of_lt_of_le lA b78.size
          clear x10 x11 x12 b8
          go_wp2
          go_ret
          exact ⟨rfl, B7.trans (b78.mono B7.size)⟩
        · by_cases q2 : (m : Int) + 1 < cut
          · rw [if_neg (by omega)] at ldA
            have hs := fun w' (hb : Below w7.heap.size w7 w') (t : W.Sl) (ht : Li t [0] w') => sameints_any dA t [0] [0] w' (ldA.below hb) ht
            have HS : Hid _ := hs
            clear hs liA ldA lcA
            go_wp2_with (fail)
            refine (HS.out _ ((Below.refl _ _).alloc (Nat.le_refl _) _) ⟨some ⟨w7.heap.size, 0, none⟩, 1, 1⟩ (li_one w7 _ 0)).mono ?_
            rintro e w8 ⟨rfl, b8⟩
            have b78 : Below w7.heap.size w7 w8 := ((Below.refl _ _).alloc (Nat.le_refl _) _).trans (b8.mono (by simp))
            have z10 := (b78.cell (p := ⟨gA, 23, none⟩) lA).trans x10
            have lA8 : gA < w8.heap.size := Nat.lt_of_lt_of_le lA b78.size
            clear x10 x11 x12 b8
            go_wp2
            go_ret
            exact ⟨rfl, B7.trans (b78.mono B7.size)⟩
          · rw [if_pos (by omega)] at ldA
            have hs := sameints_any dA W.Sl.nil [] [] w7 ldA (li_nil w7)
            have HS : Hid (Calls _ _ _ _ _) := hs
            clear hs liA ldA lcA
            go_wp2_with (fail)
            refine HS.out.mono ?_
            rintro e w8 ⟨rfl, b8⟩
            have z10 := (b8.cell (p := ⟨gA, 23, none⟩) lA).trans x10
            have lA8 : gA < w8.heap.size := Nat.lt_of_lt_of_le lA b8.size
            clear x10 x11 x12
            go_wp2
            go_ret
            exact ⟨rfl, B7.trans (b8.mono B7.size)⟩
      · have hSw := HH.out.2.2.2.2.2.1 (m + 2) (by omega)
        have hee : W.encE (W.in5 18 0 (((m + 2 : Nat)) : Int) 0 0) = 0 := W.e_swa (m + 2) (by omega)
        have hrg := (W.dn_word hee).2.2
        obtain ⟨d0, hN⟩ := W.chain_end cut (fun j => if j = m + 2 then W.itw (W.encV (W.in5 18 0 (((m + 2 : Nat)) : Int) 0 0)) else W.itw (W.chW cut j)) (m + 1) (by omega) (fun i hi => by show (if i = m + 2 then _ else _) = _; rw [if_neg (by omega)]) (m + 2) 0 (by omega) hee (by show (if m + 1 + 1 = m + 2 then _ else _) = _; rw [if_pos rfl]; rfl)
        have hch := W.chain_run cut (fun j => if j = m + 2 then W.itw (W.encV (W.in5 18 0 (((m + 2 : Nat)) : Int) 0 0)) else W.itw (W.chW cut j)) (m + 1) (by omega) (fun i hi => by show (if i = m + 2 then _ else _) = _; rw [if_neg (by omega)]) (m + 1) (Nat.le_refl _)
        have hRg : ∀ j, j < m + 3 → W.Rg ((fun j => if j = m + 2 then W.itw (W.encV (W.in5 18 0 (((m + 2 : Nat)) : Int) 0 0)) else W.itw (W.chW cut j)) j).wd := fun j hj => by
          dsimp only
          by_cases h : j = m + 2
          · rw [if_pos h]; exact hrg
          · rw [if_neg h]; exact W.chW_rg cut j (by omega)
        have hlast : (fun j => if j = m + 2 then W.itw (W.encV (W.in5 18 0 (((m + 2 : Nat)) : Int) 0 0)) else W.itw (W.chW cut j)) (m + 2) = W.itw (W.encV (W.in5 18 0 (((m + 2 : Nat)) : Int) 0 0)) := if_pos rfl
        have hcg : itsX (fun j => if j = m + 2 then W.itw (W.encV (W.in5 18 0 (((m + 2 : Nat)) : Int) 0 0)) else W.itw (W.chW cut j)) (m + 2) = itsX (fun j => W.itw (W.chW cut j)) (m + 2) := itsX_congr (fun j hj => if_neg (by omega))
        have hOps := fun a cap w (h : Its a (m + 3) _ w) => ops_oi a (m + 3) cap (fun j => if j = m + 2 then W.itw (W.encV (W.in5 18 0 (((m + 2 : Nat)) : Int) 0 0)) else W.itw (W.chW cut j)) w h (by omega) _ rfl
        have hN2 : (W.runN (fun j => if j = m + 2 then W.itw (W.encV (W.in5 18 0 (((m + 2 : Nat)) : Int) 0 0)) else W.itw (W.chW cut j)) (m + 3)).p.map (fun q => (q.2.1, q.2.2.1, q.2.2.2)) = [d0, (W.chL cut (m + 1), [], [])] := by
          rw [hN, hch.2.2.1, hch.2.2.2]
        clear hN hch hee hrg
        generalize (W.runN (fun j => if j = m + 2 then W.itw (W.encV (W.in5 18 0 (((m + 2 : Nat)) : Int) 0 0)) else W.itw (W.chW cut j)) (m + 3)).p = PP at *
        generalize hX : (fun j => if j = m + 2 then W.itw (W.encV (W.in5 18 0 (((m + 2 : Nat)) : Int) 0 0)) else W.itw (W.chW cut j)) = X at *
        generalize W.encV (W.in5 18 0 (((m + 2 : Nat)) : Int) 0 0) = xs at *
        rw [show (((m + 2 : Nat)) : Int) = (m : Int) + 1 + 1 by omega] at hSw
        have HW : Hid (_ ∧ _ ∧ _) := ⟨hSw, hOps, hN2⟩
        clear hSw hOps hN2 HH
        go_wp2_with (fail)
        refine (HW.out.1 _).mono ?_
        rintro e w5 ⟨rfl, b5⟩
        have B5 := hbl.trans (b5.mono hbl.size)
        have O5 := own_below hown b5
        clear b5 hown hbl
        go_wp2_with (at_builtin; refine wpList_append_own _ rfl _ _ 22 rfl w.heap.size 37 ii (.agg #[.int .u32 0, .int .u32 0, .int .u32 0, .int .u32 0, .bool false, .bool false]) 6 20 Try.underlying22 hi hz0 hz1 hz2 rfl (by decide) _ (m + 2) (itsX (fun j => W.itw (W.chW cut j)) (m + 2)) rfl ?c1 ⟨w5.heap.size, 0, none⟩ 1 1 (itC (W.itw xs)).toList rfl rfl ?c2 ?c3 ?c4 ?c5 ?c6 ?_)
        case c1 => exact O5.alloc _
        case c2 => exact news_it _ _
        case c3 => exact itC_one _
        case c4 => unfold maxLen; omega
        case c5 => omega
        case c6 => simp; have := B5.size; omega
        intro v' w6 hown' hg _
        have b6 : Below w.heap.size w w6 := Below.grown (B5.alloc B5.size _) hg (by have := B5.size; simp; omega) (fun b hb => (O5.lt b hb).1)
        have O6 : w6.ownsRow w.heap.size 37 6 v' (m + 3) (itsX X (m + 3)) := by
          rw [itsX_succ, hcg, hlast]
          exact hown'
        obtain ⟨g, cap, rfl, hIts⟩ := own_its O6 (by omega) hRg
        clear hown' hg O5 B5 O6 hcg hlast hRg
        have HI : Hid (Its _ _ _ _) := hIts
        clear hIts
        go_wp2_with (fail)
        refine (HW.out.2.1 _ cap w6 HI.out).mono ?_
        rintro e w7 ⟨⟨OA, rfl, iA⟩, b7⟩
        have B7 := b6.trans (b7.mono b6.size)
        clear b6 b7 HI
        obtain ⟨nA, gA, aA, dA, cA, eA, lA, x10, x11, x12, liA, ldA, lcA⟩ := iA.one _ HW.out.2.2 1 _ rfl
        clear iA HW
        obtain ⟨oa, on, oc⟩ := OA
        simp only [List.length_cons, List.length_nil] at nA eA
        subst nA eA
        simp only [Nat.one_mul, Nat.reduceAdd] at x10 x11 x12
        dsimp only at liA ldA
        have zZ : dA.n = 0 := ldA.n
        obtain ⟨za, zn, zk⟩ := dA
        simp only at zZ
        subst zZ
        unfold slV at x11
        unfold slV
        dsimp only at x11 ⊢
        unfold W.chL at liA
        by_cases q1 : cut < 1
        · rw [if_neg (by omega)] at liA
          have hs := fun w' (hb : Below w7.heap.size w7 w') (t : W.Sl) (ht : Li t [0] w') => sameints_any aA t [0] [0] w' (liA.below hb) ht
          have HS : Hid _ := hs
          clear hs liA ldA lcA
          go_wp2_with (fail)
          refine (HS.out _ ((Below.refl _ _).alloc (Nat.le_refl _) _) ⟨some ⟨w7.heap.size, 0, none⟩, 1, 1⟩ (li_one w7 _ 0)).mono ?_
          rintro e w8 ⟨rfl, b8⟩
          have b78 : Below w7.heap.size w7 w8 := ((Below.refl _ _).alloc (Nat.le_refl _) _).trans (b8.mono (by simp))
          have z10 := (b78.cell (p := ⟨gA, 24, none⟩) lA).trans x11
          have lA8 : gA < w8.heap.size := Nat.lt_of_lt_of_le lA b78.size
          clear x10 x11 x12 b8
          go_wp2
          go_ret
          exact ⟨rfl, B7.trans (b78.mono B7.size)⟩
        · by_cases q2 : (m : Int) + 1 < cut
          · rw [if_neg (by omega)] at liA
            have hs := fun w' (hb : Below w7.heap.size w7 w') (t : W.Sl) (ht : Li t [0] w') => sameints_any aA t [0] [0] w' (liA.below hb) ht
            have HS : Hid _ := hs
            clear hs liA ldA lcA
            go_wp2_with (fail)
            refine (HS.out _ ((Below.refl _ _).alloc (Nat.le_refl _) _) ⟨some ⟨w7.heap.size, 0, none⟩, 1, 1⟩ (li_one w7 _ 0)).mono ?_
            rintro e w8 ⟨rfl, b8⟩
            have b78 : Below w7.heap.size w7 w8 := ((Below.refl _ _).alloc (Nat.le_refl _) _).trans (b8.mono (by simp))
            have z10 := (b78.cell (p := ⟨gA, 24, none⟩) lA).trans x11
            have lA8 : gA < w8.heap.size := Nat.lt_of_lt_of_le lA b78.size
            clear x10 x11 x12 b8
            go_wp2
            go_ret
            exact ⟨rfl, B7.trans (b78.mono B7.size)⟩
          · rw [if_pos (by omega)] at liA
            have hs := sameints_any aA W.Sl.nil [] [] w7 liA (li_nil w7)
            have HS : Hid (Calls _ _ _ _ _) := hs
            clear hs liA ldA lcA
            go_wp2_with (fail)
            refine HS.out.mono ?_
            rintro e w8 ⟨rfl, b8⟩
            have z10 := (b8.cell (p := ⟨gA, 24, none⟩) lA).trans x11
            have lA8 : gA < w8.heap.size := Nat.lt_of_lt_of_le lA b8.size
            clear x10 x11 x12
            go_wp2
            go_ret
            exact ⟨rfl, B7.trans (b8.mono B7.size)⟩
end Go.Proofs.Ytpapiimiblefaaa
