/- No less stays in order; without any Go. -/
import Derived.Test.YtbppeehhohdfiaaPpoZ0
namespace Go.Proofs.Ytbppeehhohdfiaa
open Go.RowKit
set_option linter.unusedVariables false
set_option linter.unusedSimpArgs false

namespace W
theorem sb_of {u v : Int} (h : (nb u &&& nb v == nb u) = true) : Sb u v := fun p e => by
  have h' : nb u &&& nb v = nb u := by simpa using h
  rw [← h', BitVec.getLsbD_and, Bool.and_eq_true] at e
  exact e.2
def tv (c : Nat) (aq rl b : Bool) : Int :=
  let t : Int := bif c == 5 then 4 else ([8, 9, 10, 26, 27] : List Int).getD c 0 + (bif aq then 32 else 0) + (bif rl then 64 else 0)
  bif b then o8 t 128 else t
def cls (o : Opr) : Nat := bif o.k == 4 then 5 else bif o.k == 1 then 1 else bif o.k == 2 then (bif o.pr then 3 else 2) else bif o.k == 3 then 4 else 0
theorem tv_eq (o : Opr) (b : Bool) : (ldA (actO o) b).t = tv (cls o) o.aq o.rl b := by
  unfold ldA actO trt tv cls
  cases (o.k == 4) <;> cases (o.k == 1) <;> cases (o.k == 2) <;> cases (o.k == 3) <;> cases o.pr <;> cases o.aq <;> cases o.rl <;> rfl
theorem cls_lt (o : Opr) : cls o < 6 := by
  unfold cls
  cases (o.k == 4) <;> cases (o.k == 1) <;> cases (o.k == 2) <;> cases (o.k == 3) <;> cases o.pr <;> decide
def tvOk (c : Nat) (a r b a' r' b' : Bool) : Bool := (a && !a') || (r && !r') || (b && !b') || ((nb (tv c a r b) &&& nb (tv c a' r' b') == nb (tv c a r b)) && [1, 2, 4, 16].all fun q => a8 (tv c a r b) q == a8 (tv c a' r' b') q)
theorem tv_all : ((List.range 6).all fun c => [false, true].all fun a => [false, true].all fun r => [false, true].all fun b => [false, true].all fun a' => [false, true].all fun r' => [false, true].all fun b' => tvOk c a r b a' r' b') = true := by decide +kernel
theorem tv_at (c : Nat) (hc : c < 6) (a r b a' r' b' : Bool) : tvOk c a r b a' r' b' = true := by
  have m : ∀ z : Bool, z ∈ [false, true] := fun z => by cases z <;> simp
  exact List.all_eq_true.1 (List.all_eq_true.1 (List.all_eq_true.1 (List.all_eq_true.1 (List.all_eq_true.1 (List.all_eq_true.1 (List.all_eq_true.1 tv_all c (List.mem_range.2 hc)) a (m a)) r (m r)) b (m b)) a' (m a')) r' (m r')) b' (m b')
/-- y has no less than x. -/
structure Mo (x y : Oz) : Prop where
  k : x.o.k = y.o.k
  sz : x.o.sz = y.o.sz
  ad : x.o.ad = y.o.ad
  pr : x.o.pr = y.o.pr
  aq : x.o.aq = true → y.o.aq = true
  rl : x.o.rl = true → y.o.rl = true
  pd : Sb (a8 (x.o.pd % 256) 3) (a8 (y.o.pd % 256) 3)
  sc : ∀ t u, Sb t u → (a8 (a8 t (x.o.sc % 256)) 3 != 0) = true → (a8 (a8 u (y.o.sc % 256)) 3 != 0) = true
  a : ∀ z ∈ x.a, z ∈ y.a
  d : ∀ z ∈ x.d, z ∈ y.d
  c : ∀ z ∈ x.c, z ∈ y.c
structure Am (x y : Act) : Prop where
  p : x.p = y.p
  t : Sb x.t y.t
  q1 : a8 x.t 1 = a8 y.t 1
  q2 : a8 x.t 2 = a8 y.t 2
  q4 : a8 x.t 4 = a8 y.t 4
  q16 : a8 x.t 16 = a8 y.t 16
theorem act_mo {x y : Oz} (h : Mo x y) {b c : Bool} (hb : b = true → c = true) : Am (ldA (actO x.o) b) (ldA (actO y.o) c) := by
  have hp : (ldA (actO x.o) b).p = (ldA (actO y.o) c).p := by
    unfold ldA actO spn
    rw [h.k, h.sz, h.ad]
    cases (y.o.k == 4) <;> rfl
  have hc : cls x.o = cls y.o := by unfold cls; rw [h.k, h.pr]
  have q := tv_at (cls y.o) (cls_lt _) x.o.aq x.o.rl b y.o.aq y.o.rl c
  unfold tvOk at q
  have e1 : (x.o.aq && !y.o.aq) = false := by
    cases ha : x.o.aq
    · rfl
    · rw [h.aq ha]; rfl
  have e2 : (x.o.rl && !y.o.rl) = false := by
    cases ha : x.o.rl
    · rfl
    · rw [h.rl ha]; rfl
  have e3 : (b && !c) = false := by
    cases hb' : b
    · rfl
    · rw [hb hb']; rfl
  rw [e1, e2, e3, Bool.or_self, Bool.or_self, Bool.false_or, Bool.and_eq_true] at q
  have hx := tv_eq x.o b
  have hy := tv_eq y.o c
  rw [hc] at hx
  have q2 := q.2
  simp only [List.all_cons, List.all_nil, Bool.and_true, Bool.and_eq_true, beq_iff_eq] at q2
  rw [← hx, ← hy] at q2
  refine ⟨hp, ?_, q2.1, q2.2.1, q2.2.2.1, q2.2.2.2⟩
  rw [hx, hy]
  exact sb_of q.1
/-- The one has no more than the other. -/
structure Sm2 (s u : St) : Prop where
  k : Sb s.k u.k
  h : s.h = u.h
  g : ∀ j, s.g j ≠ 0 → u.g j ≠ 0
theorem hang_mo {t u pb : Int} (ht : a8 t 2 = a8 u 2) {x y : Oz} (h : Mo x y) (j : Nat) (e : hang0 t pb x j ≠ 0) : hang0 u pb y j ≠ 0 := by
  have n1 : ∀ j, note 10 x.d (note 9 x.a (note 8 [pb] fun _ => 0)) j ≠ 0 → note 10 y.d (note 9 y.a (note 8 [pb] fun _ => 0)) j ≠ 0 := note_ne (by decide) h.d (note_ne (by decide) h.a (fun j e => e))
  unfold hang0 at e ⊢
  rw [ht] at e
  cases hq : (a8 u 2 != 0)
  · rw [hq] at e
    exact n1 j e
  · rw [hq] at e
    exact note_ne (by decide) h.c n1 j e
theorem fence_mo {b c : Act} (hb : Am b c) {x y : Oz} (h : Mo x y) {s u : St} (hs : Sm2 s u) : Sm2 (fence b x s) (fence c y u) := by
  unfold fence
  have hc := h.sc b.t c.t hb.t
  cases h1 : (a8 (a8 b.t (x.o.sc % 256)) 3 != 0)
  · cases (a8 (a8 c.t (y.o.sc % 256)) 3 != 0)
    · exact hs
    · exact ⟨hs.k.trans (Sb.inl _ _), hs.h, hs.g⟩
  · rw [hc h1]
    exact ⟨hs.k.or h.pd, hs.h, hs.g⟩
theorem pass_mo {b c : Act} (hb : Am b c) {v w : Act} (hv : Am v w) {x y : Oz} (h : Mo x y) {s u : St} (hs : Sm2 s u) : Sm2 (pass b v x s) (pass c w y u) := by
  unfold pass
  rw [hv.q2, hb.q1, hv.p, hb.p, hs.h]
  cases ((a8 w.t 2 == 0) || (a8 c.t 1 == 0) || !meets w.p c.p)
  · refine ⟨hs.k, rfl, fun j e => ?_⟩
    revert e
    show (bif sees u.h w.p c.p then note 12 x.d (note 12 x.a s.g) else s.g) j ≠ 0 → (bif sees u.h w.p c.p then note 12 y.d (note 12 y.a u.g) else u.g) j ≠ 0
    cases sees u.h w.p c.p
    · exact hs.g j
    · exact note_ne (by decide) h.d (note_ne (by decide) h.a hs.g) j
  · exact hs
theorem step_pass (b x : Act) (o : Oz) (hg : Int) (s : St) : step b x o hg s = bif a8 x.t 4 != 0 then fence b o s else pass b x o s := by
  unfold step
  cases h4 : (a8 x.t 4 != 0)
  · cases hg' : goes b x s hg
    · have hm : meets x.p b.p = false := by
        unfold goes at hg'
        simp at hg'
        exact hg'.2
      show s = pass b x o s
      unfold pass
      rw [hm]
      simp
    · rfl
  · rfl
theorem step_mo {b c : Act} (hb : Am b c) {v w : Act} (hv : Am v w) {x y : Oz} (h : Mo x y) {s u : St} (hs : Sm2 s u) (p q : Int) : Sm2 (step b v x p s) (step c w y q u) := by
  rw [step_pass, step_pass, hv.q4]
  cases (a8 w.t 4 != 0)
  · exact pass_mo hb hv h hs
  · exact fence_mo hb h hs
theorem bk_mo {A B : Nat → Act} {x y : Nat → Oz} (hA : ∀ j, Am (A j) (B j)) (h : ∀ j, Mo (x j) (y j)) (b : Nat) (pb : Int) : ∀ i, Sm2 (bk A x b pb i) (bk B y b pb i)
  | 0 => ⟨keep0_sb (hA b).t, rfl, fun j e => hang_mo (hA b).q2 (h b) j e⟩
  | i + 1 => step_mo (hA b) (hA _) (h _) (bk_mo hA h b pb i) _ _
def big (k : Int) : Bool := (a8 k 3 != 0) || (a8 k 32 != 0) || (a8 k 8 != 0) || (a8 k 64 != 0) || (a8 k 128 != 0)
theorem whyK_ne (k g : Int) : whyK k g ≠ 0 ↔ (big k = true ∨ g ≠ 0) := by
  unfold whyK big
  by_cases e : g = 0
  · subst e
    cases (a8 k 3 != 0) <;> cases (a8 k 32 != 0) <;> cases (a8 k 8 != 0) <;> cases (a8 k 64 != 0) <;> cases (a8 k 128 != 0) <;> simp
  · have h : (g != 0) = true := by simpa using e
    rw [h]
    cases (a8 k 3 != 0) <;> cases (a8 k 32 != 0) <;> cases (a8 k 8 != 0) <;> cases (a8 k 64 != 0) <;> cases (a8 k 128 != 0) <;> simp [e]
theorem big_mo {k l : Int} (h : Sb k l) (e : big k = true) : big l = true := by
  unfold big at e ⊢
  simp only [Bool.or_eq_true] at e ⊢
  rcases e with (((e | e) | e) | e) | e
  · exact Or.inl (Or.inl (Or.inl (Or.inl (h.ne (Sb.refl _) e))))
  · exact Or.inl (Or.inl (Or.inl (Or.inr (h.ne (Sb.refl _) e))))
  · exact Or.inl (Or.inl (Or.inr (h.ne (Sb.refl _) e)))
  · exact Or.inl (Or.inr (h.ne (Sb.refl _) e))
  · exact Or.inr (h.ne (Sb.refl _) e)
theorem whyM_mo {b c : Act} (hb : Am b c) {v w : Act} (hv : Am v w) (l : List Sp) : whyM l b v = whyM l c w := by
  unfold whyM
  rw [hv.p, hb.p, hb.q2, hb.q1, hv.q1, hv.q16]
theorem why_ne (s : St) (b x : Act) (g : Int) : why s b x g ≠ 0 ↔ (whyM s.h b x ≠ 0 ∨ whyK (a8 x.t s.k) g ≠ 0) := by
  unfold why
  by_cases e : whyM s.h b x = 0
  · have : (whyM s.h b x != 0) = false := by simpa using e
    rw [this]
    simp [e]
  · have : (whyM s.h b x != 0) = true := by simpa using e
    rw [this]
    simp [e]
theorem big_goes (k : Int) (h : (k != 0) = false) : big k = false := by
  have : k = 0 := by simpa using h
  subst this
  decide +kernel
theorem rul_ne (b x : Act) (g : Int) (s : St) (h4 : (a8 x.t 4 != 0) = false) : rul b x g s ≠ 0 ↔ (whyM s.h b x ≠ 0 ∨ big (a8 x.t s.k) = true ∨ g ≠ 0) := by
  unfold rul
  rw [h4, cond_false]
  cases hg : goes b x s g
  · unfold goes at hg
    simp only [Bool.or_eq_false_iff] at hg
    obtain ⟨⟨h1, h2⟩, h3⟩ := hg
    have hm : whyM s.h b x = 0 := by unfold whyM; rw [h3]; rfl
    have hb := big_goes _ h1
    have h0 : g = 0 := by simpa using h2
    rw [hm, hb, h0]
    simp
  · show why s b x g ≠ 0 ↔ _
    rw [why_ne, whyK_ne]
theorem lastP_mo {x y : Nat → Oz} (h : ∀ j, Mo (x j) (y j)) : ∀ n, lastP x n = lastP y n
  | 0 => rfl
  | n + 1 => by unfold lastP; rw [(h n).pr, lastP_mo h n]
theorem pair_mo {x y : Nat → Oz} (h : ∀ j, Mo (x j) (y j)) (n : Nat) : pairO x n = pairO y n := by
  unfold pairO
  rw [lastP_mo h n, (h n).pr, (h n).k, (h (lastP y n).toNat).k]
theorem led_mo {x y : Nat → Oz} (h : ∀ j, Mo (x j) (y j)) (b j : Nat) (e : led x b j = true) : led y b j = true := by
  unfold led at e ⊢
  rw [List.any_eq_true] at e ⊢
  obtain ⟨m, hm, e⟩ := e
  rw [Bool.and_eq_true] at e
  refine ⟨m, hm, ?_⟩
  rw [Bool.and_eq_true]
  refine ⟨e.1, ?_⟩
  rw [List.contains_iff_mem] at *
  exact (h m).a _ e.2
/-- NO LESS STAYS IN ORDER. -/
theorem why_more {x y : Nat → Oz} (h : ∀ j, Mo (x j) (y j)) (i k : Nat) (e : whyO x i k ≠ 0) : whyO y i k ≠ 0 := by
  have hA : ∀ j, Am (acts x k j) (acts y k j) := fun j => act_mo (h j) (led_mo h k j)
  have hB := bk_mo hA h k (pairO x k) (k - 1 - i)
  unfold whyO at e ⊢
  rw [(hA k).q4] at e
  cases h4 : (a8 (acts y k k).t 4 != 0)
  · rw [h4, cond_false] at e
    rw [cond_false, ← pair_mo h]
    unfold rulA at e ⊢
    cases h5 : (a8 (acts y k i).t 4 != 0)
    · have h6 : (a8 (acts x k i).t 4 != 0) = false := by rw [(hA i).q4]; exact h5
      rw [rul_ne _ _ _ _ h6] at e
      rw [rul_ne _ _ _ _ h5]
      rcases e with e | e | e
      · left
        rw [← hB.h, ← whyM_mo (hA k) (hA i)]
        exact e
      · exact Or.inr (Or.inl (big_mo ((hA i).t.and hB.k) e))
      · exact Or.inr (Or.inr (hB.g _ e))
    · exfalso
      apply e
      unfold rul
      rw [(hA i).q4, h5]
      rfl
  · rw [h4] at e
    exact absurd rfl e
end W
end Go.Proofs.Ytbppeehhohdfiaa
