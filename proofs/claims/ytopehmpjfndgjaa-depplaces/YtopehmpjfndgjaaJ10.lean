/- Texts in one: DepB. -/
import Derived.Deep.DeepAppendRoom
import Derived.Deep.RegionHeld3
import Derived.Deep.AppendLies
import Derived.Deep.CutRange
import Derived.Test.YtopehmpjfndgjaaJ09
/- union of two rising lists. -/
namespace Go.Proofs.Ytopehmpjfndgjaa
open Go.ChangeShapes Go.WideShapes Go.ChangeAt Go.RowKit
set_option linter.unusedVariables false
set_option linter.unusedSimpArgs false

def lenV (v : Value) : Nat := match v with | .slice _ n _ => n | _ => 0
def hdV (w : World) (v : Value) : Int := match v with | .slice (some p) _ _ => (match w.cell? p with | some (.int _ x) => x | _ => 0) | _ => 0
def msr (a b : Value) (w : World) : Nat := 2 * (lenV a + lenV b) + (if hdV w b < hdV w a then 1 else 0)

theorem make_ints (n : Nat) (hn : n ≤ 8192) (w : World) : (Instr.makeSlice 30 (.int .i64 0) (.int .i64 (n : Int))).run Try.prog w = .ok (.slice (some ⟨w.heap.size, 0, none⟩) 0 n) (w.alloc (.cells (madeCells #[.int .i64 0] n) 3)) := by
  obtain ⟨i, hi, hzz⟩ := Option.map_eq_some_iff.1 (show (Try.prog.info? 3).map (fun i => (i.zero, i.size, i.bytes)) = some (some (.int .i64 0), 1, 8) by kernel_rfl)
  simp only [Prod.mk.injEq] at hzz
  obtain ⟨hz, hs, hb⟩ := hzz
  have hr := run_make (P := Try.prog) w 30 3 i _ Try.underlying30 hi hz .i64 .i64 0 n (by omega) (by omega) (by rw [hb]; omega) (by omega)
  simp only [Int.toNat_natCast, hs, Nat.mul_one] at hr
  exact hr

theorem step_spare {P : Program} (w : World) {ops : Array Oper} {a : Act} {K : Act → World → Prop} {Q : Exit → Act → World → Prop} {E : Prop} (d s x t : Nat) {ty : TypeId} {ps : String} {af : Array Edge}
    (base : Nat) (e : TypeId) (i : TypeInfo) (size : Nat) (ht : P.underlying t = some (.slice e)) (hi : P.info? e = some i) (hsize : i.size = size)
    (g n cap : Nat) (xs : List Value) (hs : a.eval (.tmp s) = .slice (some ⟨g, 0, none⟩) n cap) (hown : w.ownsRow base e size (.slice (some ⟨g, 0, none⟩) n cap) n xs)
    (ad : Addr) (m c : Nat) (news : List Value) (hx : a.eval (.tmp x) = .slice (some ad) m c) (hl : news.length = m * size) (hnews : ∀ j u, news[j]? = some u → w.cell? (ad.add j) = some u) (h1 : ∀ u ∈ news, u.oneCell' = true)
    (N : Nat) (hN : n + m = N) (hroom : N ≤ cap)
    (h : ∀ w', w'.ownsRow base e size (.slice (some ⟨g, 0, none⟩) N cap) N (xs ++ news) → w.grownBy w' (some g) → K (a.put (some d) (.slice (some ⟨g, 0, none⟩) N cap)) w') :
    if Region.wanted { dst := some d, op := .call { callee := .builtin .append, args := #[.tmp s, .tmp x], argTypes := #[t, t] }, type := ty, pos := ps, after := af, guard := none } (yielded ops a.tmps) = true then Oper.wp P { dst := some d, op := .call { callee := .builtin .append, args := #[.tmp s, .tmp x], argTypes := #[t, t] }, type := ty, pos := ps, after := af, guard := none } a w K Q else E := by
  subst hN
  rw [if_pos (by simp [Region.wanted])]
  exact wp_append_own_spare w _ _ t rfl base e i size ht hi hsize g n cap xs hs hown ad m c news hx hl hnews h1 hroom h

theorem union_l (s t : W.Sl) (w : World) (hs : Li s [] w) : Calls Try.prog 27 #[slV s, slV t] w fun e w' => e = .returned (slV t) ∧ Below w.heap.size w w' := by
  obtain ⟨a, n, c⟩ := s
  have hn : n = 0 := hs.n
  subst hn
  unfold slV
  go_enter Try.func27, Try.ntmps27
  go_wp2
  go_ret
  exact ⟨rfl, Below.refl _ _⟩
theorem union_r (s t : W.Sl) (x : Int) (l : List Int) (w : World) (hs : Li s (x :: l) w) (ht : Li t [] w) : Calls Try.prog 27 #[slV s, slV t] w fun e w' => e = .returned (slV s) ∧ Below w.heap.size w w' := by
  obtain ⟨a, n, c⟩ := s
  obtain ⟨a', n', c'⟩ := t
  have hn' : n' = 0 := ht.n
  have hn : n = l.length + 1 := hs.n
  subst hn' hn
  unfold slV
  have h1 : ¬ ((l.length : Int) + 1 = 0) := by omega
  go_enter Try.func27, Try.ntmps27
  go_wp2
  go_ret
  exact ⟨rfl, Below.refl _ _⟩

theorem own_below {w w' : World} {base : Nat} {e : TypeId} {size : Nat} {v : Value} {n : Nat} {xs : List Value} (h : w.ownsRow base e size v n xs) (hb : Below w.heap.size w w') : w'.ownsRow base e size v n xs :=
  h.kept (row := none) ⟨hb.os, hb.tape, hb.output, hb.size, fun k hk _ => hb.block k hk⟩ (by cases hv : v.ownBlock <;> simp)
theorem intsL_one (l : List Int) : ∀ u ∈ intsL l, u.oneCell' = true := by
  intro u hu
  obtain ⟨x, _, rfl⟩ := List.mem_map.1 hu
  rfl
theorem intsL_len (l : List Int) : (intsL l).length = l.length * 1 := by simp [intsL]
/-- What stands in memory is what is appended. -/
theorem news_of {b o : Nat} {la : List Int} {N : Nat} {w W' : World} (hb : b < w.heap.size) (hc : ∀ j x, la[j]? = some x → w.cell? ⟨b, o + j, none⟩ = some (.int .i64 x)) (h : Below w.heap.size w W') : ∀ j u, (intsL (la.take N))[j]? = some u → W'.cell? ((⟨b, o, none⟩ : Addr).add j) = some u := by
  intro j u hj
  rw [intsL_get] at hj
  cases hx : (la.take N)[j]? with
  | none => rw [hx] at hj; cases hj
  | some x =>
    rw [hx] at hj
    have hx' : la[j]? = some x := by
      rw [List.getElem?_take] at hx
      split at hx
      · exact hx
      · cases hx
    rw [Addr.add_lit]
    exact ((h.cell (p := ⟨b, o + j, none⟩) hb).trans (hc j x hx')).trans hj

theorem intsL_app (a b : List Int) : intsL a ++ intsL b = intsL (a ++ b) := by unfold intsL; rw [List.map_append]
theorem msr_lt1 {a b a' b' : Value} {w w' : World} (h : lenV a' + lenV b' < lenV a + lenV b) : msr a' b' w' < msr a b w := by
  unfold msr
  split <;> split <;> omega
theorem msr_lt2 {a b a' b' : Value} {w w' : World} (h : lenV a' + lenV b' = lenV a + lenV b) (h1 : hdV w b < hdV w a) (h2 : ¬ hdV w' b' < hdV w' a') : msr a' b' w' < msr a b w := by
  unfold msr
  rw [if_pos h1, if_neg h2]
  omega
theorem hd_at {w : World} {b o n c : Nat} {x : Int} (h : w.cell? ⟨b, o, none⟩ = some (.int .i64 x)) : hdV w (.slice (some ⟨b, o, none⟩) n c) = x := by
  unfold hdV
  simp only [h]
theorem li_drop {b o n c N : Nat} {la l' : List Int} {p : Option Addr} {w : World} (h : Li ⟨some ⟨b, o, none⟩, n, c⟩ la w) (hb : b < w.heap.size) (hc : ∀ j x, la[j]? = some x → w.cell? ⟨b, o + j, none⟩ = some (.int .i64 x)) (hN : N ≤ n) (hl : la.drop N = l') (K : Nat) (hK : K = n - N) (hp : 0 < K → p = some ⟨b, o + N, none⟩) : Li ⟨p, K, c - N⟩ l' w := by
  have hn : n = la.length := h.n
  have hm : n ≤ 4096 := h.m
  have hnc : n ≤ c := h.nc
  subst hK hl
  refine ⟨by simp; omega, by show n - N ≤ 4096; omega, by show n - N ≤ c - N; omega, fun h0 => ⟨b, o + N, hp h0, hb, fun j x hx => ?_⟩⟩
  rw [List.getElem?_drop] at hx
  rw [Nat.add_assoc]
  exact hc (N + j) x hx

/-- What the loop keeps. -/
def Ul (A B : List Int) (cap : Nat) (w : World) (a b all : Value) (wr : World) : Prop := ∃ (s t : W.Sl) (la lb l : List Int), a = slV s ∧ b = slV t ∧ all = .slice (some ⟨w.heap.size, 0, none⟩) l.length cap ∧ Li s la w ∧ Li t lb w ∧ wr.ownsRow w.heap.size 3 1 (.slice (some ⟨w.heap.size, 0, none⟩) l.length cap) l.length (intsL l) ∧ W.Mg A B l la lb ∧ l.length + la.length + lb.length ≤ cap ∧ Below w.heap.size w wr

set_option maxRecDepth 100000 in
set_option maxHeartbeats 3200000 in
theorem union_m (s t : W.Sl) (A B : List Int) (w : World) (hs : Li s A w) (ht : Li t B w) (hA : A.Pairwise (· < ·)) (hB : B.Pairwise (· < ·)) (nA : A ≠ []) (nB : B ≠ []) (hz : A.length + B.length ≤ 4096) : Calls Try.prog 27 #[slV s, slV t] w fun e w' => (∃ u, e = .returned (slV u) ∧ Li u (W.uni A B) w' ∧ (0 < u.n → ∃ b, u.a = some ⟨b, 0, none⟩ ∧ w.heap.size ≤ b)) ∧ Below w.heap.size w w' := by
  obtain ⟨i, hi, hzz⟩ := Option.map_eq_some_iff.1 (show (Try.prog.info? 3).map (fun i => (i.zero, i.size, i.bytes)) = some (some (.int .i64 0), 1, 8) by kernel_rfl)
  simp only [Prod.mk.injEq] at hzz
  obtain ⟨hz0, hz1, hz2⟩ := hzz
  have hmk := make_ints (A.length + B.length) (by omega)
  have hsz : (madeCells #[Value.int IntKind.i64 0] (A.length + B.length)).size = (A.length + B.length) * 1 := by rw [Nat.mul_one]; exact size_madeCells _ _
  generalize hMC : madeCells #[Value.int IntKind.i64 0] (A.length + B.length) = MC at *
  have hown0 := World.ownsRow_made (base := w.heap.size) (e := 3) (size := 1) w MC (A.length + B.length) (Nat.le_refl _) (by unfold maxLen; omega) hsz
  have hbl0 : Below w.heap.size w (w.alloc (.cells MC 3)) := (Below.refl _ _).alloc (Nat.le_refl _) _
  have lA : 0 < A.length := List.length_pos_iff.2 nA
  have lB : 0 < B.length := List.length_pos_iff.2 nB
  have hst : Ul A B (A.length + B.length) w (slV s) (slV t) (.slice (some ⟨w.heap.size, 0, none⟩) 0 (A.length + B.length)) (w.alloc (.cells MC 3)) :=
    ⟨s, t, A, B, [], rfl, rfl, rfl, hs, ht, hown0, W.Mg.start hA hB nA, by simp, hbl0⟩
  have eA : ¬ (A.length : Int) = 0 := by omega
  have eB : ¬ (B.length : Int) = 0 := by omega
  have HS : Hid _ := hst
  have sA : s.n = A.length := hs.n
  have sB : t.n = B.length := ht.n
  clear hst hown0 hbl0 hs ht hsz hMC
  obtain ⟨a, n, c⟩ := s
  obtain ⟨a', n', c'⟩ := t
  simp only at sA sB
  subst sA sB
  have hmk : ∀ w : World, (Instr.makeSlice 30 (.int .i64 0) (.int .i64 ((A.length : Int) + (B.length : Int)))).run Try.prog w = .ok (.slice (some ⟨w.heap.size, 0, none⟩) 0 (A.length + B.length)) (w.alloc (.cells MC 3)) := fun w => by rw [← Int.natCast_add]; exact hmk w
  have qA : A.length ≤ 4096 := by omega
  have qB : B.length ≤ 4096 := by omega
  unfold slV
  go_enter Try.func27, Try.ntmps27
  go_wp2
  clear hmk
  have eA' : ((A.length : Int) == 0) = false := by simpa using eA
  have eB' : ((B.length : Int) == 0) = false := by simpa using eB
  simp only [eA', eB']
  go_loopw [0, 1, 5] (fun a b all wr => Ul A B (A.length + B.length) w a b all wr) (fun a b _ wr => msr a b wr)
  case atStart => exact HS.out
  case round =>
    obtain ⟨s, t, la, lb, l, rfl, rfl, rfl, hs, ht, hown, hM, hcap, hbl⟩ := hrel
    clear HS
    cases lb with
    | nil =>
      obtain ⟨b, o, ea, hb, hc⟩ := hs.at_ (by rw [hs.n]; exact List.length_pos_iff.2 hM.ne)
      have hm := hs.m
      have hsn := hs.n
      have htn : t.n = 0 := ht.n
      obtain ⟨sa, sn, sc⟩ := s
      obtain ⟨ta, tn, tc⟩ := t
      simp only at ea hsn hm htn
      subst ea hsn htn
      have hnw : ∀ j u, (intsL la)[j]? = some u → wr.cell? ((⟨b, o, none⟩ : Addr).add j) = some u := by
        have := news_of (N := la.length) hb hc hbl
        rwa [List.take_length] at this
      have hD := hM.done hB
      have q1 : l.length + la.length ≤ A.length + B.length := by simp at hcap; omega
      have HX : Hid (_ ∧ _ ∧ _) := ⟨hnw, hown, hD⟩
      clear hnw hown hD hM hc hs ht
      unfold slV
      go_wp2_with (at_builtin; refine wpList_append_own_spare _ rfl _ _ 30 rfl w.heap.size 3 i 1 Try.underlying30 hi hz1 w.heap.size l.length (A.length + B.length) (intsL l) rfl HX.out.2.1 ⟨b, o, none⟩ la.length sc (intsL la) rfl (intsL_len _) HX.out.1 (intsL_one _) q1 ?_)
      intro w2 hown2 hg2
      have B2 : Below w.heap.size w w2 := Below.grown hbl hg2 (by have := hbl.size; omega) (fun k hk => by cases hk; exact Nat.le_refl _)
      rw [intsL_app, HX.out.2.2] at hown2
      go_wp2
      go_ret
      obtain ⟨u, eu, hu⟩ := own_li hown2 (by omega)
      exact ⟨⟨u, congrArg Ending.returned eu, hu⟩, B2⟩
    | cons y lb =>
      obtain ⟨b, o, tc, rfl, hnc, hb, hy, hr⟩ := ht.cons
      have g1 := (hbl.cell (p := ⟨b, o, none⟩) hb).trans hy
      have Ht : Hid (Li _ (y :: lb) w) := ht
      have hlb : lb.length + 1 ≤ 4096 := ht.m
      clear ht hr hy
      have hbel := fun w' (h : Below w.heap.size w w') => below_any s la y w' (hs.below h)
      have hN := W.bel_le la y
      have hat := W.bel_at la y
      have hM' := hM.step
      generalize W.bel la y = N at *
      have HB : Hid (∀ w', Below w.heap.size w w' → _) := hbel
      clear hbel
      have hm := hs.m
      have hsn := hs.n
      have hsc := hs.nc
      obtain ⟨sb, so, ea, hsb, hcells⟩ := hs.at_ (by rw [hsn]; exact List.length_pos_iff.2 hM.ne)
      obtain ⟨sa, sn, sc⟩ := s
      simp only at ea hsn hsc hm
      subst ea hsn
      have HX : Hid (_ ∧ _ ∧ _ ∧ _ ∧ _) := ⟨hcells, hs, hM, hM', hown⟩
      clear hcells hs hM hM' hown
      unfold slV
      go_wp2_with (fail)
      refine (HB.out _ hbl).mono ?_
      rintro e w1 ⟨rfl, b1⟩
      have q1 : N ≤ sc := by omega
      have q2 : l.length + N ≤ A.length + B.length := by omega
      have q3 : (la.take N).length = N := by simp; omega
      have hnw := fun W' (h : Below w.heap.size w W') => news_of (N := N) hsb HX.out.1 h
      have HN : Hid (∀ W', Below w.heap.size w W' → _) := hnw
      clear hnw
      go_wp2_with (fail)
      go_region_held3 (fun _ => True) (trivial)
        (first
          | ((refine step_spare _ 33 29 32 _ w.heap.size 3 i 1 Try.underlying30 hi hz1 w.heap.size l.length (A.length + B.length) (intsL l) ?a1 ?a3 ⟨sb, so, none⟩ N sc (intsL (la.take N)) ?a2 ?a5 ?a4 ?a6 (l.length + N) rfl ?a7 ?_
              case a1 => rfl
              case a2 => rfl
              case a3 => exact own_below HX.out.2.2.2.2 (b1.trans (Below.refl _ _).drew)
              case a4 => exact HN.out _ ((hbl.trans (b1.mono hbl.size)).trans (Below.refl _ _).drew)
              case a5 => rw [intsL_len, q3]
              case a6 => exact intsL_one _
              case a7 => exact q2
              intro w2 hown2 hg2))
          | (fail))
      all_goals
        have hP : 0 < la.length - N → (if sc = N then some (⟨sb, so, none⟩ : Addr) else some ⟨sb, so + N, none⟩) = some ⟨sb, so + N, none⟩ := fun h => if_neg (by omega)
        generalize (if sc = N then some (⟨sb, so, none⟩ : Addr) else some ⟨sb, so + N, none⟩) = p at *
        generalize hK : la.length - N = K at *
        have B2 : Below w.heap.size w w2 := Below.grown ((hbl.trans (b1.mono hbl.size)).trans (Below.refl _ _).drew) hg2 (by have := hbl.size; have := b1.size; simp; omega) (fun k hk => by cases hk; exact Nat.le_refl _)
        have O2 : w2.ownsRow w.heap.size 3 1 (.slice (some ⟨w.heap.size, 0, none⟩) (l ++ la.take N).length (A.length + B.length)) (l ++ la.take N).length (intsL (l ++ la.take N)) := by
          rw [List.length_append, q3, ← intsL_app]
          exact hown2
        have LD := fun l' (h : la.drop N = l') => li_drop HX.out.2.1 hsb HX.out.1 hN h K hK.symm hP
        have hKd : (la.drop N).length = K := by simp; omega
        have Gx : ∀ x r, la.drop N = x :: r → w2.cell? ⟨sb, so + N, none⟩ = some (.int .i64 x) ∧ la[N]? = some x := fun x r h => by
          have e : la[N]? = some x := by
            have := congrArg (fun l => l[0]?) h
            simpa using this
          exact ⟨(B2.cell (p := ⟨sb, so + N, none⟩) hsb).trans (HX.out.1 N x e), e⟩
        have Gy : w2.cell? ⟨b, o, none⟩ = some (.int .i64 y) := (B2.cell (p := ⟨b, o, none⟩) hb).trans (((hbl.cell (p := ⟨b, o, none⟩) hb).symm).trans g1)
        have nela : 0 < la.length := List.length_pos_iff.2 HX.out.2.2.1.ne
        have HY : Hid (_ ∧ _ ∧ _ ∧ _ ∧ _ ∧ _) := ⟨B2, O2, LD, HX.out.2.2.2.1, Ht.out, HX.out.1⟩
        clear B2 O2 LD hown2 hg2
        cases hd : la.drop N with
        | nil =>
          have k0 : K = 0 := by rw [← hKd, hd]; rfl
          subst k0
          have hcap' : l.length + N + (lb.length + 1) + 0 ≤ A.length + B.length := by simp only [List.length_cons] at hcap; omega
          go_wp2
          go_quiet (fail)
          go_wp2
          refine ⟨?_, ?_⟩
          · exact ⟨⟨some ⟨b, o, none⟩, lb.length + 1, tc⟩, ⟨p, 0, sc - N⟩, y :: lb, [], l ++ la.take N, rfl, rfl, by rw [List.length_append, q3], HY.out.2.2.2.2.1, li_zero _ _ _, own_below HY.out.2.1 (below_drewN (Below.refl _ _) _), by have := HY.out.2.2.2.1; rw [hd] at this; exact this, by rw [List.length_append, q3]; exact hcap', below_drewN HY.out.1 _⟩
          · exact msr_lt1 (by simp [lenV]; omega)
        | cons x r =>
          obtain ⟨g2, e2⟩ := Gx x r hd
          have hxy := hat x e2
          have k0 : K = r.length + 1 := by rw [← hKd, hd]; rfl
          subst k0
          have hp' := hP (by omega)
          subst hp'
          by_cases hxe : x = y
          · subst hxe
            have c1 : W.cutH (x :: r) x = r := by simp [W.cutH]
            have hdr : la.drop (N + 1) = r := by rw [← List.drop_drop, hd]; rfl
            have LI : ∀ p : Option Addr, (0 < r.length → p = some ⟨sb, so + N + 1, none⟩) → Li ⟨p, r.length, sc - N - 1⟩ r w := fun p hp => by
              rw [Nat.sub_sub]
              exact li_drop HX.out.2.1 hsb HX.out.1 (by omega) hdr r.length (by omega) hp
            have HL : Hid _ := LI
            clear LI
            have hcap' : l.length + N + (lb.length + 1) + r.length ≤ A.length + B.length := by simp only [List.length_cons] at hcap; omega
            by_cases hc1 : sc - N = 1
            · obtain rfl : r = [] := List.length_eq_zero_iff.1 (by omega)
              go_wp2
              go_quiet (fail)
              go_wp2
              refine ⟨?_, ?_⟩
              · exact ⟨⟨some ⟨b, o, none⟩, lb.length + 1, tc⟩, ⟨_, 0, _⟩, x :: lb, [], l ++ la.take N, rfl, rfl, by rw [List.length_append, q3], HY.out.2.2.2.2.1, li_zero _ _ _, own_below HY.out.2.1 (below_drewN (Below.refl _ _) _), by have := HY.out.2.2.2.1; rw [hd, c1] at this; exact this, by rw [List.length_append, q3]; exact hcap', below_drewN HY.out.1 _⟩
              · exact msr_lt1 (by simp [lenV]; omega)
            · go_wp2
              go_quiet (fail)
              go_wp2
              refine ⟨?_, ?_⟩
              · exact ⟨⟨some ⟨b, o, none⟩, lb.length + 1, tc⟩, ⟨_, r.length, sc - N - 1⟩, x :: lb, r, l ++ la.take N, rfl, rfl, by rw [List.length_append, q3], HY.out.2.2.2.2.1, HL.out _ (fun _ => rfl), own_below HY.out.2.1 (below_drewN (Below.refl _ _) _), by have := HY.out.2.2.2.1; rw [hd, c1] at this; exact this, by rw [List.length_append, q3]; exact hcap', below_drewN HY.out.1 _⟩
              · exact msr_lt1 (by simp [lenV]; omega)
          · have c1 : W.cutH (x :: r) y = x :: r := by simp [W.cutH, hxe]
            have hxb : (x == y) = false := by simpa using hxe
            have hcap' : l.length + N + (lb.length + 1) + (r.length + 1) ≤ A.length + B.length := by simp only [List.length_cons] at hcap; omega
            go_wp2
            go_quiet (fail)
            go_wp2
            refine ⟨?_, ?_⟩
            · exact ⟨⟨some ⟨b, o, none⟩, lb.length + 1, tc⟩, ⟨some ⟨sb, so + N, none⟩, r.length + 1, sc - N⟩, y :: lb, x :: r, l ++ la.take N, rfl, rfl, by rw [List.length_append, q3], HY.out.2.2.2.2.1, HY.out.2.2.1 _ hd, own_below HY.out.2.1 (below_drewN (Below.refl _ _) _), by have := HY.out.2.2.2.1; rw [hd, c1] at this; exact this, by rw [List.length_append, q3]; exact hcap', below_drewN HY.out.1 _⟩
            by_cases hN0 : N = 0
            · subst hN0
              have a1 : hdV wr (.slice (some ⟨b, o, none⟩) (lb.length + 1) tc) = y := hd_at g1
              have a2 : hdV wr (.slice (some ⟨sb, so, none⟩) la.length sc) = x := hd_at (by have := (hbl.cell (p := ⟨sb, so + 0, none⟩) hsb).trans (HY.out.2.2.2.2.2 0 x e2); simpa using this)
              refine msr_lt2 (by simp [lenV]; omega) (show hdV wr (.slice (some ⟨b, o, none⟩) (lb.length + 1) tc) < hdV wr (.slice (some ⟨sb, so, none⟩) la.length sc) by rw [a1, a2]; omega) ?_
              show ¬ hdV _ (Value.slice (some ⟨sb, so + 0, none⟩) (r.length + 1) (sc - 0)) < hdV _ (Value.slice (some ⟨b, o, none⟩) (lb.length + 1) tc)
              rw [hd_at (x := x) (by simpa using g2), hd_at (x := y) (by simpa using Gy)]
              omega
            · exact msr_lt1 (by simp [lenV]; omega)
end Go.Proofs.Ytopehmpjfndgjaa
