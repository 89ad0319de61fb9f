/- home: Delete; without. -/
import Derived.Test.YtadkpelcbnljbaaHomB
import Derived.Laws.OwnMore
import Derived.Deep.RegionLaw
namespace Go.Proofs.Ytadkpelcbnljbaa
open Go.ChangeShapes Go.WideShapes Go.ChangeAt Go.RowKit
set_option linter.unusedVariables false
set_option linter.unusedSimpArgs false

theorem step_lies {P : Program} (w : World) {ops : Array Oper} {a : Act} {K : Act → World → Prop} {Q : Exit → Act → World → Prop} {E : Prop} (d s x t : Nat) {ty : TypeId} {ps : String} {af : Array Edge}
    (base : Nat) (e : TypeId) (i : TypeInfo) (z : Value) (size bytes : Nat) (ht : P.underlying t = some (.slice e)) (hi : P.info? e = some i) (hz : i.zero = some z)
    (hsize : i.size = size) (hby : i.bytes = bytes) (hzs : z.cells.size = size) (hsz : 0 < size)
    (v : Value) (n : Nat) (xs : List Value) (hs : a.eval (.tmp s) = v) (hown : w.ownsRow base e size v n xs)
    (ad : Addr) (m c : Nat) (news : List Value) (hx : a.eval (.tmp x) = .slice (some ad) m c) (hl : news.length = m * size) (hnews : ∀ j u, news[j]? = some u → w.cell? (ad.add j) = some u) (h1 : ∀ u ∈ news, u.oneCell' = true)
    (hm : 0 < m) (h63 : n + m ≤ maxLen) (hbytes : (n + m) * bytes ≤ 140737488355328) (hbase : base ≤ w.heap.size)
    (h : ∀ g cap w', w'.ownsRow base e size (.slice (some ⟨g, 0, none⟩) (n + m) cap) (n + m) (xs ++ news) → w.grownBy w' v.ownBlock → (v.ownBlock = some g ∨ g = w.heap.size) → g < w'.heap.size → K (a.put (some d) (.slice (some ⟨g, 0, none⟩) (n + m) cap)) w') :
    if Region.wanted { dst := some d, op := .call { callee := .builtin .append, args := #[.tmp s, .tmp x], argTypes := #[t, t] }, type := ty, pos := ps, after := af, guard := none } (yielded ops a.tmps) = true then Oper.wp P { dst := some d, op := .call { callee := .builtin .append, args := #[.tmp s, .tmp x], argTypes := #[t, t] }, type := ty, pos := ps, after := af, guard := none } a w K Q else E := by
  rw [if_pos (by simp [Region.wanted])]
  exact wp_append_lies w _ _ t rfl base e i z size bytes ht hi hz hsize hby hzs hsz v n xs hs hown ad m c news hx hl hnews h1 hm h63 hbytes hbase _ rfl h

/-- An append that fits, at a step of a region that draws its order. -/
theorem step_fits {P : Program} (w : World) {ops : Array Oper} {a : Act} {K : Act → World → Prop} {Q : Exit → Act → World → Prop} {E : Prop} (d s x t : Nat) {ty : TypeId} {ps : String} {af : Array Edge}
    (base : Nat) (e : TypeId) (i : TypeInfo) (size : Nat) (ht : P.underlying t = some (.slice e)) (hi : P.info? e = some i) (hsize : i.size = size)
    (g n cap : Nat) (xs : List Value) (hs : a.eval (.tmp s) = .slice (some ⟨g, 0, none⟩) n cap) (hown : w.ownsRow base e size (.slice (some ⟨g, 0, none⟩) n cap) n xs)
    (ad : Addr) (m c : Nat) (news : List Value) (hx : a.eval (.tmp x) = .slice (some ad) m c) (hl : news.length = m * size) (hnews : ∀ j u, news[j]? = some u → w.cell? (ad.add j) = some u) (h1 : ∀ u ∈ news, u.oneCell' = true)
    (hroom : n + m ≤ cap)
    (h : ∀ w', w'.ownsRow base e size (.slice (some ⟨g, 0, none⟩) (n + m) cap) (n + m) (xs ++ news) → w.grownBy w' (some g) → K (a.put (some d) (.slice (some ⟨g, 0, none⟩) (n + m) cap)) w') :
    if Region.wanted { dst := some d, op := .call { callee := .builtin .append, args := #[.tmp s, .tmp x], argTypes := #[t, t] }, type := ty, pos := ps, after := af, guard := none } (yielded ops a.tmps) = true then Oper.wp P { dst := some d, op := .call { callee := .builtin .append, args := #[.tmp s, .tmp x], argTypes := #[t, t] }, type := ty, pos := ps, after := af, guard := none } a w K Q else E := by
  rw [if_pos (by simp [Region.wanted])]
  obtain ⟨w', hr, h2, h3⟩ := run_append_fits (P := P) w base t ty e i size ht hi hsize g n cap xs hown ad m c news hl hnews h1 hroom
  unfold Oper.wp execOp
  simp only [resolve, invoke, builtin, Sem.run_bind, Sem.run_pure, Result.andThen_ok, List.map_toArray, List.map_cons, List.map_nil, hs, hx, hr]
  exact h w' h2 h3
theorem inX_len (l : List Int) : (inX l).length = l.length := by simp [inX]
theorem zeroI (w : World) : (zeroValue 3).run Try.prog w = .ok (.int .i64 0) w := by kernel_rfl
theorem zcI : (Builtin.zeroCells (Value.int .i64 0).cells 1).toList = [Value.int .i64 0] := by kernel_rfl
theorem clear_one (w : World) (ty : TypeId) (b o c : Nat) (hc : (w.cell? ⟨b, o, none⟩).isSome = true) (hf : w.frozen? ⟨b, o, none⟩ = false) :
    (Builtin.clear_ #[39] ty #[.slice (some ⟨b, o, none⟩) 1 c]).run Try.prog w = .ok (.tuple #[]) (w.setCells b o [.int .i64 0]) := by
  have hst := Go.run_storeCells_cells (P := Try.prog) b o [Value.int .i64 0] 0 w (fun j hj => by (have e : j = 0 := (by simpa using hj)); subst e; simpa using hc) (fun j hj => by (have e : j = 0 := (by simpa using hj)); subst e; simpa using hf) (by intro v hv; simp at hv; subst hv; rfl)
  simp only [Nat.add_zero] at hst
  simp [Builtin.clear_, run_underlying Try.underlying39, zeroI]
  rw [zcI, hst]
  rfl
/-- What stands ahead of the cleared end is owned as ahead. -/
theorem own_take {w : World} {base g n cap k : Nat} {xs : List Value} (h : w.ownsRow base 3 1 (.slice (some ⟨g, 0, none⟩) n cap) n xs) (hk : k ≤ n) : w.ownsRow base 3 1 (.slice (some ⟨g, 0, none⟩) k cap) k (xs.take (k * 1)) := by
  rcases h.2 with ⟨h1, h2⟩ | ⟨g', cap', cur, h1, hbg, hg, hnc, hcm, hcs, htk⟩
  · cases h1
  · cases h1
    refine ⟨by rw [List.length_take, h.1]; omega, Or.inr ⟨g, cap, cur, rfl, hbg, hg, by omega, hcm, hcs, ?_⟩⟩
    rw [← htk, List.take_take, Nat.min_eq_left (by omega)]
theorem own_clear {w : World} {base g n cap : Nat} {xs vs : List Value} (h : w.ownsRow base 3 1 (.slice (some ⟨g, 0, none⟩) n cap) n xs) (o : Nat) (ho : n * 1 ≤ o) (hv : o + vs.length ≤ cap * 1) : (w.setCells g o vs).ownsRow base 3 1 (.slice (some ⟨g, 0, none⟩) n cap) n xs := by
  rcases h.2 with ⟨h1, h2⟩ | ⟨g', cap', cur, h1, hbg, hg, hnc, hcm, hcs, htk⟩
  · cases h1
  · cases h1
    refine ⟨h.1, Or.inr ?_⟩
    have q : ∀ (vs : List Value) (o : Nat) (w : World) (cur : Array Value), w.heap[g]? = some (.cells cur 3) → n * 1 ≤ o → cur.size = cap * 1 → cur.toList.take (n * 1) = xs → ∃ cur', (w.setCells g o vs).heap[g]? = some (.cells cur' 3) ∧ cur'.size = cap * 1 ∧ cur'.toList.take (n * 1) = xs := by
      intro vs
      induction vs with
      | nil => intro o w cur h1 h2 h3 h4; exact ⟨cur, h1, h3, h4⟩
      | cons v vs ih =>
        intro o w cur h1 h2 h3 h4
        refine ih (o + 1) (w.setCell ⟨g, o, none⟩ v) (cur.setIfInBounds o v) ?_ (by omega) (by simpa using h3) ?_
        · simp only [World.setCell, Array.getElem?_modify]
          simp [h1]
        · rw [← h4]
          apply List.ext_getElem?
          intro i
          rw [List.getElem?_take, List.getElem?_take]
          by_cases hi : i < n * 1
          · rw [if_pos hi, if_pos hi]
            simp only [Array.getElem?_toList, Array.getElem?_setIfInBounds]
            rw [if_neg (by omega)]
          · rw [if_neg hi, if_neg hi]
    obtain ⟨cur', e1, e2, e3⟩ := q vs o w cur hg ho hcs htk
    exact ⟨g, cap, cur', rfl, hbg, e1, hnc, hcm, e2, e3⟩

set_option maxRecDepth 10000 in
set_option maxHeartbeats 1600000 in
theorem delete_any (n0 g cap i n : Nat) (L1 L2 : List Int) (f : Int) (hi : L1.length = i) (hn : L1.length + 1 + L2.length = n) (hn2 : n ≤ 16384) (hcap : n ≤ cap) (hcm : cap ≤ maxLen) (w : World) (ho : w.ownsRow n0 3 1 (.slice (some ⟨g, 0, none⟩) n cap) n (inX (L1 ++ f :: L2))) :
    Calls Try.prog 48 #[.slice (some ⟨g, 0, none⟩) n cap, .int .i64 i, .int .i64 ((i : Int) + 1)] w fun e w' => e = .returned (.slice (some ⟨g, 0, none⟩) (n - 1) cap) ∧ w'.ownsRow n0 3 1 (.slice (some ⟨g, 0, none⟩) (n - 1) cap) (n - 1) (inX (L1 ++ L2)) ∧ w.grownBy w' (some g) := by
  obtain ⟨ti, hti, hzz⟩ := Option.map_eq_some_iff.1 infoI
  simp only [Prod.mk.injEq] at hzz
  obtain ⟨hz0, hz1, hz2⟩ := hzz
  have eX : inX (L1 ++ f :: L2) = inX L1 ++ (.int .i64 f :: inX L2) := by simp [inX]
  have eY : inX (L1 ++ L2) = inX L1 ++ inX L2 := by simp [inX]
  have o1 : w.ownsRow n0 3 1 (.slice (some ⟨g, 0, none⟩) i cap) i (inX L1) := by
    have q := own_take ho (k := i) (by omega)
    rw [Nat.mul_one, eX, List.take_append_of_le_length (by rw [inX_len]; omega), List.take_of_length_le (by rw [inX_len]; omega)] at q
    exact q
  have hlen2 : (inX L2).length = (n - (i + 1)) * 1 := by rw [inX_len]; omega
  have hcells : ∀ j u, (inX L2)[j]? = some u → w.cell? ⟨g, i + 1 + j, none⟩ = some u := fun j u hu => by
    have hj := (List.getElem?_eq_some_iff.1 hu).1
    rw [ho.cellAt _ (by rw [inX_len] at hj; omega), eX, List.getElem?_append_right (by rw [inX_len]; omega), inX_len, show i + 1 + j - L1.length = j + 1 by omega, List.getElem?_cons_succ]
    exact hu
  obtain ⟨ad, had⟩ : ∃ ad : Addr, (if cap = i + 1 then some (⟨g, 0, none⟩ : Addr) else some ⟨g, i + 1, none⟩) = some ad := by
    by_cases e : cap = i + 1
    · exact ⟨_, if_pos e⟩
    · exact ⟨_, if_neg e⟩
  have hnews : ∀ j u, (inX L2)[j]? = some u → w.cell? (ad.add j) = some u := fun j u hu => by
    have hj := (List.getElem?_eq_some_iff.1 hu).1
    rw [inX_len] at hj
    rw [if_neg (by omega)] at had
    cases had
    rw [Addr.add_mid]
    exact hcells j u hu
  have HO : Hid (_ ∧ _ ∧ _ ∧ _) := ⟨o1, hnews, hlen2, oneI L2⟩
  have HA : Hid ((if cap = i + 1 then some (⟨g, 0, none⟩ : Addr) else some ⟨g, i + 1, none⟩) = some ad) := had
  have HY : Hid (_ ∧ _) := ⟨eY, hlen2⟩
  have hin : i < n := by omega
  generalize inX L1 = X1 at *
  generalize inX L2 = X2 at *
  clear ho eX eY o1 hlen2 hcells hnews had hn hi
  unfold maxLen at hcm
  have b0 : (0 : Int) ≤ i := by omega
  have b1 : (i : Int) ≤ (i : Int) + 1 := by omega
  have b2 : (i : Int) + 1 ≤ n := by omega
  have b3 : (n : Int) ≤ cap := by omega
  have b4 : (i : Int) ≤ cap := by omega
  have b5 : (i : Int) + 1 ≤ cap := by omega
  have b6 : (0 : Int) ≤ (i : Int) + 1 := by omega
  go_enter Try.func48, Try.ntmps48
  go_wp2_with (fail)
  go_region_law (first
    | ((refine step_fits _ 26 22 25 _ n0 3 ti 1 Try.underlying39 hti hz1 g i cap X1 ?a1 ?a3 ad (n - (i + 1)) (cap - (i + 1)) X2 ?a2 ?a4 ?a5 ?a6 ?a7 ?_
        case a1 => rfl
        case a2 => exact congrArg (fun a => Value.slice a (n - (i + 1)) (cap - (i + 1))) HA.out
        case a3 => exact HO.out.1
        case a4 => exact HO.out.2.2.1
        case a5 => exact HO.out.2.1
        case a6 => exact HO.out.2.2.2
        case a7 => omega
        intro w6 hown6 hg6))
    | (fail))
  all_goals
    rw [HA.out]
    generalize hN1 : i + (n - (i + 1)) = N1 at *
    have e1 : N1 + 1 = n := by omega
    have l6 : X1.length + X2.length = N1 * 1 := by have := hown6.1; rw [List.length_append] at this; exact this
    have c6 : (w6.cell? ⟨g, N1, none⟩).isSome = true := by
      rcases hown6.2 with ⟨h1, h2⟩ | ⟨g', cap', cur, h1, hbg, hg, hnc, hcm, hcs, htk⟩
      · cases h1
      · cases h1
        rw [cell_of_row _ _ N1 _ 3 (0, 0) hg, Array.getElem?_eq_getElem (by omega)]
        rfl
    have f6 : w6.frozen? ⟨g, N1, none⟩ = false := by
      rcases hown6.2 with ⟨h1, h2⟩ | ⟨g', cap', cur, h1, hbg, hg, hnc, hcm, hcs, htk⟩
      · cases h1
      · cases h1
        simp [World.frozen?, hg]
    have hcl : ∀ ty, (Builtin.clear_ #[39] ty #[.slice (some ⟨g, N1, none⟩) (n - N1) (cap - N1)]).run Try.prog w6 = .ok (.tuple #[]) (w6.setCells g N1 [.int .i64 0]) := fun ty => by
      rw [show n - N1 = 1 by omega]
      exact clear_one w6 ty g N1 (cap - N1) c6 f6
    have hfin := own_clear hown6 N1 (by omega) (vs := [.int .i64 0]) (by show N1 + 1 ≤ cap * 1; omega)
    have hgr := gtrans hg6 (gsetCells g [.int .i64 0] N1 w6)
    have HF : Hid (_ ∧ _) := ⟨hfin, hgr⟩
    have HE : Hid (N1 = n - 1) := by show N1 = n - 1; omega
    have c1 : (0 : Int) ≤ N1 := by omega
    have c2 : (N1 : Int) ≤ n := by omega
    have c3 : ¬ cap = N1 := by omega
    have c4 : (0 : Int) ≤ n := by omega
    clear hfin hgr hown6 hg6 l6 c6 f6 e1 hN1
    go_wp2
    go_ret
    refine ⟨by rw [← HE.out]; rfl, ?_, ?_⟩
    · rw [← HE.out, HY.out.1]
      exact HF.out.1
    · exact gtrans (gdrew w _) HF.out.2

end Go.Proofs.Ytadkpelcbnljbaa
