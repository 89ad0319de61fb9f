/- net: All; messages in a list of a law's own. -/
import Derived.Test.YtaioioilfanpeaaDoorNetI
namespace Go.Proofs.YtaioioilfanpeaaDoor
open Go.ChangeShapes Go.WideShapes Go.ChangeAt Go.RowKit
set_option linter.unusedVariables false
set_option linter.unusedSimpArgs false

theorem oneFX (L : List W.Fl) : ∀ u ∈ flX L, u.oneCell' = true := by
  intro u hu
  unfold flX at hu
  obtain ⟨f, _, hf⟩ := List.mem_flatMap.1 hu
  exact oneF f u hf
set_option maxHeartbeats 800000 in
theorem clone_fl (v : Value) (L : List W.Fl) (n0 : Nat) (hL : L.length ≤ 16384) (w : World) (ho : w.ownsRow n0 66 12 v L.length (flX L)) :
    Calls Tryd.prog 37 #[v] w fun e w' => (∃ v', e = .returned v' ∧ w'.ownsRow w.heap.size 66 12 v' L.length (flX L)) ∧ Below w.heap.size w w' := by
  obtain ⟨ti, hi, hzz⟩ := Option.map_eq_some_iff.1 infoFl
  simp only [Prod.mk.injEq] at hzz
  obtain ⟨hz0, hz1, hz2⟩ := hzz
  have q : ∀ (w : World) (a : Option Addr) (n c n' c' : Nat), (binOp .eql 56 (.slice a n c) (.slice none n' c')).run Tryd.prog w = .ok (.bool a.isNone) w := fun w a n c n' c' => Lib.run_eql_slice_nil w _ _ a n c n' c' Tryd.underlying56
  have HO : Hid (w.ownsRow n0 66 12 v L.length (flX L)) := ho
  rcases ho.2 with ⟨h1, h2⟩ | ⟨g, cap, cur, h1, hbg, hg, hnc, hcm, hcs, htk⟩
  · subst h1
    clear ho
    have hn : L.length = 0 := h2
    go_enter Tryd.func37, Tryd.ntmps37
    go_wp2
    go_ret
    refine ⟨⟨_, rfl, ?_, Or.inl ⟨rfl, ?_⟩⟩, Below.refl _ _⟩
    · rw [HO.out.1, hn]
    · first | rfl | exact hn
  · subst h1
    have HC : Hid (∀ j u, (flX L)[j]? = some u → w.cell? ((⟨g, 0, none⟩ : Addr).add j) = some u) := fun j u hu => by
      rw [Addr.add_mid, Nat.zero_add, HO.out.cellAt j (by
        have := (List.getElem?_eq_some_iff.1 hu).1
        rw [flX_len] at this
        exact this)]
      exact hu
    clear ho hg hcs htk hbg HO
    have hxl := flX_len L
    generalize hn : L.length = n at *
    have HN : Hid (n = L.length) := hn.symm
    clear hn
    generalize hX : flX L = XS at *
    have HX : Hid (∀ u ∈ XS, u.oneCell' = true) := by rw [← hX]; exact oneFX L
    clear hX
    go_enter Tryd.func37, Tryd.ntmps37
    go_wp2_with (at_builtin; refine wpList_append_own _ rfl _ _ 56 rfl w.heap.size 66 ti (.agg zFl) 12 64 Tryd.underlying56 hi hz0 hz1 hz2 rfl (by decide) _ _ _ rfl (World.ownsRow_made w #[] 0 (Nat.le_refl _) (Nat.zero_le _) rfl) ⟨g, 0, none⟩ n cap XS rfl ?qc1 ?qc2 ?qc3 ?qc4 ?qc5 ?qc6 ?_)
    case qc1 => exact hxl
    case qc2 =>
      intro j u hj
      exact Lib.cell?_alloc_some _ (HC.out j u hj)
    case qc3 => exact HX.out
    case qc4 => unfold maxLen; omega
    case qc5 => omega
    try (case qc6 => simp)
    intro v' w1 hown hgrow hnil
    go_wp2
    go_ret
    have hB : Below w.heap.size w w1 := ((Below.refl _ w).alloc (Nat.le_refl _) _).grown hgrow (by simp) (by intro k hk; simp [Value.ownBlock] at hk; omega)
    exact ⟨⟨v', rfl, by simpa using hown⟩, hB⟩
variable {n0 nb : Nat} {h : Int} {R R' : Nat → Int} {nx : Int} {fv fv' : Value} {L : List W.Fl} {w w' : World}
theorem all_any (hL : L.length ≤ 16384) (H : Nt n0 nb h R nx fv L w) : Calls Tryd.prog 20 #[.pointer (some ⟨nb, 0, none⟩)] w fun e w' => (∃ v', e = .returned v' ∧ w'.ownsRow w.heap.size 66 12 v' L.length (flX L)) ∧ Below w.heap.size w w' := by
  have c := H.cF
  have HC : Hid (Calls _ _ _ _ _) := clone_fl fv L n0 hL w H.o
  clear H
  go_enter Tryd.func20, Tryd.ntmps20
  go_wp2_with (fail)
  refine HC.out.mono ?_
  rintro e w1 ⟨⟨v', rfl, h1⟩, h2⟩
  have HQ : Hid (_ ∧ _) := ⟨h1, h2⟩
  clear h1 h2
  go_wp2
  go_ret
  exact ⟨⟨v', rfl, HQ.out.1⟩, HQ.out.2⟩

def zMg : Array Value := (mgL W.mg0).toArray
theorem infoMg : (Tryd.prog.info? 47).map (fun i => (i.zero, i.size, i.bytes)) = some (some (.agg zMg), 11, 56) := by kernel_rfl
theorem ms_own {lv : Value} {ms : List W.Mg} {base : Nat} (ho : w.ownsRow base 47 11 lv ms.length (mgX ms)) (hm : ms.length ≤ 4096) : ∃ s, lv = slV s ∧ Ms s ms w ∧ ∀ b o, s.a = some ⟨b, o, none⟩ → lv.ownBlock = some b := by
  have HO := ho
  rcases ho.2 with ⟨h1, h2⟩ | ⟨g, cap, cur, h1, hbg, hg, hnc, hcm, hcs, htk⟩
  · refine ⟨W.Sl.nil, h1, ⟨h2.symm, by show 0 ≤ 4096; omega, Nat.le_refl _, fun h => absurd h (by show ¬ 0 < 0; omega)⟩, fun b o e => by cases e⟩
  · subst h1
    refine ⟨⟨some ⟨g, 0, none⟩, ms.length, cap⟩, rfl, ⟨rfl, hm, hnc, fun _ => ⟨g, 0, rfl, (Array.getElem?_eq_some_iff.1 hg).1, fun j x hx i v hv => ?_⟩⟩, fun b o e => by cases e; rfl⟩
    have hi : i < 11 := (List.getElem?_eq_some_iff.1 hv).1
    have hj : j < ms.length := (List.getElem?_eq_some_iff.1 hx).1
    rw [Nat.zero_add, HO.cellAt (j * 11 + i) (by omega), mgX_get ms j i x hx hi]
    exact hv
theorem MsgAt.news {b : Nat} {m : W.Mg} (h : MsgAt b m w) : ∀ j u, (mgL m)[j]? = some u → w.cell? ((⟨b, 0, none⟩ : Addr).add j) = some u := World.news_of_block (cs := (mgL m).toArray) h
theorem MsgAt.line {b : Nat} {m : W.Mg} (h : MsgAt b m w) (v : Int) : MsgAt b { m with l := v } (w.setCell ⟨b, 1, none⟩ (.int .i64 v)) := by
  unfold MsgAt at h ⊢
  simp only [World.setCell, Array.getElem?_modify]
  simp only [↓reduceIte, h, Option.map_some]
  rfl
theorem MsgAt.c1 {b : Nat} {m : W.Mg} (h : MsgAt b m w) : w.cell? ⟨b, 1, none⟩ = some (.int .i64 m.l) := by rw [cell_of_row _ _ 1 _ 47 (0, 0) h]; rfl
theorem MsgAt.f1 {b : Nat} {m : W.Mg} (h : MsgAt b m w) : w.frozen? ⟨b, 1, none⟩ = false := by unfold World.frozen?; unfold MsgAt at h; rw [h]; simp
theorem fls_get (x : W.Mg) : ∀ (l : List W.Mg) (nx : Int) (j : Nat), l[j]? = some x → (W.fls nx l)[j]? = some ⟨nx + j, x⟩
  | [], nx, j, h => by simp at h
  | y :: l, nx, 0, h => by
    obtain rfl : y = x := by simpa using h
    simp [W.fls]
  | y :: l, nx, j + 1, h => by
    have := fls_get x l (nx + 1) j (by simpa using h)
    simp only [W.fls, List.getElem?_cons_succ, this]
    congr 2
    omega
end Go.Proofs.YtaioioilfanpeaaDoor
