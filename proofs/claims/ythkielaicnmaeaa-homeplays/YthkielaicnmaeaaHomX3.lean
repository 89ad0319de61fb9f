/- home: the document's Take: Back. -/
import Derived.Test.YthkielaicnmaeaaHomX1
import Derived.Test.YthkielaicnmaeaaHomN
import Derived.Test.YthkielaicnmaeaaHomX2
import Derived.Test.YthkielaicnmaeaaRegLast2
import Derived.Deep.RegionLaw
import Derived.Deep.AppendLies
import Derived.Deep.RegionHeld3
namespace Go.Proofs.Ythkielaicnmaeaa
open Go.ChangeShapes Go.WideShapes Go.ChangeAt Go.RowKit
set_option linter.unusedVariables false
set_option linter.unusedSimpArgs false
attribute [local go_sem ↓] ldM_eq stM_eq bdM_eq bsM_eq
variable {n0 db : Nat} {d d' : W.Dm} {sv wv sv' wv' sv'' wv'' : Value} {w w' w'' : World}
def apI (args : Array Value) : Sem Value := Builtin.append_ #[39, 39] 39 args
theorem apI_eq (args : Array Value) : Builtin.append_ #[39, 39] 39 args = apI args := rfl
theorem li_of_own {B g n cap : Nat} {l : List Int} (h : w.ownsRow B 3 1 (.slice (some ⟨g, 0, none⟩) n cap) n (inX l)) (hn : n = l.length) (hm : n ≤ 4096) : Li ⟨some ⟨g, 0, none⟩, n, cap⟩ l w := by
  subst hn
  have ho : On B (.slice (some ⟨g, 0, none⟩) l.length cap) l w := h
  obtain ⟨s, hs, hL⟩ := ho.li hm
  have : s = ⟨some ⟨g, 0, none⟩, l.length, cap⟩ := by cases s; simp [slV] at hs; simp [hs]
  rw [← this]
  exact hL
/-- A number is appended to a list that the call owns. -/
theorem app_own {B : Nat} {W0 : World} (v : Value) (l : List Int) (x : Int) (w : World) (h : On B v l w) (hb : Below B W0 w) (hl : l.length ≤ 4090) (ad : Addr) (had : ∀ j u, [Value.int .i64 x][j]? = some u → w.cell? (ad.add j) = some u) (hB : B ≤ W0.heap.size) :
    ∃ g cap w', (apI #[v, .slice (some ad) 1 1]).run Try.prog w = .ok (.slice (some ⟨g, 0, none⟩) (l.length + 1) cap) w' ∧ Li ⟨some ⟨g, 0, none⟩, l.length + 1, cap⟩ (l ++ [x]) w' ∧ Below B W0 w' := by
  obtain ⟨ti, hti, hzz⟩ := Option.map_eq_some_iff.1 infoI
  simp only [Prod.mk.injEq] at hzz
  obtain ⟨hz0, hz1, hz2⟩ := hzz
  obtain ⟨g, cap, w', hr, ho, hg, _, _⟩ := run_append_lies (P := Try.prog) w 39 39 B 3 ti (.int .i64 0) 1 8 Try.underlying39 hti hz0 hz1 hz2 rfl (by decide) v l.length (inX l) h ad 1 1 [.int .i64 x] rfl had (oneI [x]) (by decide) (by unfold maxLen; omega) (by omega) (Nat.le_trans hB hb.size) _ rfl
  refine ⟨g, cap, w', hr, li_of_own (B := B) (by rw [show inX (l ++ [x]) = inX l ++ [.int .i64 x] by simp [inX]]; exact ho) (by rw [List.length_append]; rfl) (by omega), ?_⟩
  exact hb.grown hg (Nat.le_trans hB hb.size) (fun b e => (h.lt e).1)
theorem MsgAt.below2 {b : Nat} {m : W.Mg} (h : MsgAt b m w) (hu : Du db sv wv sv' wv' w w') (hne : b ≠ db) : MsgAt b m w' := (hu.g.block b h.lt hne).trans h
theorem W.srt_len2 (l : List Int) (x : Int) : (W.srt (l ++ [x])).length ≤ l.length + 1 := by
  have := W.srt_len (l ++ [x])
  simpa using this
set_option maxRecDepth 10000 in
set_option maxHeartbeats 3200000 in
theorem dtake_B2 (H : Dh n0 db d sv wv w) (m : W.Mg) (hk : m.k = 11) (hl : d.sh.length ≤ 4090) (hl2 : d.ws.length ≤ 4090) (h2 : d.k = 2) : Calls Try.prog 16 #[.pointer (some ⟨db, 0, none⟩), mgV m] w fun e w' => Rsd n0 db (W.dA { d with fr := -1, had := m }) sv wv w e w' := by
  have hba := below_alloc w (.cells (mgL m).toArray 35)
  have H1 := H.below hba
  have hm := msgAt_new w m
  have hne : w.heap.size ≠ db := by have := H.b.lt; omega
  have HM : Hid (Bx n0 db d sv wv m w.heap.size w (w.alloc (.cells (mgL m).toArray 35))) := ⟨H1, hm, Du.of_below hba, hne⟩
  have c0 : (w.alloc (.cells (mgL m).toArray 35)).cell? ⟨w.heap.size, 0, none⟩ = some (.int .i64 m.k) := hm.cAt 0
  have c2 : (w.alloc (.cells (mgL m).toArray 35)).cell? ⟨w.heap.size, 2, none⟩ = some (.int .i64 m.f) := hm.cAt 2
  rw [hk] at c0
  have HK : Hid (m.k = 11 ∧ d.sh.length ≤ 4090 ∧ d.ws.length ≤ 4090) := ⟨hk, hl, hl2⟩
  clear H H1 hm hba hk hl hl2 hne
  have hV : mgV m = .agg (mgL m).toArray := rfl
  rw [hV]
  clear hV
  go_enter Try.func16, Try.ntmps16
  go_upto_region 1 with fail
  generalize World.alloc w _ = W1 at *
  generalize hmb : w.heap.size = mb at HM c0 c2 ⊢
  clear hmb
  have ne1 := HM.out.ne
  have ne2 := ne1.symm
  obtain ⟨a5, cap5, hv5, hcap5⟩ := HM.out.h.oa.len
  have c11 := HM.out.h.c 11 (by decide)
  dsimp only [dhF] at c11
  have c12 := HM.out.h.c 12 (by decide)
  have f12 := HM.out.h.b.fz 12
  have c9 : W1.cell? ⟨db, 9, none⟩ = some (.int .i64 2) := by rw [← h2]; exact HM.out.h.c 9 (by decide)
  have hld := HM.out.m.ld
  have h1 := HM.out.h.put 12 (.int .i64 (-1)) { d with fr := -1 } (dupd_fr d sv wv (-1)) rfl rfl
  have hld1 : (ldM ⟨mb, 0, none⟩).run Try.prog (W1.setCell ⟨db, 12, none⟩ (.int .i64 (-1))) = .ok (mgV m) (W1.setCell ⟨db, 12, none⟩ (.int .i64 (-1))) := MsgAt.ld (MsgAt.below2 HM.out.m h1.2 HM.out.ne)
  have hst := h1.1.stB m
  have hh := h1.1.setB m
  have HX : Hid (_ ∧ _) := ⟨hh.1, HM.out.u.trans (h1.2.trans hh.2)⟩
  have HQ : Hid (W.dA { d with fr := -1, had := m } = if d.ws = [] then W.dgv { d with fr := -1, had := m } else ({ d with fr := -1, had := m }, [])) := by
    show W.dA _ = _
    unfold W.dA
    by_cases e : d.ws = []
    · rw [if_pos e, if_pos ⟨e, by show (-1 : Int) < 0; decide⟩]
    · rw [if_neg e, if_neg (fun h => e h.1)]
  have HN5 : Hid (wv = .slice a5 d.ws.length cap5) := hv5
  clear h1 hh h2 hld hv5
  go_upto_region 54 with fail
  clear c11 c12 f12 c9 hld1 hst c0 c2
  generalize World.setCells _ db 13 _ = W8 at *
  have k11 := HX.out.1.c 11 (by decide)
  dsimp only [dhF] at k11
  rw [HN5.out] at k11
  by_cases e : d.ws = []
  · have HQ : Hid (_) := HQ.out.trans (if_pos e)
    rw [e, show ([] : List Int).length = 0 from rfl] at k11
    clear e
    go_wp2_with (fail)
    refine (dgive_any HX.out.1).mono ?_
    intro e w9 hres
    obtain ⟨sl, sv1, av1, rfl, hm1, hH1, hu1, hap1⟩ := hres
    have HR9 : Hid (Rsd n0 db (W.dgv { d with fr := -1, had := m }) sv wv w (.returned (slV sl)) w9) := Rsd.from HX.out.2 ⟨sl, sv1, av1, rfl, hm1, hH1, hu1, hap1⟩
    clear hm1 hH1 hu1 hap1
    go_wp2
    go_ret
    rw [HQ.out]
    exact HR9.out
  · have HQ : Hid (_) := HQ.out.trans (if_neg e)
    have hnz : d.ws.length ≠ 0 := fun h => e (List.eq_nil_of_length_eq_zero h)
    generalize d.ws.length = n5 at k11 hnz
    obtain ⟨n5, rfl⟩ : ∃ k, n5 = k + 1 := ⟨n5 - 1, by omega⟩
    have hp5 : ((n5 + 1 : Nat) : Int) ≠ 0 := by omega
    clear e hnz
    go_wp2
    go_ret
    rw [HQ.out]
    exact Rsd.nilR HX.out.1 HX.out.2
set_option maxRecDepth 10000 in
set_option maxHeartbeats 3200000 in
theorem dtake_B1 (H : Dh n0 db d sv wv w) (m : W.Mg) (hk : m.k = 11) (hl : d.sh.length ≤ 4090) (hl2 : d.ws.length ≤ 4090) (h2 : d.k ≠ 2) : Calls Try.prog 16 #[.pointer (some ⟨db, 0, none⟩), mgV m] w fun e w' => Rsd n0 db (W.dB d m) sv wv w e w' := by
  have hba := below_alloc w (.cells (mgL m).toArray 35)
  have H1 := H.below hba
  have hm := msgAt_new w m
  have hne : w.heap.size ≠ db := by have := H.b.lt; omega
  have HM : Hid (Bx n0 db d sv wv m w.heap.size w (w.alloc (.cells (mgL m).toArray 35))) := ⟨H1, hm, Du.of_below hba, hne⟩
  have c0 : (w.alloc (.cells (mgL m).toArray 35)).cell? ⟨w.heap.size, 0, none⟩ = some (.int .i64 m.k) := hm.cAt 0
  have c2 : (w.alloc (.cells (mgL m).toArray 35)).cell? ⟨w.heap.size, 2, none⟩ = some (.int .i64 m.f) := hm.cAt 2
  rw [hk] at c0
  have HK : Hid (m.k = 11 ∧ d.sh.length ≤ 4090 ∧ d.ws.length ≤ 4090) := ⟨hk, hl, hl2⟩
  clear H H1 hm hba hk hl hl2 hne
  have hV : mgV m = .agg (mgL m).toArray := rfl
  rw [hV]
  clear hV
  go_enter Try.func16, Try.ntmps16
  go_upto_region 1 with fail
  generalize World.alloc w _ = W1 at *
  generalize hmb : w.heap.size = mb at HM c0 c2 ⊢
  clear hmb
  have ne1 := HM.out.ne
  have ne2 := ne1.symm
  have c12 := HM.out.h.c 12 (by decide)
  have f12 := HM.out.h.b.fz 12
  have c9 : W1.cell? ⟨db, 9, none⟩ = some (.int .i64 d.k) := HM.out.h.c 9 (by decide)
  have nk : (d.k == 2) = false := by simpa using h2
  have h1 := HM.out.h.put 12 (.int .i64 (-1)) { d with fr := -1 } (dupd_fr d sv wv (-1)) rfl rfl
  have HX : Hid (Dh n0 db { d with fr := -1 } sv wv _ ∧ Du db sv wv sv wv w _ ∧ MsgAt mb m _) := ⟨h1.1, HM.out.u.trans h1.2, HM.out.m.below2 h1.2 HM.out.ne⟩
  have HNE : Hid (mb ≠ db) := HM.out.ne
  have HL9 : Hid (d.sh.length ≤ 4090) := HK.out.2.1
  clear h1 h2 HM
  go_upto_region 57 with fail
  clear c12 f12 c9 nk c0 c2
  generalize World.setCell W1 _ _ = W2 at *
  go_cut [297] from 292 to 306 (fun _ wx => ∃ v9, Dh n0 db { d with fr := -1, sh := W.srt (d.sh ++ [d.by_]) } v9 wv wx ∧ Du db sv wv v9 wv w wx ∧ MsgAt mb m wx)
  case first =>
    have hdw : Below W2.heap.size W2 W2.drew := (Below.refl _ _).drew
    obtain ⟨s1, hs1, hLi⟩ := HX.out.1.os.li (by have := HK.out.2.1; show d.sh.length ≤ 4096; omega)
    have r7 : W2.drew.cell? ⟨db, 7, none⟩ = some (slV s1) := by rw [← hs1]; exact HX.out.1.c 7 (by decide)
    have r10 : W2.drew.cell? ⟨db, 10, none⟩ = some (.int .i64 d.by_) := HX.out.1.c 10 (by decide)
    have r7' : W2.cell? ⟨db, 7, none⟩ = some (slV s1) := r7
    have r10' : W2.cell? ⟨db, 10, none⟩ = some (.int .i64 d.by_) := r10
    have HY : Hid (Dh n0 db { d with fr := -1 } sv wv W2.drew ∧ Du db sv wv sv wv w W2.drew ∧ MsgAt mb m W2.drew ∧ Li s1 d.sh W2.drew ∧ sv = slV s1) := ⟨HX.out.1.below hdw, HX.out.2.1.trans (Du.of_below hdw), HX.out.2.2.below hdw, hLi.below hdw, hs1⟩
    have HBi : Hid (∀ w', Below W2.drew.heap.size W2.drew w' → Below W2.drew.heap.size W2.drew (w'.alloc (.cells #[.int .i64 d.by_] 3))) := fun w' hb => hb.trans ((below_alloc w' _).mono hb.size)
    clear hdw hLi hs1 HX
    have e8 : W2.drew.heap.size = W2.heap.size := rfl
    have hlen : d.sh.length ≤ 4090 := HK.out.2.1
    have hbR : Below W2.drew.heap.size W2.drew W2.drew := Below.refl _ _
    have hbA := below_alloc W2.drew (.cells #[.int .i64 d.by_] 3)
    have hA0 := World.news_of_block (cs := #[Value.int .i64 d.by_]) (heap_alloc_last W2.drew (.cells #[.int .i64 d.by_] 3))
    have HIn : Hid (∀ w', Below W2.drew.heap.size W2.drew w' → Calls Try.prog 37 #[slV s1] w' fun e w'' => ∃ v, e = .returned v ∧ On w'.heap.size v d.sh w'' ∧ Below w'.heap.size w' w'') := fun w' hb => ints_any s1 d.sh w' (HY.out.2.2.2.1.below hb)
    obtain ⟨ti, hti, hzz⟩ := Option.map_eq_some_iff.1 infoI
    simp only [Prod.mk.injEq] at hzz
    obtain ⟨hz0, hz1, hz2⟩ := hzz
    have hHAr : (W2.drew.alloc (.cells #[.int .i64 d.by_] 3)).heap[W2.drew.heap.size]? = some (.cells #[.int .i64 d.by_] 3) := heap_alloc_last W2.drew _
    have HHA : Hid (_ ∧ _) := ⟨hHAr, hbA⟩
    clear hHAr hA0
    refine wp_region_noPanic ?_
    refine wp_region_last2 (fun w' => w'.cell? ⟨db, 7, none⟩ = some (slV s1) ∧ w'.cell? ⟨db, 10, none⟩ = some (.int .i64 d.by_)) 15 _ (by kernel_rfl) rfl rfl (by kernel_rfl) ⟨r7, r10⟩ (fun hHeld => ?_)
    refine wpAnyH_take (i := 0) (oi := _) (v := ?_) rfl (by kernel_rfl) (by kernel_rfl) (by kernel_rfl) (fun _ _ _ h => h) (Or.inl ⟨by rfl, ?_⟩) (by assumption) ?_
    rotate_left
    · intro w hSw
      (try dsimp only at hSw)
      obtain ⟨hS1, hS2⟩ := hSw
      go_simp
      (try with_reducible rfl)
    (try simp only [Act.put, List.setIfInBounds_toArray, List.set_cons_zero, List.set_cons_succ, List.getElem_toArray, List.getElem_cons_zero, List.getElem_cons_succ])
    refine wpAnyH_take (i := 1) (oi := _) (v := ?_) rfl (by kernel_rfl) (by kernel_rfl) (by kernel_rfl) (fun _ _ _ h => h) (Or.inl ⟨by rfl, ?_⟩) (by assumption) ?_
    rotate_left
    · intro w hSw
      (try dsimp only at hSw)
      obtain ⟨hS1, hS2⟩ := hSw
      go_simp
      (try with_reducible rfl)
    (try simp only [Act.put, List.setIfInBounds_toArray, List.set_cons_zero, List.set_cons_succ, List.getElem_toArray, List.getElem_cons_zero, List.getElem_cons_succ])
    refine wpAnyH_take (i := 2) (oi := _) (v := ?_) rfl (by kernel_rfl) (by kernel_rfl) (by kernel_rfl) (fun _ _ _ h => h) (Or.inl ⟨by rfl, ?_⟩) (by assumption) ?_
    rotate_left
    · intro w hSw
      (try dsimp only at hSw)
      obtain ⟨hS1, hS2⟩ := hSw
      go_simp
      (try with_reducible rfl)
    (try simp only [Act.put, List.setIfInBounds_toArray, List.set_cons_zero, List.set_cons_succ, List.getElem_toArray, List.getElem_cons_zero, List.getElem_cons_succ])
    refine wpAnyH_take (i := 3) (oi := _) (v := ?_) rfl (by kernel_rfl) (by kernel_rfl) (by kernel_rfl) (fun _ _ _ h => h) (Or.inl ⟨by rfl, ?_⟩) (by assumption) ?_
    rotate_left
    · intro w hSw
      (try dsimp only at hSw)
      obtain ⟨hS1, hS2⟩ := hSw
      go_simp
      (try with_reducible rfl)
    (try simp only [Act.put, List.setIfInBounds_toArray, List.set_cons_zero, List.set_cons_succ, List.getElem_toArray, List.getElem_cons_zero, List.getElem_cons_succ])
    refine wpAnyH_take (i := 4) (oi := _) (v := ?_) rfl (by kernel_rfl) (by kernel_rfl) (by kernel_rfl) (fun _ _ _ h => h) (Or.inl ⟨by rfl, ?_⟩) (by assumption) ?_
    rotate_left
    · intro w hSw
      (try dsimp only at hSw)
      obtain ⟨hS1, hS2⟩ := hSw
      go_simp
      (try with_reducible rfl)
    (try simp only [Act.put, List.setIfInBounds_toArray, List.set_cons_zero, List.set_cons_succ, List.getElem_toArray, List.getElem_cons_zero, List.getElem_cons_succ])
    refine wpAnyH_take (i := 6) (oi := _) (v := ?_) rfl (by kernel_rfl) (by kernel_rfl) (by kernel_rfl) (fun _ _ _ h => h) (Or.inl ⟨by rfl, ?_⟩) (by assumption) ?_
    rotate_left
    · intro w hSw
      (try dsimp only at hSw)
      obtain ⟨hS1, hS2⟩ := hSw
      go_simp
      (try with_reducible rfl)
    (try simp only [Act.put, List.setIfInBounds_toArray, List.set_cons_zero, List.set_cons_succ, List.getElem_toArray, List.getElem_cons_zero, List.getElem_cons_succ])
    refine wpAnyH_take (i := 7) (oi := _) (v := ?_) rfl (by kernel_rfl) (by kernel_rfl) (by kernel_rfl) (fun _ _ _ h => h) (Or.inl ⟨by rfl, ?_⟩) (by assumption) ?_
    rotate_left
    · intro w hSw
      (try dsimp only at hSw)
      obtain ⟨hS1, hS2⟩ := hSw
      go_simp
      (try with_reducible rfl)
    (try simp only [Act.put, List.setIfInBounds_toArray, List.set_cons_zero, List.set_cons_succ, List.getElem_toArray, List.getElem_cons_zero, List.getElem_cons_succ])
    refine wpAnyH_take (i := 8) (oi := _) (v := ?_) rfl (by kernel_rfl) (by kernel_rfl) (by kernel_rfl) (fun _ _ _ h => h) (Or.inl ⟨by rfl, ?_⟩) (by assumption) ?_
    rotate_left
    · intro w hSw
      (try dsimp only at hSw)
      obtain ⟨hS1, hS2⟩ := hSw
      go_simp
      (try with_reducible rfl)
    (try simp only [Act.put, List.setIfInBounds_toArray, List.set_cons_zero, List.set_cons_succ, List.getElem_toArray, List.getElem_cons_zero, List.getElem_cons_succ])
    refine wpAnyH_take (i := 9) (oi := _) (v := ?_) rfl (by kernel_rfl) (by kernel_rfl) (by kernel_rfl) (fun _ _ _ h => h) (Or.inl ⟨by rfl, ?_⟩) (by assumption) ?_
    rotate_left
    · intro w hSw
      (try dsimp only at hSw)
      obtain ⟨hS1, hS2⟩ := hSw
      go_simp
      (try with_reducible rfl)
    (try simp only [Act.put, List.setIfInBounds_toArray, List.set_cons_zero, List.set_cons_succ, List.getElem_toArray, List.getElem_cons_zero, List.getElem_cons_succ])
    refine wpAnyH_ready (rs := [5, 10]) (by kernel_rfl) (by simp) ?_
    refine AllReadyH.cons (o := _) rfl (fun K' hK' => ?_) (AllReadyH.cons (o := _) rfl (fun K' hK' => ?_) AllReadyH.nil)
    · go_simp
      refine (HIn.out W2.drew hbR).mono ?_
      rintro e w4 ⟨v4, rfl, ho4, hb4⟩
      dsimp only
      refine hK'.out _ _ ⟨(HY.out.1.below (hb4)).c 7 (by decide) |>.trans (by rw [HY.out.2.2.2.2]; rfl), (HY.out.1.below (hb4)).c 10 (by decide)⟩ (fun hHeld => ?_)
      clear hK' K'
      (try simp only [Act.put, List.setIfInBounds_toArray, List.set_cons_zero, List.set_cons_succ, List.getElem_toArray, List.getElem_cons_zero, List.getElem_cons_succ])
      refine wpAnyH_ready (rs := [10]) (by kernel_rfl) (by simp) ?_
      refine AllReadyH.cons (o := _) rfl (fun K' hK' => ?_) AllReadyH.nil
      go_simp
      refine hK'.out _ _ ⟨(HY.out.1.below (hb4.trans ((below_alloc w4 _).mono hb4.size))).c 7 (by decide) |>.trans (by rw [HY.out.2.2.2.2]; rfl), (HY.out.1.below (hb4.trans ((below_alloc w4 _).mono hb4.size))).c 10 (by decide)⟩ (fun hHeld => ?_)
      clear hK' K'
      (try simp only [Act.put, List.setIfInBounds_toArray, List.set_cons_zero, List.set_cons_succ, List.getElem_toArray, List.getElem_cons_zero, List.getElem_cons_succ])
      refine wpAnyH_ready (rs := [11]) (by kernel_rfl) (by simp) ?_
      refine AllReadyH.cons (o := _) rfl (fun K' hK' => ?_) AllReadyH.nil
      refine step_lies _ 303 297 302 39 W2.drew.heap.size 3 ti (.int .i64 0) 1 8 Try.underlying39 hti hz0 hz1 hz2 rfl (by decide) v4 d.sh.length (inX d.sh) ?a1 ?a3 ⟨w4.heap.size, 0, none⟩ 1 1 [.int .i64 d.by_] ?a2 rfl ?a4 (oneI [d.by_]) (by decide) ?a6 ?a7 ?a8 ?_
      case a1 => rfl
      case a2 => rfl
      case a3 => exact On.below ho4 (below_alloc w4 _)
      case a4 => exact World.news_of_block (cs := #[Value.int .i64 d.by_]) (heap_alloc_last w4 (.cells #[.int .i64 d.by_] 3))
      case a6 => unfold maxLen; omega
      case a7 => omega
      case a8 => (have := hb4.size; have := HHA.out.2.size; simp at *; omega)
      intro gA cA wA hown8 hg8 hat8 hlt8
      have hLA : Li ⟨some ⟨gA, 0, none⟩, d.sh.length + 1, cA⟩ (d.sh ++ [d.by_]) wA := li_of_own (B := W2.drew.heap.size) (by rw [show inX (d.sh ++ [d.by_]) = inX d.sh ++ [.int .i64 d.by_] by simp [inX]]; exact hown8) (by rw [List.length_append]; rfl) (by omega)
      have hBA : Below W2.drew.heap.size W2.drew wA := (hb4.trans ((below_alloc w4 _).mono hb4.size)).grown hg8 (Nat.le_trans hb4.size (by simp)) (fun b e => (ho4.lt e).1)
      refine hK'.out _ _ ⟨(HY.out.1.below (hBA)).c 7 (by decide) |>.trans (by rw [HY.out.2.2.2.2]; rfl), (HY.out.1.below (hBA)).c 10 (by decide)⟩ (fun hHeld => ?_)
      clear hK' K'
      (try simp only [Act.put, List.setIfInBounds_toArray, List.set_cons_zero, List.set_cons_succ, List.getElem_toArray, List.getElem_cons_zero, List.getElem_cons_succ])
      refine wpAnyH_ready (rs := [12]) (by kernel_rfl) (by simp) ?_
      refine AllReadyH.cons (o := _) rfl (fun K' hK' => ?_) AllReadyH.nil
      go_simp
      refine (sorted_any ⟨some ⟨gA, 0, none⟩, d.sh.length + 1, cA⟩ (d.sh ++ [d.by_]) wA hLA).mono ?_
      rintro e w9 ⟨v9, rfl, ho9, hb9⟩
      dsimp only
      refine hK'.out _ _ ⟨(HY.out.1.below (hBA.trans (hb9.mono hBA.size))).c 7 (by decide) |>.trans (by rw [HY.out.2.2.2.2]; rfl), (HY.out.1.below (hBA.trans (hb9.mono hBA.size))).c 10 (by decide)⟩ (fun hHeld => ?_)
      clear hK' K'
      (try simp only [Act.put, List.setIfInBounds_toArray, List.set_cons_zero, List.set_cons_succ, List.getElem_toArray, List.getElem_cons_zero, List.getElem_cons_succ])
      refine wpAnyH_take (i := 13) (oi := _) (v := ?_) rfl (by kernel_rfl) (by kernel_rfl) (by kernel_rfl) (fun _ _ _ h => h) (Or.inl ⟨by rfl, ?_⟩) (by assumption) ?_
      rotate_left
      · intro w hSw
        (try dsimp only at hSw)
        obtain ⟨hS1, hS2⟩ := hSw
        go_simp
        (try with_reducible rfl)
      (try simp only [Act.put, List.setIfInBounds_toArray, List.set_cons_zero, List.set_cons_succ, List.getElem_toArray, List.getElem_cons_zero, List.getElem_cons_succ])
      refine wpAnyH_take (i := 14) (oi := _) (v := ?_) rfl (by kernel_rfl) (by kernel_rfl) (by kernel_rfl) (fun _ _ _ h => h) (Or.inl ⟨by rfl, ?_⟩) (by assumption) ?_
      rotate_left
      · intro w hSw
        (try dsimp only at hSw)
        obtain ⟨hS1, hS2⟩ := hSw
        go_simp
        (try with_reducible rfl)
      (try simp only [Act.put, List.setIfInBounds_toArray, List.set_cons_zero, List.set_cons_succ, List.getElem_toArray, List.getElem_cons_zero, List.getElem_cons_succ])
      refine wpAnyH_done (by kernel_rfl) ?_ _
      have hB9 := hBA.trans (hb9.mono hBA.size)
      have H9 := HY.out.1.below hB9
      have hvb : ∀ g, v9.ownBlock = some g → W2.drew.heap.size ≤ g := fun g e => Nat.le_trans hBA.size (ho9.lt e).1
      have hdb := HY.out.1.b.lt
      have h7 := H9.setS (ho9.base (Nat.le_trans (Nat.le_trans HY.out.1.n0 (Nat.le_of_lt hdb)) hBA.size)) (fun e => by have := hvb _ e; omega) w (Nat.le_trans HY.out.2.1.g.size hB9.size) (HY.out.2.1.trans (Du.of_below hB9)) (fun g e => Nat.le_trans HY.out.2.1.g.size (hvb g e))
      have m7 : MsgAt mb m (w9.setCell ⟨db, 7, none⟩ v9) := ((gsetCell w9 db 7 _).block mb (Nat.lt_of_lt_of_le HY.out.2.2.1.lt hB9.size) (fun e => HNE.out (by cases e; rfl))).trans (HY.out.2.2.1.below hB9)
      have t7 := H9.c 7 (by decide)
      have f7 := H9.b.fz 7
      dsimp only [dhF] at t7
      obtain ⟨a9, cap9, hv9, _⟩ := ho9.len
      generalize (W.srt (d.sh ++ [d.by_])).length = n9 at hv9
      subst hv9
      have HFIN : Hid (_ ∧ _ ∧ _) := ⟨h7.1, h7.2, m7⟩
      clear hB9 hvb hdb h7 m7 ho9
      refine lastQ_normal (o := _) rfl (fun K' hK' => ?_)
      go_simp
      refine hK'.out _ _ ?_
      clear hK' K'
      (try simp only [Act.put, List.setIfInBounds_toArray, List.set_cons_zero, List.set_cons_succ, List.getElem_toArray, List.getElem_cons_zero, List.getElem_cons_succ])
      refine NoPanic.normal ?_
      go_wp2
      go_meet
      case rel => exact ⟨_, HFIN.out.1, HFIN.out.2.1, HFIN.out.2.2⟩
    · go_simp
      refine hK'.out _ _ ⟨(HY.out.1.below (HHA.out.2)).c 7 (by decide) |>.trans (by rw [HY.out.2.2.2.2]; rfl), (HY.out.1.below (HHA.out.2)).c 10 (by decide)⟩ (fun hHeld => ?_)
      clear hK' K'
      (try simp only [Act.put, List.setIfInBounds_toArray, List.set_cons_zero, List.set_cons_succ, List.getElem_toArray, List.getElem_cons_zero, List.getElem_cons_succ])
      refine wpAnyH_ready (rs := [5]) (by kernel_rfl) (by simp) ?_
      refine AllReadyH.cons (o := _) rfl (fun K' hK' => ?_) AllReadyH.nil
      go_simp
      refine (HIn.out (W2.drew.alloc (.cells #[.int .i64 d.by_] 3)) HHA.out.2).mono ?_
      rintro e w4 ⟨v4, rfl, ho4, hb4⟩
      have hb5 := HHA.out.2.trans (hb4.mono HHA.out.2.size)
      dsimp only
      refine hK'.out _ _ ⟨(HY.out.1.below (hb5)).c 7 (by decide) |>.trans (by rw [HY.out.2.2.2.2]; rfl), (HY.out.1.below (hb5)).c 10 (by decide)⟩ (fun hHeld => ?_)
      clear hK' K'
      (try simp only [Act.put, List.setIfInBounds_toArray, List.set_cons_zero, List.set_cons_succ, List.getElem_toArray, List.getElem_cons_zero, List.getElem_cons_succ])
      refine wpAnyH_ready (rs := [11]) (by kernel_rfl) (by simp) ?_
      refine AllReadyH.cons (o := _) rfl (fun K' hK' => ?_) AllReadyH.nil
      refine step_lies _ 303 297 302 39 W2.drew.heap.size 3 ti (.int .i64 0) 1 8 Try.underlying39 hti hz0 hz1 hz2 rfl (by decide) v4 d.sh.length (inX d.sh) ?a1 ?a3 ⟨W2.drew.heap.size, 0, none⟩ 1 1 [.int .i64 d.by_] ?a2 rfl ?a4 (oneI [d.by_]) (by decide) ?a6 ?a7 ?a8 ?_
      case a1 => rfl
      case a2 => rfl
      case a3 => exact ho4.base HHA.out.2.size
      case a4 => exact World.news_of_block (cs := #[Value.int .i64 d.by_]) ((hb4.block _ (by simp)).trans HHA.out.1)
      case a6 => unfold maxLen; omega
      case a7 => omega
      case a8 => (have := hb4.size; have := HHA.out.2.size; simp at *; omega)
      intro gA cA wA hown8 hg8 hat8 hlt8
      have hLA : Li ⟨some ⟨gA, 0, none⟩, d.sh.length + 1, cA⟩ (d.sh ++ [d.by_]) wA := li_of_own (B := W2.drew.heap.size) (by rw [show inX (d.sh ++ [d.by_]) = inX d.sh ++ [.int .i64 d.by_] by simp [inX]]; exact hown8) (by rw [List.length_append]; rfl) (by omega)
      have hBA : Below W2.drew.heap.size W2.drew wA := hb5.grown hg8 hb5.size (fun b e => Nat.le_trans HHA.out.2.size (ho4.lt e).1)
      refine hK'.out _ _ ⟨(HY.out.1.below (hBA)).c 7 (by decide) |>.trans (by rw [HY.out.2.2.2.2]; rfl), (HY.out.1.below (hBA)).c 10 (by decide)⟩ (fun hHeld => ?_)
      clear hK' K'
      (try simp only [Act.put, List.setIfInBounds_toArray, List.set_cons_zero, List.set_cons_succ, List.getElem_toArray, List.getElem_cons_zero, List.getElem_cons_succ])
      refine wpAnyH_ready (rs := [12]) (by kernel_rfl) (by simp) ?_
      refine AllReadyH.cons (o := _) rfl (fun K' hK' => ?_) AllReadyH.nil
      go_simp
      refine (sorted_any ⟨some ⟨gA, 0, none⟩, d.sh.length + 1, cA⟩ (d.sh ++ [d.by_]) wA hLA).mono ?_
      rintro e w9 ⟨v9, rfl, ho9, hb9⟩
      dsimp only
      refine hK'.out _ _ ⟨(HY.out.1.below (hBA.trans (hb9.mono hBA.size))).c 7 (by decide) |>.trans (by rw [HY.out.2.2.2.2]; rfl), (HY.out.1.below (hBA.trans (hb9.mono hBA.size))).c 10 (by decide)⟩ (fun hHeld => ?_)
      clear hK' K'
      (try simp only [Act.put, List.setIfInBounds_toArray, List.set_cons_zero, List.set_cons_succ, List.getElem_toArray, List.getElem_cons_zero, List.getElem_cons_succ])
      refine wpAnyH_take (i := 13) (oi := _) (v := ?_) rfl (by kernel_rfl) (by kernel_rfl) (by kernel_rfl) (fun _ _ _ h => h) (Or.inl ⟨by rfl, ?_⟩) (by assumption) ?_
      rotate_left
      · intro w hSw
        (try dsimp only at hSw)
        obtain ⟨hS1, hS2⟩ := hSw
        go_simp
        (try with_reducible rfl)
      (try simp only [Act.put, List.setIfInBounds_toArray, List.set_cons_zero, List.set_cons_succ, List.getElem_toArray, List.getElem_cons_zero, List.getElem_cons_succ])
      refine wpAnyH_take (i := 14) (oi := _) (v := ?_) rfl (by kernel_rfl) (by kernel_rfl) (by kernel_rfl) (fun _ _ _ h => h) (Or.inl ⟨by rfl, ?_⟩) (by assumption) ?_
      rotate_left
      · intro w hSw
        (try dsimp only at hSw)
        obtain ⟨hS1, hS2⟩ := hSw
        go_simp
        (try with_reducible rfl)
      (try simp only [Act.put, List.setIfInBounds_toArray, List.set_cons_zero, List.set_cons_succ, List.getElem_toArray, List.getElem_cons_zero, List.getElem_cons_succ])
      refine wpAnyH_done (by kernel_rfl) ?_ _
      have hB9 := hBA.trans (hb9.mono hBA.size)
      have H9 := HY.out.1.below hB9
      have hvb : ∀ g, v9.ownBlock = some g → W2.drew.heap.size ≤ g := fun g e => Nat.le_trans hBA.size (ho9.lt e).1
      have hdb := HY.out.1.b.lt
      have h7 := H9.setS (ho9.base (Nat.le_trans (Nat.le_trans HY.out.1.n0 (Nat.le_of_lt hdb)) hBA.size)) (fun e => by have := hvb _ e; omega) w (Nat.le_trans HY.out.2.1.g.size hB9.size) (HY.out.2.1.trans (Du.of_below hB9)) (fun g e => Nat.le_trans HY.out.2.1.g.size (hvb g e))
      have m7 : MsgAt mb m (w9.setCell ⟨db, 7, none⟩ v9) := ((gsetCell w9 db 7 _).block mb (Nat.lt_of_lt_of_le HY.out.2.2.1.lt hB9.size) (fun e => HNE.out (by cases e; rfl))).trans (HY.out.2.2.1.below hB9)
      have t7 := H9.c 7 (by decide)
      have f7 := H9.b.fz 7
      dsimp only [dhF] at t7
      obtain ⟨a9, cap9, hv9, _⟩ := ho9.len
      generalize (W.srt (d.sh ++ [d.by_])).length = n9 at hv9
      subst hv9
      have HFIN : Hid (_ ∧ _ ∧ _) := ⟨h7.1, h7.2, m7⟩
      clear hB9 hvb hdb h7 m7 ho9
      refine lastQ_normal (o := _) rfl (fun K' hK' => ?_)
      go_simp
      refine hK'.out _ _ ?_
      clear hK' K'
      (try simp only [Act.put, List.setIfInBounds_toArray, List.set_cons_zero, List.set_cons_succ, List.getElem_toArray, List.getElem_cons_zero, List.getElem_cons_succ])
      refine NoPanic.normal ?_
      go_wp2
      go_meet
      case rel => exact ⟨_, HFIN.out.1, HFIN.out.2.1, HFIN.out.2.2⟩
  case rest =>
    obtain ⟨v9, hH9, hu9, hm9⟩ := hcut
    have HZ : Hid (_ ∧ _ ∧ _) := ⟨hH9, hu9, hm9⟩
    clear hH9 hu9 hm9 HX HK
    have c6 := HZ.out.1.c 6 (by decide)
    have f6 := HZ.out.1.b.fz 6
    have k2 : wc.cell? ⟨db, 2, none⟩ = some (.int .u32 d.e0) := HZ.out.1.c 2 (by decide)
    have k3 : wc.cell? ⟨db, 3, none⟩ = some (.int .u32 d.e1) := HZ.out.1.c 3 (by decide)
    have k4 : wc.cell? ⟨db, 4, none⟩ = some (.int .u32 d.e2) := HZ.out.1.c 4 (by decide)
    have k5 : wc.cell? ⟨db, 5, none⟩ = some (.int .u32 d.e3) := HZ.out.1.c 5 (by decide)
    have p2 : wc.cell? ⟨mb, 2, none⟩ = some (.int .i64 m.f) := HZ.out.2.2.cAt 2
    have p4 : wc.cell? ⟨mb, 4, none⟩ = some (.int .u32 m.d0) := HZ.out.2.2.cAt 4
    have p5 : wc.cell? ⟨mb, 5, none⟩ = some (.int .u32 m.d1) := HZ.out.2.2.cAt 5
    have p6 : wc.cell? ⟨mb, 6, none⟩ = some (.int .u32 m.d2) := HZ.out.2.2.cAt 6
    have p7 : wc.cell? ⟨mb, 7, none⟩ = some (.int .u32 m.d3) := HZ.out.2.2.cAt 7
    have p8 : wc.cell? ⟨mb, 8, none⟩ = some (.bool m.h) := HZ.out.2.2.cAt 8
    have p9 : wc.cell? ⟨mb, 9, none⟩ = some (.bool m.d) := HZ.out.2.2.cAt 9
    have ne1 := HNE.out
    have ne2 := ne1.symm
    cases hd : m.d
    case true =>
      rw [hd] at p9
      have HQ : Hid (W.dB d m = ({ d with fr := -1, sh := W.srt (d.sh ++ [d.by_]) }, [W.ddat d m.d0 m.d1 m.d2 m.d3 false false])) := by
        show W.dB d m = _
        unfold W.dB
        rw [if_pos hd]
      have HD : Hid (Calls _ _ _ _ _) := ddata_any (d := d) (HZ.out.1.c 0 (by decide)) (HZ.out.1.c 10 (by decide)) m.d0 m.d1 m.d2 m.d3 false false
      clear hd
      go_wp2_with (fail)
      refine HD.out.mono ?_
      rintro e w9 ⟨⟨sl, rfl, hm9, hap⟩, hb9⟩
      have HR : Hid (_) := Rsd.dat HZ.out.1 HZ.out.2.1 hm9 hap hb9
      clear hb9 HD hm9 hap c6 f6 k2 k3 k4 k5 p2 p4 p5 p6 p7 p8 p9
      go_wp2
      go_ret
      rw [HQ.out]
      exact HR.out
    case false =>
      rw [hd] at p9
      have h1 := HZ.out.1.put 6 (.int .i64 (-1)) { d with fr := -1, sh := W.srt (d.sh ++ [d.by_]), ow := -1 } (dupd_ow _ v9 wv (-1)) rfl rfl
      cases hh : m.h
      case false =>
        rw [hh] at p8
        have HQ : Hid (W.dB d m = ({ d with fr := -1, ow := -1, sh := W.srt (d.sh ++ [d.by_]) }, [W.ddat d d.e0 d.e1 d.e2 d.e3 false false])) := by
          show W.dB d m = _
          unfold W.dB
          rw [if_neg (by simp [hd]), if_neg (by simp [hh])]
        have HY : Hid (_ ∧ _) := ⟨h1.1, HZ.out.2.1.trans h1.2⟩
        have HD : Hid (Calls _ _ _ _ _) := ddata_any (d := d) (h1.1.c 0 (by decide)) (h1.1.c 10 (by decide)) d.e0 d.e1 d.e2 d.e3 false false
        clear hd hh h1
        go_wp2_with (fail)
        refine HD.out.mono ?_
        rintro e w9 ⟨⟨sl, rfl, hm9, hap⟩, hb9⟩
        have HR : Hid (_) := Rsd.dat HY.out.1 HY.out.2 hm9 hap hb9
        clear hb9 HD hm9 hap c6 f6 k2 k3 k4 k5 p2 p4 p5 p6 p7 p8 p9
        go_wp2
        go_ret
        rw [HQ.out]
        exact HR.out
      case true =>
        rw [hh] at p8
        have HQ : Hid (W.dB d m = ({ d with fr := -1, ow := -1, sh := W.srt (W.srt (d.sh ++ [d.by_]) ++ [m.f]) }, [W.ddat d m.d0 m.d1 m.d2 m.d3 false false])) := by
          show W.dB d m = _
          unfold W.dB
          rw [if_neg (by simp [hd]), if_pos hh]
        obtain ⟨s1, hs1, hLi⟩ := h1.1.os.li (by show (W.srt (d.sh ++ [d.by_])).length ≤ 4096; have := W.srt_len2 d.sh d.by_; have := HL9.out; omega)
        have HY : Hid (_ ∧ _ ∧ MsgAt mb m _) := ⟨h1.1, HZ.out.2.1.trans h1.2, HZ.out.2.2.below2 h1.2 HNE.out⟩
        have c7 : wc.cell? ⟨db, 7, none⟩ = some (slV s1) := by rw [← hs1]; exact HZ.out.1.c 7 (by decide)
        have hlen : (W.srt (d.sh ++ [d.by_])).length ≤ 4092 := by have := W.srt_len2 d.sh d.by_; have := HL9.out; omega
        have HI : Hid (Calls _ _ _ _ _) := ints_any s1 _ _ hLi
        clear hd hh h1 hs1 hLi
        have hT : ({ d with fr := -1, sh := W.srt (d.sh ++ [d.by_]), ow := -1 } : W.Dm).sh = W.srt (d.sh ++ [d.by_]) := rfl
        rw [hT] at HI
        clear hT
        go_wp2_with (fail)
        refine HI.out.mono ?_
        rintro e w3 ⟨v3, rfl, ho3, hb3⟩
        clear HI
        generalize World.setCell wc _ _ = W4 at *
        have hba := below_alloc w3 (.cells #[.int .i64 m.f] 3)
        have hb4 := hb3.trans (hba.mono hb3.size)
        have HO4 : Hid (On W4.heap.size v3 (W.srt (d.sh ++ [d.by_])) (w3.alloc (.cells #[.int .i64 m.f] 3)) ∧ Below W4.heap.size W4 (w3.alloc (.cells #[.int .i64 m.f] 3)) ∧ _) := ⟨ho3.below hba, hb4, World.news_of_block (cs := #[Value.int .i64 m.f]) (heap_alloc_last w3 (.cells #[.int .i64 m.f] 3))⟩
        have hsz : W4.heap.size ≤ w3.heap.size + 1 := by have := hb3.size; omega
        obtain ⟨ti, hti, hzz⟩ := Option.map_eq_some_iff.1 infoI
        simp only [Prod.mk.injEq] at hzz
        obtain ⟨hz0, hz1, hz2⟩ := hzz
        have p2' : w3.cell? ⟨mb, 2, none⟩ = some (.int .i64 m.f) := (HY.out.2.2.below hb3).cAt 2
        clear ho3 hb3 hba hb4 p2 c6 f6 k2 k3 k4 k5 p4 p5 p6 p7 p8 p9 c7
        generalize hTT : W.srt (d.sh ++ [d.by_]) = T at *
        go_wp2_with (at_builtin; refine wpList_append_lies _ rfl _ _ 39 rfl W4.heap.size 3 ti (.int .i64 0) 1 8 Try.underlying39 hti hz0 hz1 hz2 rfl (by decide) v3 T.length (inX T) rfl HO4.out.1 ⟨w3.heap.size, 0, none⟩ 1 1 [.int .i64 m.f] rfl rfl HO4.out.2.2 (oneI [m.f]) (by decide) (by unfold maxLen; omega) (by omega) (by simp; omega) (w3.heap.size + 1) (by simp) ?_; intro g' cap' w8 hown8 hg8 hat8 hlt8)
        have hL8 : Li ⟨some ⟨g', 0, none⟩, T.length + 1, cap'⟩ (T ++ [m.f]) w8 := li_of_own (B := W4.heap.size) (by rw [show inX (T ++ [m.f]) = inX T ++ [.int .i64 m.f] by simp [inX]]; exact hown8) (by rw [List.length_append]; rfl) (by omega)
        have hB8 : Below W4.heap.size W4 w8 := HO4.out.2.1.grown hg8 HO4.out.2.1.size (fun b e => (HO4.out.1.lt e).1)
        have HB8 : Hid (_) := hB8
        clear hB8 hown8 hg8 hat8 hlt8 HO4 hsz
        refine (sorted_any ⟨some ⟨g', 0, none⟩, T.length + 1, cap'⟩ (T ++ [m.f]) w8 hL8).mono ?_
        rintro e w9 ⟨v5, rfl, ho9, hb9⟩
        have hB9 := HB8.out.trans (hb9.mono HB8.out.size)
        have H9 := HY.out.1.below hB9
        have hdb := HY.out.1.b.lt
        have hw9 : n0 ≤ w8.heap.size := Nat.le_trans (Nat.le_trans HY.out.1.n0 (Nat.le_of_lt hdb)) HB8.out.size
        have hdl : ∀ g, v5.ownBlock = some g → W4.heap.size ≤ g := fun g e => Nat.le_trans HB8.out.size (ho9.lt e).1
        have hu9 := HY.out.2.1.trans (Du.of_below (sv := v9) (wv := wv) (db := db) hB9)
        have t7 := H9.c 7 (by decide)
        have f7 := H9.b.fz 7
        dsimp only [dhF] at t7
        have hg := gsetCell w9 db 7 v5
        have h7 : Dh n0 db { d with fr := -1, ow := -1, sh := W.srt (T ++ [m.f]) } v5 wv (w9.setCell ⟨db, 7, none⟩ v5) ∧ Du db sv wv v5 wv w (w9.setCell ⟨db, 7, none⟩ v5) := by
          refine ⟨⟨(H9.b.set 7 _).congr fun i _ => ?_, (ho9.base hw9).keep hg (fun g e q => by cases q; have := hdl _ e; omega), H9.oa.keep hg (fun g e q => H9.an (by cases q; exact e)), fun e => by have := hdl _ e; omega, H9.an, H9.n0⟩, ⟨hu9.g.trans (Gs.of_grown hg (fun b e => by cases e; rfl)), fun g e => Or.inr (Nat.le_trans HY.out.2.1.g.size (hdl g e)), hu9.fa⟩⟩
          unfold updV
          by_cases e : i = 7
          · subst e; rfl
          · rw [if_neg e]
            unfold dhF
            split <;> first | rfl | exact absurd rfl e
        have m7 : MsgAt mb m (w9.setCell ⟨db, 7, none⟩ v5) := (hg.block mb (Nat.lt_of_lt_of_le HY.out.2.2.lt hB9.size) (fun e => HNE.out (by cases e; rfl))).trans (HY.out.2.2.below hB9)
        obtain ⟨a9, cap9, hv9, hc9⟩ := ho9.len
        have HH : Hid (_ ∧ _ ∧ _) := ⟨h7.1, h7.2, m7⟩
        have HD : Hid (Calls _ _ _ _ _) := ddata_any (d := d) (h7.1.c 0 (by decide)) (h7.1.c 10 (by decide)) m.d0 m.d1 m.d2 m.d3 false false
        generalize (W.srt (T ++ [m.f])).length = n9 at hv9 hc9
        subst hv9
        clear h7 hu9 hw9 H9 hB9 hb9 ho9 hdl p2' m7 hg hL8
        go_upto_region 63 with fail
        clear t7 f7
        generalize World.setCell w9 _ _ = W8 at *
        have p4 : W8.cell? ⟨mb, 4, none⟩ = some (.int .u32 m.d0) := HH.out.2.2.cAt 4
        have p5 : W8.cell? ⟨mb, 5, none⟩ = some (.int .u32 m.d1) := HH.out.2.2.cAt 5
        have p6 : W8.cell? ⟨mb, 6, none⟩ = some (.int .u32 m.d2) := HH.out.2.2.cAt 6
        have p7 : W8.cell? ⟨mb, 7, none⟩ = some (.int .u32 m.d3) := HH.out.2.2.cAt 7
        go_wp2_with (fail)
        refine HD.out.mono ?_
        rintro e w10 ⟨⟨sl, rfl, hm10, hap⟩, hb10⟩
        have HR : Hid (_) := Rsd.dat HH.out.1 HH.out.2.1 hm10 hap hb10
        clear hb10 HD hm10 hap p4 p5 p6 p7
        go_wp2
        go_ret
        rw [HQ.out]
        exact HR.out
end Go.Proofs.Ythkielaicnmaeaa
