/- home: getM. -/
import Derived.Test.YtadkpelcbnljbaaHomO0
import Derived.Test.YtadkpelcbnljbaaHomK
import Derived.Deep.CutRange
import Derived.Deep.CutBlock
namespace Go.Proofs.Ytadkpelcbnljbaa
open Go.ChangeShapes Go.WideShapes Go.ChangeAt Go.RowKit
set_option linter.unusedVariables false
set_option linter.unusedSimpArgs false
attribute [local go_sem ↓] ldM_eq stM_eq bdM_eq bsM_eq
variable {n0 hb : Nat} {s s' : W.Hm} {sv av sv' av' sv'' av'' : Value} {w w' w'' : World}

theorem On.far {b B : Nat} {v : Value} {l : List Int} (h : On b v l w) (hl : ∀ g, v.ownBlock = some g → g < B) (hb : Below B w w') : On b v l w' := by
  refine ⟨h.1, ?_⟩
  rcases h.2 with h1 | ⟨g, cap, cur, h1, h2, h3, h4⟩
  · exact Or.inl h1
  · exact Or.inr ⟨g, cap, cur, h1, h2, (hb.block g (hl g (by rw [h1]; rfl))).trans h3, h4⟩
/-- The home's blocks lie below B. -/
def Hlo (hb : Nat) (sv av : Value) (B : Nat) : Prop := hb < B ∧ (∀ g, sv.ownBlock = some g → g < B) ∧ ∀ g, av.ownBlock = some g → g < B
theorem Hlo.pt {B b : Nat} (h : Hlo hb sv av B) (hb2 : B ≤ b) : Hpt hb sv av b := ⟨by have := h.1; omega, fun e => by have := h.2.1 b e; omega, fun e => by have := h.2.2 b e; omega⟩
theorem Ho.lo (H : Ho n0 hb s sv av w) : Hlo hb sv av w.heap.size := ⟨H.b.lt, fun g e => (H.os.lt e).2, fun g e => (H.oa.lt e).2⟩
theorem Ho.far (H : Ho n0 hb s sv av w) {B : Nat} (hl : Hlo hb sv av B) (h : Below B w w') : Ho n0 hb s sv av w' :=
  ⟨⟨Nat.lt_of_lt_of_le H.b.lt h.size, fun j hj => (World.cell?_of_block (a := ⟨hb, j, none⟩) (h.block hb hl.1)).trans (H.b.c j hj), fun j => (World.frozen?_of_block (a := ⟨hb, j, none⟩) (h.block hb hl.1)).trans (H.b.fz j)⟩, H.os.far hl.2.1 h, H.oa.far hl.2.2 h, H.sn, H.an, H.sa, H.n0⟩
theorem Hu.far (h : Hu hb sv av sv' av' w w') {B : Nat} (hb2 : Below B w' w'') (hB : w.heap.size ≤ B) : Hu hb sv av sv' av' w w'' :=
  ⟨⟨hb2.os.trans h.g.os, hb2.tape.trans h.g.tape, hb2.output.trans h.g.output, Nat.le_trans h.g.size hb2.size, fun b hb hn => (hb2.block b (by omega)).trans (h.g.block b hb hn)⟩, h.fs, h.fa⟩
def zMg : Array Value := (mgL W.mg0).toArray
theorem infoMg : (Try.prog.info? 35).map (fun i => (i.zero, i.size, i.bytes)) = some (some (.agg zMg), 11, 56) := by kernel_rfl
theorem MsgAt.news {b : Nat} {m : W.Mg} {w : World} (h : MsgAt b m w) : ∀ j u, (mgL m)[j]? = some u → w.cell? ((⟨b, 0, none⟩ : Addr).add j) = some u := World.news_of_block (cs := (mgL m).toArray) h
theorem append_nilM (t ty : TypeId) (w : World) (ht : Try.prog.underlying t = some (.slice 35)) (a : Option Addr) (n cap : Nat) (hc : n ≤ cap) (b : Option Addr) (c : Nat) : (Builtin.append_ #[t, t] ty #[.slice a n cap, .slice b 0 c]).run Try.prog w = .ok (.slice a n cap) w := by
  obtain ⟨i, hi, hzz⟩ := Option.map_eq_some_iff.1 infoMg
  cases b <;> cases a <;> simp [Builtin.append_, run_underlying ht, sizeOf, typeInfo, hi, Builtin.lenOf, hc, Builtin.firstCells, storeCells, loadCells, loadCellsFrom]
theorem own_wait0 (H : Ho n0 hb s sv av w) (hw : W.wt s = true) : Calls Try.prog 31 #[.pointer (some ⟨hb, 0, none⟩)] w fun e w' => e = .returned (.slice none 0 0) ∧ w = w' := by
  have HW : Hid (Calls _ _ _ _ _) := waits_any H
  rw [hw] at HW
  clear H hw
  go_enter Try.func31, Try.ntmps31
  go_wp2_with (fail)
  refine HW.out.mono ?_
  rintro e w' ⟨rfl, rfl⟩
  go_wp2
  go_ret
  exact ⟨rfl, rfl⟩

theorem below_grown {B : Nat} {r : Option Nat} (hg : w.grownBy w' r) (hB : B ≤ w.heap.size) (hr : ∀ b, r = some b → B ≤ b) : Below B w w' :=
  ⟨hg.os, hg.tape, hg.output, hg.size, fun k hk => hg.block k (Nat.lt_of_lt_of_le hk hB) (fun e => by have := hr k e.symm; omega)⟩
theorem Om.form {b : Nat} {v : Value} {L : List W.Mg} (h : Om b v L w) (hn : L ≠ []) : ∃ g cap, v = .slice (some ⟨g, 0, none⟩) L.length cap := by
  rcases h.2 with ⟨_, h2⟩ | ⟨g', cap', cur, h1, _⟩
  · exact absurd (List.eq_nil_of_length_eq_zero h2) hn
  · exact ⟨g', cap', h1⟩
theorem Om.keep {b : Nat} {v : Value} {L : List W.Mg} {r : Option Nat} (h : Om b v L w) (hg : w.grownBy w' r) (hne : ∀ g, v.ownBlock = some g → r ≠ some g) : Om b v L w' :=
  World.ownsRow.kept h hg (by
    cases e : v.ownBlock with
    | none => exact Or.inl rfl
    | some g => exact Or.inr (fun q => hne g e q.symm))
theorem Om.nc {b g n cap : Nat} {L : List W.Mg} (h : Om b (.slice (some ⟨g, 0, none⟩) n cap) L w) : n ≤ cap ∧ b ≤ g ∧ n = L.length := by
  rcases h.2 with ⟨h1, _⟩ | ⟨g', cap', cur, h1, hbg, _, hnc, _⟩
  · cases h1
  · cases h1
    exact ⟨hnc, hbg, rfl⟩
theorem ms_om {v : Value} {L : List W.Mg} {b : Nat} (ho : Om b v L w) (hm : L.length ≤ 4096) : ∃ s, v = slV s ∧ Ms s L w ∧ ∀ g o, s.a = some ⟨g, o, none⟩ → b ≤ g := by
  have HO : w.ownsRow b 35 11 v L.length (mgX L) := ho
  rcases ho.2 with ⟨h1, h2⟩ | ⟨g, cap, cur, h1, hbg, hg, hnc, hcm, hcs, htk⟩
  · refine ⟨W.Sl.nil, h1, ⟨h2.symm, by show 0 ≤ 4096; omega, Nat.le_refl _, fun h => absurd h (by show ¬ 0 < 0; omega)⟩, fun b o e => by cases e⟩
  · subst h1
    refine ⟨⟨some ⟨g, 0, none⟩, L.length, cap⟩, rfl, ⟨rfl, hm, hnc, fun _ => ⟨g, 0, rfl, (Array.getElem?_eq_some_iff.1 hg).1, fun j x hx i v hv => ?_⟩⟩, fun b o e => by cases e; exact hbg⟩
    have hi : i < 11 := (List.getElem?_eq_some_iff.1 hv).1
    have hj : j < L.length := (List.getElem?_eq_some_iff.1 hx).1
    rw [Nat.zero_add, HO.cellAt (j * 11 + i) (by omega), mgX_get L j i x hx hi]
    exact hv
theorem ms_omS {v : Value} {L : List W.Mg} {b : Nat} (ho : Om b v L w) (hm : L.length ≤ 4096) : ∃ s, v = slV s ∧ Ms s L w ∧ ∀ g o, s.a = some ⟨g, o, none⟩ → b ≤ g ∧ w.there g (o + s.n * 11) ((s.c - s.n) * 11) := by
  have HO : w.ownsRow b 35 11 v L.length (mgX L) := ho
  rcases ho.2 with ⟨h1, h2⟩ | ⟨g, cap, cur, h1, hbg, hg, hnc, hcm, hcs, htk⟩
  · refine ⟨W.Sl.nil, h1, ⟨h2.symm, by show 0 ≤ 4096; omega, Nat.le_refl _, fun h => absurd h (by show ¬ 0 < 0; omega)⟩, fun b o e => by cases e⟩
  · subst h1
    refine ⟨⟨some ⟨g, 0, none⟩, L.length, cap⟩, rfl, ⟨rfl, hm, hnc, fun _ => ⟨g, 0, rfl, (Array.getElem?_eq_some_iff.1 hg).1, fun j x hx i v hv => ?_⟩⟩, fun b o e => by cases e; exact ⟨hbg, there_row hg hcs⟩⟩
    have hi : i < 11 := (List.getElem?_eq_some_iff.1 hv).1
    have hj : j < L.length := (List.getElem?_eq_some_iff.1 hx).1
    rw [Nat.zero_add, HO.cellAt (j * 11 + i) (by omega), mgX_get L j i x hx hi]
    exact hv
set_option maxRecDepth 10000 in
set_option maxHeartbeats 1600000 in
theorem getM_any (H : Ho n0 hb s sv av w) (HOK : W.Hok s) (hi : s.sv = -1) (r : Int) (h0 : 0 ≤ r) (h1 : r < s.hs) : Calls Try.prog 28 #[.pointer (some ⟨hb, 0, none⟩), .int .i64 r] w fun e w' => Res n0 hb (W.gM s r) sv av w e w' := by
  have HU : Hid (W.Up1 s.sh ∧ s.sh.length ≤ 4096) := ⟨HOK.us, Nat.le_trans HOK.lens (by decide)⟩
  have HKK : Hid (W.Hok s) := HOK
  have c8 : w.cell? ⟨hb, 8, none⟩ = some (.int .i64 s.sv) := H.c 8 (by decide)
  have c9 : w.cell? ⟨hb, 9, none⟩ = some (.int .i64 s.b_) := H.c 9 (by decide)
  have f8 := H.b.fz 8
  have f9 := H.b.fz 9
  have c7 : w.cell? ⟨hb, 7, none⟩ = some sv := H.c 7 (by decide)
  have g1 := H.put 8 (.int .i64 r) { s with sv := r } (upd_sv s sv av r) rfl rfl
  have g2 := g1.1.put 9 (.int .i64 2) { s with sv := r, b_ := 2 } (upd_by _ sv av 2) rfl rfl
  have HP : Hid (_ ∧ _) := ⟨g2.1, g1.2.trans g2.2⟩
  have HC : Hid (Calls _ _ _ _ _) := clone_any n0 sv s.sh HU.out.2 _ g2.1.os
  clear H HOK g1 g2
  go_enter Try.func28, Try.ntmps28
  go_wp2_with (fail)
  refine HC.out.mono ?_
  rintro e w1 ⟨⟨t, rfl, ho⟩, hb1⟩
  have HB1 : Hid (_ ∧ _) := ⟨ho, hb1⟩
  clear c8 c9 f8 f9 c7 ho hb1 HC
  generalize World.setCell (World.setCell w _ _) _ _ = W0 at *
  go_wp2_with (fail)
  refine (without_any _ t s.sh r HU.out.1 HU.out.2 w1 HB1.out.1).mono ?_
  rintro e w2 ⟨v2, rfl, ho2, hg2, hv2⟩
  have hb2 : Below W0.heap.size W0 w2 := HB1.out.2.grown hg2 HB1.out.2.size (fun k e => (HB1.out.1.lt e).1)
  have hsz0 : n0 ≤ W0.heap.size := Nat.le_trans HP.out.1.n0 (Nat.le_of_lt HP.out.1.b.lt)
  have HA := HP.out.1.setA (gbelow hb2 _) (ho2.base hsz0) (Or.inr fun g e => (ho2.lt e).1)
  have hB2 := HP.out.1.below hb2
  have c10 := hB2.c 10 (by decide)
  have f10 := hB2.b.fz 10
  dsimp only [hoF] at c10
  have HA : Hid (Ho n0 hb { s with sv := r, b_ := 2, ac := W.wo s.sh r } sv v2 (w2.setCell ⟨hb, 10, none⟩ v2) ∧ Hu hb sv av sv v2 w (w2.setCell ⟨hb, 10, none⟩ v2)) := ⟨HA.1, HP.out.2.trans HA.2⟩
  obtain ⟨a2, cap2, hv2', hcap2⟩ := ho2.len
  have HNl : Hid ((W.wo s.sh r).length ≤ 4096) := Nat.le_trans (W.wo_len _ _) HU.out.2
  clear hb2 hsz0 hB2 ho2 hg2 hv2 HB1 HP
  generalize hN : (W.wo s.sh r).length = N at hv2' hcap2 HNl
  have HN : Hid ((W.wo s.sh r).length = N) := hN
  have HNs : Hid (N ≤ 4) := by have h1 := W.wo_len s.sh r; have h2 := HKK.out.lens; show N ≤ 4; omega
  subst hv2'
  clear hN
  go_upto_region 3 with fail
  clear c10 f10
  generalize World.setCell w2 _ _ = W3 at *
  have c10 : W3.cell? ⟨hb, 10, none⟩ = some (.slice a2 N cap2) := HA.out.1.c 10 (by decide)
  have hN63 : (N : Int) ≤ 4096 := by have := HNl.out; omega
  have HB : Hid (w.heap.size ≤ W3.heap.size ∧ n0 ≤ W3.heap.size ∧ Hlo hb sv (.slice a2 N cap2) W3.heap.size) := ⟨HA.out.2.g.size, Nat.le_trans HA.out.1.n0 (Nat.le_of_lt HA.out.1.b.lt), HA.out.1.lo⟩
  clear w2 w1
  go_wp2_with (fail)
  go_loopw [5, 30] (fun v i wr => ∃ j : Nat, j ≤ N ∧ i = .int .i64 j ∧ Om W3.heap.size v (((W.wo s.sh r).take j).map (fun k => W.msg s 4 k)) wr ∧ Below W3.heap.size W3 wr ∧ (j = 0 → v = .slice none 0 0)) (fun _ i _ => N - (intOf i).toNat)
  case atStart => exact ⟨0, by omega, rfl, Om.nil _ _, Below.refl _ _, fun _ => rfl⟩
  case round =>
    obtain ⟨j, hj, rfl, hO, hb, hz⟩ := hrel
    have HL : Hid (_ ∧ _ ∧ _) := ⟨hO, hb, hz⟩
    clear hO hb hz
    by_cases hlt : j < N
    · have hltI : (j : Int) < N := by omega
      have hlw : j < (W.wo s.sh r).length := by rw [HN.out]; exact hlt
      obtain ⟨k, hk⟩ : ∃ k, (W.wo s.sh r)[j]? = some k := ⟨_, List.getElem?_eq_getElem hlw⟩
      obtain ⟨g, rfl, hgl, ck⟩ : ∃ g, a2 = some ⟨g, 0, none⟩ ∧ g < W3.heap.size ∧ W3.cell? ⟨g, j, none⟩ = some (.int .i64 k) := by
        rcases HA.out.1.oa.form with ⟨e1, e2⟩ | ⟨g, cap, e1, e2, e3, e4, e5, e6⟩
        · dsimp only at e2
          rw [e2] at hk; simp at hk
        · exact ⟨g, by cases e1; rfl, e3, e6 j k hk⟩
      have ck : wr.cell? ⟨g, j, none⟩ = some (.int .i64 k) := (HL.out.2.1.cell (p := ⟨g, j, none⟩) hgl).trans ck
      have hlen : (((W.wo s.sh r).take j).map (fun k => W.msg s 4 k)).length = j := by rw [List.length_map, List.length_take]; omega
      have htk : ((W.wo s.sh r).take (j + 1)).map (fun k => W.msg s 4 k) = ((W.wo s.sh r).take j).map (fun k => W.msg s 4 k) ++ [W.msg s 4 k] := by
        rw [List.take_succ_eq_append_getElem hlw, show (W.wo s.sh r)[j] = k from Option.some.inj ((List.getElem?_eq_getElem hlw).symm.trans hk), List.map_append]
        rfl
      have HT : Hid (_ ∧ _) := ⟨hlen, htk⟩
      have HMs : Hid (Calls _ _ _ _ _) := msg_any (s := s) ((HA.out.1.far HB.out.2.2 HL.out.2.1).c 0 (by decide)) 4 k
      clear hlen htk hlw hk hgl
      generalize ((W.wo s.sh r).take j).map (fun k => W.msg s 4 k) = T at *
      go_wp2_with (fail)
      refine HMs.out.mono ?_
      rintro e w4 ⟨rfl, hb4⟩
      generalize W.msg s 4 k = M at *
      have bs := bsM_any M
      have hMn := msgAt_new w4 M
      have HNW : Hid (∀ i u, (mgL M)[i]? = some u → (w4.alloc (.cells (mgL M).toArray 35)).cell? ((⟨w4.heap.size, 0, none⟩ : Addr).add i) = some u) := hMn.news
      have hb5 := hb4.trans ((below_alloc w4 (.cells (mgL M).toArray 35)).mono hb4.size)
      have HO5 : Hid (Om W3.heap.size u5 T (w4.alloc (.cells (mgL M).toArray 35)) ∧ Below W3.heap.size W3 (w4.alloc (.cells (mgL M).toArray 35))) := ⟨HL.out.1.below hb5, HL.out.2.1.trans (hb5.mono HL.out.2.1.size)⟩
      have hTl : T.length = j := HT.out.1
      have hsz : W3.heap.size ≤ w4.heap.size + 1 := by have := hb4.size; have := HL.out.2.1.size; omega
      have hNn : N ≤ 4096 := HNl.out
      obtain ⟨ti, hti, hzz⟩ := Option.map_eq_some_iff.1 infoMg
      simp only [Prod.mk.injEq] at hzz
      obtain ⟨hz0, hz1, hz2⟩ := hzz
      have HTl : Hid (T.length = j) := hTl
      clear hMn hb5 hb4 ck HMs HL
      go_wp2_with (at_builtin; refine wpList_append_lies _ rfl _ _ 25 rfl W3.heap.size 35 ti (.agg zMg) 11 56 Try.underlying25 hti hz0 hz1 hz2 rfl (by decide) u5 T.length (mgX T) rfl HO5.out.1 ⟨w4.heap.size, 0, none⟩ 1 1 (mgL M) rfl rfl HNW.out (oneM M) (by decide) (by unfold maxLen; omega) (by omega) (by simp; omega) (w4.heap.size + 1) (by simp) ?_; intro g' cap' w6 hown6 hg6 hat6 hlt6)
      have hO6 : Om W3.heap.size (.slice (some ⟨g', 0, none⟩) (T.length + 1) cap') (T ++ [M]) w6 := by
        unfold Om
        rw [List.length_append, mgX_app]
        exact hown6
      have hB6 : Below W3.heap.size W3 w6 := HO5.out.2.grown hg6 HO5.out.2.size (fun b e => (HO5.out.1.own e).1)
      rw [← HT.out.2, HTl.out] at hO6
      have H6 : Hid (_ ∧ _) := ⟨hO6, hB6⟩
      clear hO6 hB6 hown6 hg6 hat6 hlt6 HNW HO5 hTl hsz bs hz0 hz1 hz2 hti HT
      go_wp2
      go_roundw
      case rel => exact ⟨j + 1, by omega, by go_num, H6.out.1, H6.out.2, fun h => absurd h (by omega)⟩
      case measure => simp [intOf]; omega
    · have hjN : j = N := by omega
      subst hjN
      have hfull : (W.wo s.sh r).take j = W.wo s.sh r := by rw [← HN.out]; exact List.take_length
      rw [hfull] at HL
      have HL2 : Hid (Ho n0 hb { s with sv := r, b_ := 2, ac := W.wo s.sh r } sv (.slice a2 j cap2) wr ∧ Hu hb sv av sv (.slice a2 j cap2) w wr ∧ Om W3.heap.size u5 ((W.wo s.sh r).map (fun k => W.msg s 4 k)) wr ∧ (j = 0 → u5 = .slice none 0 0) ∧ W3.heap.size ≤ wr.heap.size) := ⟨HA.out.1.far HB.out.2.2 HL.out.2.1, HA.out.2.far HL.out.2.1 HB.out.1, HL.out.1, HL.out.2.2, HL.out.2.1.size⟩
      clear hfull HL HA c10
      generalize W3.heap.size = B at *
      have c6 := HL2.out.1.c 6 (by decide)
      dsimp only [hoF] at c6
      by_cases q : s.ow ≠ r ∧ s.ow ≠ -1
      · have n1 : (s.ow != r) = true := by simpa using q.1
        have n2 : (s.ow != -1) = true := by simpa using q.2
        have e0 : W.gM0 s r = { s with sv := r, b_ := 2, ac := W.wo s.sh r, te := s.ow } := by unfold W.gM0; rw [if_pos q]
        have HWT : Hid (W.wt (W.gM0 s r) = true) := by
          show W.wt (W.gM0 s r) = true
          rw [e0]
          unfold W.wt
          simp [q.2]
        have HGM : Hid (W.gM s r = (W.gM0 s r, W.invM s r)) := by
          show W.gM s r = _
          unfold W.gM W.ow
          rw [if_pos HWT.out]
          simp
        have c11 := HL2.out.1.c 11 (by decide)
        have f11 := HL2.out.1.b.fz 11
        have h3 := HL2.out.1.put 11 (.int .i64 s.ow) { s with sv := r, b_ := 2, ac := W.wo s.sh r, te := s.ow } (upd_te _ sv _ s.ow) rfl rfl
        have ho3 : Om B u5 ((W.wo s.sh r).map (fun k => W.msg s 4 k)) (wr.setCell ⟨hb, 11, none⟩ (.int .i64 s.ow)) := HL2.out.2.2.1.keep (gsetCell _ _ _ _) (fun g e e2 => by cases e2; have := (HL2.out.2.2.1.own e).1; have := HB.out.2.2.1; omega)
        rw [← e0] at h3
        have HM6 : Hid (Calls _ _ _ _ _) := msg_any (s := s) (h3.1.c 0 (by decide)) 6 s.ow
        have HX0 : Hid (_ ∧ _ ∧ _ ∧ _) := ⟨h3.1, HL2.out.2.1.trans h3.2, ho3, Nat.le_trans (Nat.le_of_lt (Nat.lt_succ_self _)) (Nat.le_refl (B + 1))⟩
        have hi0 : W.inv0 s r = (W.wo s.sh r).map (fun k => W.msg s 4 k) ++ [W.msg s 6 s.ow] := by unfold W.inv0; rw [if_pos q]
        have hwB : B ≤ (wr.setCell ⟨hb, 11, none⟩ (.int .i64 s.ow)).heap.size := by have := HL2.out.2.2.2.2; simpa [World.setCell] using this
        have HI0 : Hid (_ ∧ _) := ⟨hi0, hwB⟩
        clear h3 ho3 hi0 e0 q hwB HL2
        go_wp2_with (fail)
        refine HM6.out.mono ?_
        rintro e w8 ⟨rfl, hb8⟩
        clear c6 c11 f11
        generalize World.setCell wr _ _ = W7 at *
        generalize W.msg s 6 s.ow = M at *
        have hTl : ((W.wo s.sh r).map (fun k => W.msg s 4 k)).length = j := by rw [List.length_map, HN.out]
        generalize (W.wo s.sh r).map (fun k => W.msg s 4 k) = T at *
        have bs := bsM_any M
        have hMn := msgAt_new w8 M
        have HNW : Hid (∀ i u, (mgL M)[i]? = some u → (w8.alloc (.cells (mgL M).toArray 35)).cell? ((⟨w8.heap.size, 0, none⟩ : Addr).add i) = some u) := hMn.news
        have hb5 := hb8.trans ((below_alloc w8 (.cells (mgL M).toArray 35)).mono hb8.size)
        have HO5 : Hid (_ ∧ _ ∧ _ ∧ _) := ⟨HX0.out.2.2.1.below hb5, HX0.out.1.below hb5, HX0.out.2.1.trans (Hu.of_below hb5), Nat.le_trans HI0.out.2 hb5.size⟩
        have hsz : B ≤ w8.heap.size + 1 := by have := hb8.size; have := HI0.out.2; omega
        have hNn : j ≤ 4096 := HNl.out
        obtain ⟨ti, hti, hzz⟩ := Option.map_eq_some_iff.1 infoMg
        simp only [Prod.mk.injEq] at hzz
        obtain ⟨hz0, hz1, hz2⟩ := hzz
        clear hMn hb5 hb8 HM6 HX0
        go_wp2_with (at_builtin; refine wpList_append_lies _ rfl _ _ 25 rfl B 35 ti (.agg zMg) 11 56 Try.underlying25 hti hz0 hz1 hz2 rfl (by decide) u5 T.length (mgX T) rfl HO5.out.1 ⟨w8.heap.size, 0, none⟩ 1 1 (mgL M) rfl rfl HNW.out (oneM M) (by decide) (by unfold maxLen; omega) (by omega) (by simp; omega) (w8.heap.size + 1) (by simp) ?_; intro gx cx w6 hown6 hg6 hat6 hlt6)
        have hX : Om B (.slice (some ⟨gx, 0, none⟩) (j + 1) cx) (W.inv0 s r) w6 := by
          rw [HI0.out.1]
          unfold Om
          rw [List.length_append, mgX_app, hTl]
          rw [hTl] at hown6
          exact hown6
        have hbb := below_grown hg6 HO5.out.2.2.2 (fun b e => (HO5.out.1.own e).1)
        obtain ⟨nx, hnx⟩ : ∃ nx, nx = j + 1 := ⟨_, rfl⟩
        rw [← hnx] at hX
        have HX : Hid (_ ∧ _ ∧ _ ∧ nx = (W.inv0 s r).length ∧ nx ≤ 4096 ∧ B ≤ w6.heap.size) := ⟨HO5.out.2.1.far HB.out.2.2 hbb, HO5.out.2.2.1.far hbb HB.out.1, hX, by rw [HI0.out.1, List.length_append, hTl, hnx]; rfl, by have := HNs.out; omega, Nat.le_trans HO5.out.2.2.2 hbb.size⟩
        rw [← hnx]
        clear hX hbb hnx hown6 hg6 hat6 hlt6 HO5 HI0 hTl hNn hsz
        refine (sort_any B gx nx cx (W.inv0 s r) _ HX.out.2.2.1 HX.out.2.2.2.1 HX.out.2.2.2.2.1 HX.out.2.2.2.2.2).mono ?_
        rintro e w9 ⟨rfl, Y, hp, hpw, hms, hb9, hth⟩
        have hY := W.inv0_sorted HKK.out r Y hp hpw
        subst hY
        have HY : Hid (_ ∧ _ ∧ _ ∧ _) := ⟨HX.out.1.far HB.out.2.2 hb9, HX.out.2.1.far hb9 HB.out.1, hms, hth⟩
        have HNC : Hid (_) := HX.out.2.2.1.nc
        have hnc : nx ≤ cx := HNC.out.1
        have HO0 : Hid (Calls _ _ _ _ _) := own_wait0 HY.out.1 HWT.out
        have happ := fun ty w => append_nilM 25 ty w Try.underlying25 (some ⟨gx, 0, none⟩) nx cx hnc none 0
        have HAP : Hid (_) := happ
        clear happ
        clear hp hpw hms hth hb9 HX hnc
        go_wp2_with (fail)
        refine HO0.out.mono ?_
        rintro e w10 ⟨rfl, rfl⟩
        go_wp2_with (at_builtin; refine Lib.wpList_append_run _ rfl _ _ _ _ rfl _ _ rfl rfl _ _ (HAP.out _ _) ?_)
        go_ret
        rw [HGM.out]
        exact ⟨⟨some ⟨gx, 0, none⟩, nx, cx⟩, sv, .slice a2 j cap2, rfl, HY.out.2.2.1, HY.out.1, HY.out.2.1, fun b o e => by cases e; exact ⟨Nat.le_trans HB.out.1 HNC.out.2.1, HB.out.2.2.pt HNC.out.2.1, HY.out.2.2.2⟩⟩
      · have e0 : W.gM0 s r = { s with sv := r, b_ := 2, ac := W.wo s.sh r } := by unfold W.gM0; rw [if_neg q]
        have hi0 : W.inv0 s r = (W.wo s.sh r).map (fun k => W.msg s 4 k) := by unfold W.inv0; rw [if_neg q, List.append_nil]
        have HE : Hid (_ ∧ _) := ⟨e0, hi0⟩
        have hq : s.ow = r ∨ s.ow ≠ r ∧ s.ow = -1 := by omega
        clear e0 hi0 q
        rcases hq with q | q
        · have n1 : (s.ow != r) = false := by simp [q]
          clear q
          go_wp2_with (fail)
          clear c6
          by_cases hj0 : j = 0
          · have hu5 : u5 = .slice none 0 0 := HL2.out.2.2.2.1 hj0
            subst hu5
            have hwo : W.wo s.sh r = [] := List.eq_nil_of_length_eq_zero (by rw [HN.out]; exact hj0)
            have hwt : W.wt (W.gM0 s r) = false := by
              rw [HE.out.1]
              unfold W.wt
              dsimp only
              rw [hwo, (HKK.out.bz hi).1]
              rfl
            have HGB : Hid (W.gM s r = ((W.ow (W.gM0 s r)).1, [W.gv (W.gM0 s r)]) ∧ (W.ow (W.gM0 s r)).2 = [W.gv (W.gM0 s r)]) := by
              have h2 : (W.ow (W.gM0 s r)).2 = [W.gv (W.gM0 s r)] := by
                unfold W.ow
                rw [hwt, if_neg (by simp)]
              refine ⟨?_, h2⟩
              unfold W.gM
              rw [h2, ← W.inv0_sorted HKK.out r (W.inv0 s r) (List.Perm.refl _) (by rw [HE.out.2, hwo]; exact List.Pairwise.nil), HE.out.2, hwo]
              rfl
            have H0 := HL2.out.1
            rw [← HE.out.1] at H0
            have HX : Hid (_ ∧ _) := ⟨H0, HL2.out.2.1⟩
            clear H0 HL2 hwo hwt HE hj0
            refine (sort_nil _).mono ?_
            rintro e w9 ⟨rfl, rfl⟩
            go_wp2_with (fail)
            refine (own_any HX.out.1).mono ?_
            rintro e w10 ⟨⟨a3, n3, c3⟩, sv', av', rfl, hms, hH, hu, hap⟩
            rw [HGB.out.2] at hms
            obtain rfl : n3 = 1 := hms.n
            obtain ⟨gb, gof, rfl, hgl, hrd⟩ := hms.at_ (by show 0 < 1; decide)
            have hr0 := hrd 0 (W.gv (W.gM0 s r)) rfl
            have HNW : Hid (∀ i u, (mgL (W.gv (W.gM0 s r)))[i]? = some u → w10.cell? ((⟨gb, gof, none⟩ : Addr).add i) = some u) := fun i u hu => by
              have := hr0 i u hu
              rw [Addr.add_mid]
              simpa using this
            have HZ : Hid (_ ∧ _ ∧ _) := ⟨hH, HX.out.2.trans hu, hap⟩
            have HO0 : Hid (Om w10.heap.size (.slice none 0 0) [] w10) := Om.nil _ _
            have hc3 : Hid (1 ≤ c3) := hms.nc
            clear hms hH hu hap hgl hrd hr0 HX
            obtain ⟨ti, hti, hzz⟩ := Option.map_eq_some_iff.1 infoMg
            simp only [Prod.mk.injEq] at hzz
            obtain ⟨hz0, hz1, hz2⟩ := hzz
            unfold slV
            generalize W.gv (W.gM0 s r) = M at *
            go_wp2_with (at_builtin; refine wpList_append_lies _ rfl _ _ 25 rfl w10.heap.size 35 ti (.agg zMg) 11 56 Try.underlying25 hti hz0 hz1 hz2 rfl (by decide) (.slice none 0 0) 0 [] rfl HO0.out ⟨gb, gof, none⟩ 1 c3 (mgL M) rfl rfl HNW.out (oneM M) (by decide) (by unfold maxLen; omega) (by omega) (by omega) w10.heap.size rfl ?_; intro gx cx w6 hown6 hg6 hat6 hlt6)
            go_ret
            have hX : Om w10.heap.size (.slice (some ⟨gx, 0, none⟩) 1 cx) [M] w6 := hown6
            have hbb : Below w10.heap.size w10 w6 := below_grown hg6 (Nat.le_refl _) (fun b e => by cases e)
            obtain ⟨s9, hs9, hms9, hap9⟩ := ms_omS hX (by show 1 ≤ 4096; decide)
            rw [HGB.out.1]
            refine ⟨s9, sv', av', congrArg _ hs9, hms9, HZ.out.1.below hbb, HZ.out.2.1.trans (Hu.of_below hbb), fun b o e => ⟨Nat.le_trans HZ.out.2.1.g.size (hap9 b o e).1, HZ.out.1.pt_new (hap9 b o e).1, (hap9 b o e).2⟩⟩
          · have hne : (W.wo s.sh r).map (fun k => W.msg s 4 k) ≠ [] := fun e => by
              have := congrArg List.length e
              rw [List.length_map, HN.out] at this
              exact hj0 this
            obtain ⟨gx, cx, hu5⟩ := HL2.out.2.2.1.form hne
            rw [List.length_map, HN.out] at hu5
            subst hu5
            have HWT : Hid (W.wt (W.gM0 s r) = true) := by
              show W.wt (W.gM0 s r) = true
              rw [HE.out.1]
              unfold W.wt
              dsimp only
              cases hw : W.wo s.sh r with
              | nil => rw [hw] at hne; exact absurd rfl hne
              | cons x l => rfl
            have HGM : Hid (W.gM s r = (W.gM0 s r, W.invM s r)) := by
              show W.gM s r = _
              unfold W.gM W.ow
              rw [if_pos HWT.out]
              simp
            have H0 := HL2.out.1
            have hO0 := HL2.out.2.2.1
            rw [← HE.out.1] at H0
            rw [← HE.out.2] at hO0
            obtain ⟨nx, hnx⟩ : ∃ nx, nx = j := ⟨_, rfl⟩
            have HX : Hid (_ ∧ _ ∧ Om B (.slice (some ⟨gx, 0, none⟩) nx cx) (W.inv0 s r) wr ∧ nx = (W.inv0 s r).length ∧ nx ≤ 4096 ∧ B ≤ wr.heap.size) := ⟨H0, HL2.out.2.1, by rw [hnx]; exact hO0, by rw [HE.out.2, List.length_map, HN.out, hnx], by have := HNl.out; omega, HL2.out.2.2.2.2⟩
            have HNX : Hid (j = nx) := hnx.symm
            clear H0 hO0 HL2 hne HE hj0
            refine (sort_any B gx j cx (W.inv0 s r) _ (by have := HX.out.2.2.1; rw [← HNX.out] at this; exact this) (by have := HX.out.2.2.2.1; rw [← HNX.out] at this; exact this) (by have := HX.out.2.2.2.2.1; rw [← HNX.out] at this; exact this) HX.out.2.2.2.2.2).mono ?_
            rintro e w9 ⟨rfl, Y, hp, hpw, hms, hb9, hth⟩
            have hY := W.inv0_sorted HKK.out r Y hp hpw
            subst hY
            have HY : Hid (_ ∧ _ ∧ _ ∧ _) := ⟨HX.out.1.far HB.out.2.2 hb9, HX.out.2.1.far hb9 HB.out.1, hms, hth⟩
            have HNC : Hid (_) := HX.out.2.2.1.nc
            have hnc : j ≤ cx := by have := HNC.out.1; rw [← HNX.out] at this; exact this
            have HO0 : Hid (Calls _ _ _ _ _) := own_wait0 HY.out.1 HWT.out
            have happ := fun ty w => append_nilM 25 ty w Try.underlying25 (some ⟨gx, 0, none⟩) j cx hnc none 0
            have HAP : Hid (_) := happ
            clear happ
            clear hp hpw hms hth hb9 HX hnc
            go_wp2_with (fail)
            refine HO0.out.mono ?_
            rintro e w10 ⟨rfl, rfl⟩
            go_wp2_with (at_builtin; refine Lib.wpList_append_run _ rfl _ _ _ _ rfl _ _ rfl rfl _ _ (HAP.out _ _) ?_)
            go_ret
            rw [HGM.out]
            exact ⟨⟨some ⟨gx, 0, none⟩, j, cx⟩, sv, .slice a2 j cap2, rfl, HY.out.2.2.1, HY.out.1, HY.out.2.1, fun b o e => by cases e; exact ⟨Nat.le_trans HB.out.1 HNC.out.2.1, HB.out.2.2.pt HNC.out.2.1, HY.out.2.2.2⟩⟩

        · have n1 : (s.ow != r) = true := by simpa using q.1
          have n2 : (s.ow != -1) = false := by simp [q.2]
          clear q
          go_wp2_with (fail)
          clear c6
          by_cases hj0 : j = 0
          · have hu5 : u5 = .slice none 0 0 := HL2.out.2.2.2.1 hj0
            subst hu5
            have hwo : W.wo s.sh r = [] := List.eq_nil_of_length_eq_zero (by rw [HN.out]; exact hj0)
            have hwt : W.wt (W.gM0 s r) = false := by
              rw [HE.out.1]
              unfold W.wt
              dsimp only
              rw [hwo, (HKK.out.bz hi).1]
              rfl
            have HGB : Hid (W.gM s r = ((W.ow (W.gM0 s r)).1, [W.gv (W.gM0 s r)]) ∧ (W.ow (W.gM0 s r)).2 = [W.gv (W.gM0 s r)]) := by
              have h2 : (W.ow (W.gM0 s r)).2 = [W.gv (W.gM0 s r)] := by
                unfold W.ow
                rw [hwt, if_neg (by simp)]
              refine ⟨?_, h2⟩
              unfold W.gM
              rw [h2, ← W.inv0_sorted HKK.out r (W.inv0 s r) (List.Perm.refl _) (by rw [HE.out.2, hwo]; exact List.Pairwise.nil), HE.out.2, hwo]
              rfl
            have H0 := HL2.out.1
            rw [← HE.out.1] at H0
            have HX : Hid (_ ∧ _) := ⟨H0, HL2.out.2.1⟩
            clear H0 HL2 hwo hwt HE hj0
            refine (sort_nil _).mono ?_
            rintro e w9 ⟨rfl, rfl⟩
            go_wp2_with (fail)
            refine (own_any HX.out.1).mono ?_
            rintro e w10 ⟨⟨a3, n3, c3⟩, sv', av', rfl, hms, hH, hu, hap⟩
            rw [HGB.out.2] at hms
            obtain rfl : n3 = 1 := hms.n
            obtain ⟨gb, gof, rfl, hgl, hrd⟩ := hms.at_ (by show 0 < 1; decide)
            have hr0 := hrd 0 (W.gv (W.gM0 s r)) rfl
            have HNW : Hid (∀ i u, (mgL (W.gv (W.gM0 s r)))[i]? = some u → w10.cell? ((⟨gb, gof, none⟩ : Addr).add i) = some u) := fun i u hu => by
              have := hr0 i u hu
              rw [Addr.add_mid]
              simpa using this
            have HZ : Hid (_ ∧ _ ∧ _) := ⟨hH, HX.out.2.trans hu, hap⟩
            have HO0 : Hid (Om w10.heap.size (.slice none 0 0) [] w10) := Om.nil _ _
            have hc3 : Hid (1 ≤ c3) := hms.nc
            clear hms hH hu hap hgl hrd hr0 HX
            obtain ⟨ti, hti, hzz⟩ := Option.map_eq_some_iff.1 infoMg
            simp only [Prod.mk.injEq] at hzz
            obtain ⟨hz0, hz1, hz2⟩ := hzz
            unfold slV
            generalize W.gv (W.gM0 s r) = M at *
            go_wp2_with (at_builtin; refine wpList_append_lies _ rfl _ _ 25 rfl w10.heap.size 35 ti (.agg zMg) 11 56 Try.underlying25 hti hz0 hz1 hz2 rfl (by decide) (.slice none 0 0) 0 [] rfl HO0.out ⟨gb, gof, none⟩ 1 c3 (mgL M) rfl rfl HNW.out (oneM M) (by decide) (by unfold maxLen; omega) (by omega) (by omega) w10.heap.size rfl ?_; intro gx cx w6 hown6 hg6 hat6 hlt6)
            go_ret
            have hX : Om w10.heap.size (.slice (some ⟨gx, 0, none⟩) 1 cx) [M] w6 := hown6
            have hbb : Below w10.heap.size w10 w6 := below_grown hg6 (Nat.le_refl _) (fun b e => by cases e)
            obtain ⟨s9, hs9, hms9, hap9⟩ := ms_omS hX (by show 1 ≤ 4096; decide)
            rw [HGB.out.1]
            refine ⟨s9, sv', av', congrArg _ hs9, hms9, HZ.out.1.below hbb, HZ.out.2.1.trans (Hu.of_below hbb), fun b o e => ⟨Nat.le_trans HZ.out.2.1.g.size (hap9 b o e).1, HZ.out.1.pt_new (hap9 b o e).1, (hap9 b o e).2⟩⟩
          · have hne : (W.wo s.sh r).map (fun k => W.msg s 4 k) ≠ [] := fun e => by
              have := congrArg List.length e
              rw [List.length_map, HN.out] at this
              exact hj0 this
            obtain ⟨gx, cx, hu5⟩ := HL2.out.2.2.1.form hne
            rw [List.length_map, HN.out] at hu5
            subst hu5
            have HWT : Hid (W.wt (W.gM0 s r) = true) := by
              show W.wt (W.gM0 s r) = true
              rw [HE.out.1]
              unfold W.wt
              dsimp only
              cases hw : W.wo s.sh r with
              | nil => rw [hw] at hne; exact absurd rfl hne
              | cons x l => rfl
            have HGM : Hid (W.gM s r = (W.gM0 s r, W.invM s r)) := by
              show W.gM s r = _
              unfold W.gM W.ow
              rw [if_pos HWT.out]
              simp
            have H0 := HL2.out.1
            have hO0 := HL2.out.2.2.1
            rw [← HE.out.1] at H0
            rw [← HE.out.2] at hO0
            obtain ⟨nx, hnx⟩ : ∃ nx, nx = j := ⟨_, rfl⟩
            have HX : Hid (_ ∧ _ ∧ Om B (.slice (some ⟨gx, 0, none⟩) nx cx) (W.inv0 s r) wr ∧ nx = (W.inv0 s r).length ∧ nx ≤ 4096 ∧ B ≤ wr.heap.size) := ⟨H0, HL2.out.2.1, by rw [hnx]; exact hO0, by rw [HE.out.2, List.length_map, HN.out, hnx], by have := HNl.out; omega, HL2.out.2.2.2.2⟩
            have HNX : Hid (j = nx) := hnx.symm
            clear H0 hO0 HL2 hne HE hj0
            refine (sort_any B gx j cx (W.inv0 s r) _ (by have := HX.out.2.2.1; rw [← HNX.out] at this; exact this) (by have := HX.out.2.2.2.1; rw [← HNX.out] at this; exact this) (by have := HX.out.2.2.2.2.1; rw [← HNX.out] at this; exact this) HX.out.2.2.2.2.2).mono ?_
            rintro e w9 ⟨rfl, Y, hp, hpw, hms, hb9, hth⟩
            have hY := W.inv0_sorted HKK.out r Y hp hpw
            subst hY
            have HY : Hid (_ ∧ _ ∧ _ ∧ _) := ⟨HX.out.1.far HB.out.2.2 hb9, HX.out.2.1.far hb9 HB.out.1, hms, hth⟩
            have HNC : Hid (_) := HX.out.2.2.1.nc
            have hnc : j ≤ cx := by have := HNC.out.1; rw [← HNX.out] at this; exact this
            have HO0 : Hid (Calls _ _ _ _ _) := own_wait0 HY.out.1 HWT.out
            have happ := fun ty w => append_nilM 25 ty w Try.underlying25 (some ⟨gx, 0, none⟩) j cx hnc none 0
            have HAP : Hid (_) := happ
            clear happ
            clear hp hpw hms hth hb9 HX hnc
            go_wp2_with (fail)
            refine HO0.out.mono ?_
            rintro e w10 ⟨rfl, rfl⟩
            go_wp2_with (at_builtin; refine Lib.wpList_append_run _ rfl _ _ _ _ rfl _ _ rfl rfl _ _ (HAP.out _ _) ?_)
            go_ret
            rw [HGM.out]
            exact ⟨⟨some ⟨gx, 0, none⟩, j, cx⟩, sv, .slice a2 j cap2, rfl, HY.out.2.2.1, HY.out.1, HY.out.2.1, fun b o e => by cases e; exact ⟨Nat.le_trans HB.out.1 HNC.out.2.1, HB.out.2.2.pt HNC.out.2.1, HY.out.2.2.2⟩⟩

end Go.Proofs.Ytadkpelcbnljbaa
