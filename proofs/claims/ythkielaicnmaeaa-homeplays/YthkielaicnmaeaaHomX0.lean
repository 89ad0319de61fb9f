/- home: the document's Take: GetS. -/
import Derived.Test.YthkielaicnmaeaaHomV
import Derived.Deep.CutRange
import Derived.Deep.CutBlock
namespace Go.Proofs.Ythkielaicnmaeaa
open Go.ChangeShapes Go.WideShapes Go.ChangeAt Go.RowKit
set_option linter.unusedVariables false
set_option linter.unusedSimpArgs false
attribute [local go_sem ↓] ldM_eq stM_eq bdM_eq bsM_eq
variable {n0 db : Nat} {d d' : W.Dm} {sv wv sv' wv' sv'' wv'' : Value} {w w' w'' : World}
/-- The box of the message that is taken. -/
structure Bx (n0 db : Nat) (d : W.Dm) (sv wv : Value) (m : W.Mg) (mb : Nat) (w0 w : World) : Prop where
  h : Dh n0 db d sv wv w
  m : MsgAt mb m w
  u : Du db sv wv sv wv w0 w
  ne : mb ≠ db
theorem On.li4 {base : Nat} {v : Value} {l : List Int} (h : On base v l w) (hl : l.length ≤ 4096) : ∃ s, v = slV s ∧ Li s l w := h.li hl
set_option maxRecDepth 10000 in
set_option maxHeartbeats 1600000 in
theorem dtake_S (H : Dh n0 db d sv wv w) (m : W.Mg) (hk : m.k = 1) (hl : d.sh.length ≤ 4090) : Calls Try.prog 16 #[.pointer (some ⟨db, 0, none⟩), mgV m] w fun e w' => Rsd n0 db (W.dS d m.f) sv wv w e w' := by
  have hba := below_alloc w (.cells (mgL m).toArray 35)
  have H1 := H.below hba
  have hm := msgAt_new w m
  have hne : w.heap.size ≠ db := by have := H.b.lt; omega
  have HM : Hid (Bx n0 db d sv wv m w.heap.size w (w.alloc (.cells (mgL m).toArray 35))) := ⟨H1, hm, Du.of_below hba, hne⟩
  have c0 : (w.alloc (.cells (mgL m).toArray 35)).cell? ⟨w.heap.size, 0, none⟩ = some (.int .i64 m.k) := hm.cAt 0
  have c2 : (w.alloc (.cells (mgL m).toArray 35)).cell? ⟨w.heap.size, 2, none⟩ = some (.int .i64 m.f) := hm.cAt 2
  rw [hk] at c0
  have HK : Hid (m.k = 1 ∧ d.sh.length ≤ 4090) := ⟨hk, hl⟩
  clear H H1 hm hba hk hl hne
  have hV : mgV m = .agg (mgL m).toArray := rfl
  rw [hV]
  clear hV
  go_enter Try.func16, Try.ntmps16
  go_upto_region 1 with fail
  generalize World.alloc w _ = W1 at *
  generalize hmb : w.heap.size = mb at HM c0 c2 ⊢
  clear hmb
  have c6 : W1.cell? ⟨db, 6, none⟩ = some (.int .i64 d.ow) := HM.out.h.c 6 (by decide)
  have c7 : W1.cell? ⟨db, 7, none⟩ = some sv := HM.out.h.c 7 (by decide)
  have c8 : W1.cell? ⟨db, 8, none⟩ = some (.bool d.bz) := HM.out.h.c 8 (by decide)
  have c9 : W1.cell? ⟨db, 9, none⟩ = some (.int .i64 d.k) := HM.out.h.c 9 (by decide)
  have c10 : W1.cell? ⟨db, 10, none⟩ = some (.int .i64 d.by_) := HM.out.h.c 10 (by decide)
  have c12 : W1.cell? ⟨db, 12, none⟩ = some (.int .i64 d.fr) := HM.out.h.c 12 (by decide)
  have f6 := HM.out.h.b.fz 6
  have f8 := HM.out.h.b.fz 8
  have f9 := HM.out.h.b.fz 9
  have f10 := HM.out.h.b.fz 10
  have f12 := HM.out.h.b.fz 12
  have ne1 := HM.out.ne
  have ne2 := ne1.symm
  have h1 := HM.out.h.put 8 (.bool true) { d with bz := true } (dupd_bz d sv wv true) rfl rfl
  have h2 := h1.1.put 9 (.int .i64 1) { d with bz := true, k := 1 } (dupd_k _ sv wv 1) rfl rfl
  have h3 := h2.1.put 10 (.int .i64 m.f) { d with bz := true, k := 1, by_ := m.f } (dupd_by _ sv wv m.f) rfl rfl
  have hu3 := HM.out.u.trans ((h1.2.trans h2.2).trans h3.2)
  have H3 : Hid (_ ∧ _) := ⟨h3.1, hu3⟩
  clear h1 h2 h3 hu3
  by_cases q : 0 ≤ d.ow ∧ d.ow ≠ m.f
  · have n1 : decide (0 ≤ d.ow) = true := decide_eq_true q.1
    have n1' : 0 ≤ d.ow := q.1
    have n2 : (d.ow != m.f) = true := by simpa using q.2
    have HO : Hid (W.dS d m.f = ({ d with bz := true, k := 1, by_ := m.f, fr := d.ow }, [W.dmsg d 5 d.ow])) := by
      show W.dS d m.f = _
      unfold W.dS
      rw [if_pos q]
    have h4 := H3.out.1.put 12 (.int .i64 d.ow) { d with bz := true, k := 1, by_ := m.f, fr := d.ow } (dupd_fr _ sv wv d.ow) rfl rfl
    have HH : Hid (_ ∧ _) := ⟨h4.1, H3.out.2.trans h4.2⟩
    have HMs : Hid (Calls _ _ _ _ _) := dmsg_any (d := d) (HH.out.1.c 0 (by decide)) 5 d.ow
    clear q h4 H3
    go_wp2_with (fail)
    refine HMs.out.mono ?_
    rintro e w2 ⟨rfl, hb2⟩
    have HR : Hid (_) := Rsd.oneB (HH.out.1.below hb2) (HH.out.2.trans (Du.of_below hb2)) (W.dmsg d 5 d.ow) rfl
    have bs := bsM_any (W.dmsg d 5 d.ow)
    generalize W.dmsg d 5 d.ow = M at *
    clear hb2 HMs
    go_wp2_with (fail)
    go_ret
    rw [HO.out]
    exact HR.out
  · have hq : (decide (0 ≤ d.ow) = false ∧ ¬ 0 ≤ d.ow) ∨ (decide (0 ≤ d.ow) = true ∧ 0 ≤ d.ow ∧ (d.ow != m.f) = false) := by
      by_cases h : 0 ≤ d.ow
      · have h2 : d.ow = m.f := by
          by_cases e : d.ow = m.f
          · exact e
          · exact absurd ⟨h, e⟩ q
        exact Or.inr ⟨decide_eq_true h, h, by simp [h2]⟩
      · exact Or.inl ⟨decide_eq_false h, h⟩
    have HO : Hid (W.dS d m.f = (if W.wo d.sh m.f = [] then ({ d with bz := true, k := 1, by_ := m.f, ow := m.f, sh := [] }, [W.ddat { d with by_ := m.f } d.e0 d.e1 d.e2 d.e3 false true]) else ({ d with bz := true, k := 1, by_ := m.f, ow := -1, sh := W.srt (d.sh ++ [m.f]) }, [W.ddat { d with by_ := m.f } d.e0 d.e1 d.e2 d.e3 false false]))) := by
      show W.dS d m.f = _
      unfold W.dS
      rw [if_neg q]
    clear q
    have h4 := H3.out.1.put 6 (.int .i64 (-1)) { d with bz := true, k := 1, by_ := m.f, ow := -1 } (dupd_ow _ sv wv (-1)) rfl rfl
    obtain ⟨s1, hs1, hLi⟩ := h4.1.os.li (by have := HK.out.2; show d.sh.length ≤ 4096; omega)
    have H4 : Hid (_ ∧ _) := ⟨h4.1, H3.out.2.trans h4.2⟩
    rw [hs1] at c7 H4
    have HWo : Hid (Calls _ _ _ _ _) := dwithout_any s1 d.sh m.f _ hLi
    have HLI : Hid (Li s1 d.sh _) := hLi
    have HSV : Hid (sv = slV s1) := hs1
    clear h4 H3 hLi hs1
    rcases hq with ⟨n1, n1'⟩ | ⟨n1, n1', n2⟩
    all_goals
      go_wp2_with (fail)
      refine HWo.out.mono ?_
      rintro e w2 ⟨v2, rfl, ho2, hb2⟩
      obtain ⟨a2, cap2, hv2, hc2⟩ := ho2.len
      have H5 : Hid (_ ∧ _ ∧ _) := ⟨H4.out.1.below hb2, H4.out.2.trans (Du.of_below hb2), HLI.out.below hb2⟩
      clear c6 c7 c8 c9 c10 c12 f6 f8 f9 f10 f12 c0 c2 n1 n1' HWo H4 HLI ho2 hb2
      generalize World.setCell (World.setCell (World.setCell (World.setCell W1 _ _) _ _) _ _) _ _ = W2' at *
      clear W2'
      have c6 : w2.cell? ⟨db, 6, none⟩ = some (.int .i64 (-1)) := H5.out.1.c 6 (by decide)
      have c7 : w2.cell? ⟨db, 7, none⟩ = some (slV s1) := H5.out.1.c 7 (by decide)
      have f6 := H5.out.1.b.fz 6
      have f7 := H5.out.1.b.fz 7
      have k2 : w2.cell? ⟨db, 2, none⟩ = some (.int .u32 d.e0) := H5.out.1.c 2 (by decide)
      have k3 : w2.cell? ⟨db, 3, none⟩ = some (.int .u32 d.e1) := H5.out.1.c 3 (by decide)
      have k4 : w2.cell? ⟨db, 4, none⟩ = some (.int .u32 d.e2) := H5.out.1.c 4 (by decide)
      have k5 : w2.cell? ⟨db, 5, none⟩ = some (.int .u32 d.e3) := H5.out.1.c 5 (by decide)
      by_cases hz : W.wo d.sh m.f = []
      · have HO2 : Hid (_) := HO.out.trans (if_pos hz)
        rw [hz, show ([] : List Int).length = 0 from rfl] at hv2 hc2
        subst hv2
        have h6 := H5.out.1.put 6 (.int .i64 m.f) { d with bz := true, k := 1, by_ := m.f, ow := m.f } (dupd_ow _ _ wv m.f) rfl rfl
        have hu6 := (H5.out.2.1).trans h6.2
        have h7 := h6.1.setS (v := .slice none 0 0) (l := []) (On.nil _ _) (by simp [Value.ownBlock]) w hu6.g.size hu6 (fun g e => by cases e)
        have HH : Hid (_ ∧ _) := ⟨h7.1, h7.2⟩
        have HD : Hid (Calls _ _ _ _ _) := ddata_any (d := { d with by_ := m.f }) (h7.1.c 0 (by decide)) (h7.1.c 10 (by decide)) d.e0 d.e1 d.e2 d.e3 false true
        clear h6 hu6 h7 hz hc2 H5
        go_wp2_with (fail)
        refine HD.out.mono ?_
        rintro e w9 ⟨⟨sl, rfl, hm9, hap⟩, hb9⟩
        have HR : Hid (_) := Rsd.dat HH.out.1 HH.out.2 hm9 hap hb9
        clear hb9 HD hm9 hap c6 c7 f6 f7 k2 k3 k4 k5
        go_wp2_with (fail)
        go_ret
        rw [HO2.out, HSV.out]
        exact HR.out
      · have HO2 : Hid (_) := HO.out.trans (if_neg hz)
        have hnz : (W.wo d.sh m.f).length ≠ 0 := fun e => hz (List.eq_nil_of_length_eq_zero e)
        generalize (W.wo d.sh m.f).length = n2 at hv2 hc2 hnz
        obtain ⟨n2, rfl⟩ : ∃ k, n2 = k + 1 := ⟨n2 - 1, by omega⟩
        subst hv2
        have hp2 : ((n2 + 1 : Nat) : Int) ≠ 0 := by omega
        clear hz hnz
        go_wp2_with (fail)
        refine (ints_any s1 d.sh _ H5.out.2.2).mono ?_
        rintro e w3 ⟨v3, rfl, ho3, hb3⟩
        have hba := below_alloc w3 (.cells #[.int .i64 m.f] 3)
        have hb4 := hb3.trans (hba.mono hb3.size)
        have HO4 : Hid (On w2.heap.size v3 d.sh (w3.alloc (.cells #[.int .i64 m.f] 3)) ∧ Below w2.heap.size w2 (w3.alloc (.cells #[.int .i64 m.f] 3)) ∧ _) := ⟨ho3.below hba, hb4, World.news_of_block (cs := #[Value.int .i64 m.f]) (heap_alloc_last w3 (.cells #[.int .i64 m.f] 3))⟩
        have hlen : d.sh.length ≤ 4090 := HK.out.2
        have hsz : w2.heap.size ≤ w3.heap.size + 1 := by have := hb3.size; omega
        obtain ⟨ti, hti, hzz⟩ := Option.map_eq_some_iff.1 infoI
        simp only [Prod.mk.injEq] at hzz
        obtain ⟨hz0, hz1, hz2⟩ := hzz
        clear ho3 hb3 hba hb4
        go_wp2_with (at_builtin; refine wpList_append_lies _ rfl _ _ 39 rfl w2.heap.size 3 ti (.int .i64 0) 1 8 Try.underlying39 hti hz0 hz1 hz2 rfl (by decide) v3 d.sh.length (inX d.sh) rfl HO4.out.1 ⟨w3.heap.size, 0, none⟩ 1 1 [.int .i64 m.f] rfl rfl HO4.out.2.2 (oneI [m.f]) (by decide) (by unfold maxLen; omega) (by omega) (by simp; omega) (w3.heap.size + 1) (by simp) ?_; intro g' cap' w8 hown8 hg8 hat8 hlt8)
        have hO8 : On w2.heap.size (.slice (some ⟨g', 0, none⟩) (d.sh.length + 1) cap') (d.sh ++ [m.f]) w8 := by
          show w8.ownsRow w2.heap.size 3 1 _ (d.sh ++ [m.f]).length (inX (d.sh ++ [m.f]))
          rw [List.length_append, show inX (d.sh ++ [m.f]) = inX d.sh ++ [.int .i64 m.f] by simp [inX]]
          exact hown8
        have hB8 : Below w2.heap.size w2 w8 := HO4.out.2.1.grown hg8 HO4.out.2.1.size (fun b e => (HO4.out.1.lt e).1)
        obtain ⟨s8, hs8, hL8⟩ := hO8.li (by rw [List.length_append]; simp; omega)
        have HS8 : Hid (Calls _ _ _ _ _) := sorted_any s8 (d.sh ++ [m.f]) w8 hL8
        rw [← hs8] at HS8
        have HB8 : Hid (_) := hB8
        clear hO8 hB8 hs8 hL8 hown8 hg8 hat8 hlt8 HO4 hsz
        refine HS8.out.mono ?_
        rintro e w9 ⟨v9, rfl, ho9, hb9⟩
        have hB9 := HB8.out.trans (hb9.mono HB8.out.size)
        have H9 := H5.out.1.below hB9
        have hw9 : n0 ≤ w8.heap.size := Nat.le_trans (Nat.le_trans H5.out.1.n0 (Nat.le_of_lt H5.out.1.b.lt)) HB8.out.size
        have hu9 := (H5.out.2.1).trans (Du.of_below hB9)
        have hdl : ∀ g, v9.ownBlock = some g → w8.heap.size ≤ g := fun g e => (ho9.lt e).1
        have h7 := H9.setS (ho9.base hw9) (fun e => by have := hdl _ e; have := H5.out.1.b.lt; have := HB8.out.size; omega) w hu9.g.size hu9 (fun g e => by have := hdl g e; have := HB8.out.size; have := H5.out.2.1.g.size; omega)
        have c7' : w9.cell? ⟨db, 7, none⟩ = some (slV s1) := H9.c 7 (by decide)
        have f7' := H9.b.fz 7
        have k2' : w9.cell? ⟨db, 2, none⟩ = some (.int .u32 d.e0) := H9.c 2 (by decide)
        have k3' : w9.cell? ⟨db, 3, none⟩ = some (.int .u32 d.e1) := H9.c 3 (by decide)
        have k4' : w9.cell? ⟨db, 4, none⟩ = some (.int .u32 d.e2) := H9.c 4 (by decide)
        have k5' : w9.cell? ⟨db, 5, none⟩ = some (.int .u32 d.e3) := H9.c 5 (by decide)
        obtain ⟨a9, cap9, hv9, hc9⟩ := ho9.len
        have HH : Hid (_ ∧ _) := ⟨h7.1, h7.2⟩
        have HD : Hid (Calls _ _ _ _ _) := ddata_any (d := { d with by_ := m.f }) (h7.1.c 0 (by decide)) (h7.1.c 10 (by decide)) d.e0 d.e1 d.e2 d.e3 false false
        generalize (W.srt (d.sh ++ [m.f])).length = n9 at hv9 hc9
        subst hv9
        clear h7 hu9 hw9 H9 hB9 hb9 ho9 hdl c6 c7 f6 f7 k2 k3 k4 k5 HS8
        go_wp2_with (fail)
        refine HD.out.mono ?_
        rintro e w10 ⟨⟨sl, rfl, hm10, hap⟩, hb10⟩
        have HR : Hid (_) := Rsd.dat HH.out.1 HH.out.2 hm10 hap hb10
        clear hb10 HD hm10 hap c7' f7' k2' k3' k4' k5'
        go_wp2_with (fail)
        go_ret
        rw [HO2.out, HSV.out]
        exact HR.out
end Go.Proofs.Ythkielaicnmaeaa
