/- home: the document's Take: Put, Ack, Done. -/
import Derived.Test.YthkielaicnmaeaaHomX1
import Derived.Test.YthkielaicnmaeaaHomN
namespace Go.Proofs.Ythkielaicnmaeaa
open Go.ChangeShapes Go.WideShapes Go.ChangeAt Go.RowKit
set_option linter.unusedVariables false
set_option linter.unusedSimpArgs false
attribute [local go_sem ↓] ldM_eq stM_eq bdM_eq bsM_eq
variable {n0 db : Nat} {d d' : W.Dm} {sv wv sv' wv' sv'' wv'' : Value} {w w' w'' : World}
set_option maxRecDepth 10000 in
set_option maxHeartbeats 3200000 in
theorem dtake_D (H : Dh n0 db d sv wv w) (m : W.Mg) (hk : m.k = 12) (hl : d.sh.length ≤ 4090) (hl2 : d.ws.length ≤ 4090) : Calls Try.prog 16 #[.pointer (some ⟨db, 0, none⟩), mgV m] w fun e w' => Rsd n0 db ({ d with bz := false }, []) sv wv w e w' := by
  have hba := below_alloc w (.cells (mgL m).toArray 35)
  have H1 := H.below hba
  have hm := msgAt_new w m
  have hne : w.heap.size ≠ db := by have := H.b.lt; omega
  have HM : Hid (Bx n0 db d sv wv m w.heap.size w (w.alloc (.cells (mgL m).toArray 35))) := ⟨H1, hm, Du.of_below hba, hne⟩
  have c0 : (w.alloc (.cells (mgL m).toArray 35)).cell? ⟨w.heap.size, 0, none⟩ = some (.int .i64 m.k) := hm.cAt 0
  have c2 : (w.alloc (.cells (mgL m).toArray 35)).cell? ⟨w.heap.size, 2, none⟩ = some (.int .i64 m.f) := hm.cAt 2
  rw [hk] at c0
  have HK : Hid (m.k = 12 ∧ d.sh.length ≤ 4090 ∧ d.ws.length ≤ 4090) := ⟨hk, hl, hl2⟩
  clear H H1 hm hba hk hl hl2 hne
  have hV : mgV m = .agg (mgL m).toArray := rfl
  rw [hV]
  clear hV
  go_enter Try.func16, Try.ntmps16
  go_upto_region 1 with fail
  generalize World.alloc w _ = W1 at *
  generalize hmb : w.heap.size = mb at HM c0 c2 ⊢
  clear hmb
  have ne1 := HM.out.ne
  have ne2 := ne1.symm
  have c8 : W1.cell? ⟨db, 8, none⟩ = some (.bool d.bz) := HM.out.h.c 8 (by decide)
  have f8 := HM.out.h.b.fz 8
  have h3 := HM.out.h.put 8 (.bool false) { d with bz := false } (dupd_bz d sv wv false) rfl rfl
  have HX : Hid (_ ∧ _) := ⟨h3.1, HM.out.u.trans h3.2⟩
  clear h3
  go_wp2
  go_ret
  exact Rsd.nilR HX.out.1 HX.out.2
set_option maxRecDepth 10000 in
set_option maxHeartbeats 3200000 in
theorem dtake_P (H : Dh n0 db d sv wv w) (m : W.Mg) (hk : m.k = 3) (hl : d.sh.length ≤ 4090) (hl2 : d.ws.length ≤ 4090) : Calls Try.prog 16 #[.pointer (some ⟨db, 0, none⟩), mgV m] w fun e w' => Rsd n0 db (W.dP d m) sv wv w e w' := by
  have hba := below_alloc w (.cells (mgL m).toArray 35)
  have H1 := H.below hba
  have hm := msgAt_new w m
  have hne : w.heap.size ≠ db := by have := H.b.lt; omega
  have HM : Hid (Bx n0 db d sv wv m w.heap.size w (w.alloc (.cells (mgL m).toArray 35))) := ⟨H1, hm, Du.of_below hba, hne⟩
  have c0 : (w.alloc (.cells (mgL m).toArray 35)).cell? ⟨w.heap.size, 0, none⟩ = some (.int .i64 m.k) := hm.cAt 0
  have c2 : (w.alloc (.cells (mgL m).toArray 35)).cell? ⟨w.heap.size, 2, none⟩ = some (.int .i64 m.f) := hm.cAt 2
  rw [hk] at c0
  have HK : Hid (m.k = 3 ∧ d.sh.length ≤ 4090 ∧ d.ws.length ≤ 4090) := ⟨hk, hl, hl2⟩
  clear H H1 hm hba hk hl hl2 hne
  have hV : mgV m = .agg (mgL m).toArray := rfl
  rw [hV]
  clear hV
  go_enter Try.func16, Try.ntmps16
  go_upto_region 1 with fail
  generalize World.alloc w _ = W1 at *
  generalize hmb : w.heap.size = mb at HM c0 c2 ⊢
  clear hmb
  have ne1 := HM.out.ne
  have ne2 := ne1.symm
  have c6 : W1.cell? ⟨db, 6, none⟩ = some (.int .i64 d.ow) := HM.out.h.c 6 (by decide)
  have f6 := HM.out.h.b.fz 6
  have k2 : W1.cell? ⟨db, 2, none⟩ = some (.int .u32 d.e0) := HM.out.h.c 2 (by decide)
  have k3 : W1.cell? ⟨db, 3, none⟩ = some (.int .u32 d.e1) := HM.out.h.c 3 (by decide)
  have k4 : W1.cell? ⟨db, 4, none⟩ = some (.int .u32 d.e2) := HM.out.h.c 4 (by decide)
  have k5 : W1.cell? ⟨db, 5, none⟩ = some (.int .u32 d.e3) := HM.out.h.c 5 (by decide)
  have j2 := HM.out.h.b.fz 2
  have j3 := HM.out.h.b.fz 3
  have j4 := HM.out.h.b.fz 4
  have j5 := HM.out.h.b.fz 5
  have c9 : W1.cell? ⟨mb, 9, none⟩ = some (.bool m.d) := HM.out.m.cAt 9
  have c4 : W1.cell? ⟨mb, 4, none⟩ = some (.int .u32 m.d0) := HM.out.m.cAt 4
  have c5 : W1.cell? ⟨mb, 5, none⟩ = some (.int .u32 m.d1) := HM.out.m.cAt 5
  have c7' : W1.cell? ⟨mb, 6, none⟩ = some (.int .u32 m.d2) := HM.out.m.cAt 6
  have c8 : W1.cell? ⟨mb, 7, none⟩ = some (.int .u32 m.d3) := HM.out.m.cAt 7
  by_cases q : d.ow = m.f
  · have q1 : (d.ow == m.f) = true := by simpa using q
    cases hd : m.d
    · rw [hd] at c9
      obtain ⟨d1, hd1⟩ : ∃ d1 : W.Dm, d1 = { d with ow := -1 } := ⟨_, rfl⟩
      have h1 := HM.out.h.put 6 (.int .i64 (-1)) d1 (by rw [hd1]; exact dupd_ow d sv wv (-1)) (by rw [hd1]) (by rw [hd1])
      have HP : Hid (Dh n0 db d1 sv wv _ ∧ Du db sv wv sv wv w _) := ⟨h1.1, HM.out.u.trans h1.2⟩
      have HQ : Hid (W.dP d m = ({ d1 with sh := W.wo d.sh m.f }, [W.dmsg d1 9 m.f])) := by rw [hd1]; show W.dP d m = _; unfold W.dP W.dmsg; simp [q, hd]
      have HS : Hid (d1.sh = d.sh) := by rw [hd1]; exact rfl
      clear h1 q hd hd1
      go_upto_region 43 with fail
      clear HM c6 f6 k2 k3 k4 k5 j2 j3 j4 j5 c4 c5 c7' c8 c9 c0 c2
      generalize W1.setCell _ _ = W4 at *
      obtain ⟨s1, hs1, hLi⟩ := HP.out.1.os.li (by have := HK.out.2.1; rw [HS.out]; omega)
      have c7 : W4.cell? ⟨db, 7, none⟩ = some (slV s1) := by rw [← hs1]; exact HP.out.1.c 7 (by decide)
      rw [HS.out] at hLi
      have HWo : Hid (Calls _ _ _ _ _) := dwithout_any s1 d.sh m.f W4 hLi
      clear hs1 hLi
      go_wp2_with (fail)
      refine HWo.out.mono ?_
      rintro e w5 ⟨v5, rfl, ho5, hb5⟩
      have hwn : n0 ≤ W4.heap.size := Nat.le_trans HP.out.1.n0 (Nat.le_of_lt HP.out.1.b.lt)
      have hvb : ∀ g, v5.ownBlock = some g → W4.heap.size ≤ g := fun g e => (ho5.lt e).1
      have H6 := HP.out.1.below hb5
      have h7 := H6.setS (ho5.base hwn) (fun e => by have := hvb _ e; have := HP.out.1.b.lt; omega) w (Nat.le_trans HP.out.2.g.size hb5.size) (HP.out.2.trans (Du.of_below hb5)) (fun g e => Nat.le_trans HP.out.2.g.size (hvb g e))
      have t7 := H6.c 7 (by decide)
      have f7 := H6.b.fz 7
      dsimp only [dhF] at t7
      obtain ⟨a5, cap5, hv5, hcap5⟩ := ho5.len
      have HZ : Hid (_ ∧ _) := ⟨h7.1, h7.2⟩
      generalize (W.wo d.sh m.f).length = n5 at hv5 hcap5
      subst hv5
      have HMs : Hid (Calls _ _ _ _ _) := dmsg_any (d := d1) (h7.1.c 0 (by decide)) 9 m.f
      clear hwn hvb H6 h7 ho5 hb5 HWo c7 HP
      go_wp2_with (fail)
      clear t7 f7
      refine HMs.out.mono ?_
      rintro e w8 ⟨rfl, hb8⟩
      have bs := bsM_any (W.dmsg d1 9 m.f)
      have HR : Hid (_) := Rsd.oneB (HZ.out.1.below hb8) (HZ.out.2.trans (Du.of_below hb8)) (W.dmsg d1 9 m.f) rfl
      clear hb8 HMs
      have HQ' : Hid (Rsd n0 db ({ d1 with sh := W.wo d.sh m.f }, [W.dmsg d1 9 m.f]) sv wv w = Rsd n0 db (W.dP d m) sv wv w) := by rw [HQ.out]; exact rfl
      generalize W.dmsg d1 9 m.f = M at *
      go_wp2_with (fail)
      go_ret
      rw [← HQ'.out]
      exact HR.out
    · rw [hd] at c9
      obtain ⟨d1, hd1⟩ : ∃ d1 : W.Dm, d1 = { d with e0 := m.d0, e1 := m.d1, e2 := m.d2, e3 := m.d3, ow := -1 } := ⟨_, rfl⟩
      have g1 := HM.out.h.put 2 (.int .u32 m.d0) { d with e0 := m.d0 } (dupd_e0 d sv wv m.d0) rfl rfl
      have g2 := g1.1.put 3 (.int .u32 m.d1) { d with e0 := m.d0, e1 := m.d1 } (dupd_e1 _ sv wv m.d1) rfl rfl
      have g3 := g2.1.put 4 (.int .u32 m.d2) { d with e0 := m.d0, e1 := m.d1, e2 := m.d2 } (dupd_e2 _ sv wv m.d2) rfl rfl
      have g4 := g3.1.put 5 (.int .u32 m.d3) { d with e0 := m.d0, e1 := m.d1, e2 := m.d2, e3 := m.d3 } (dupd_e3 _ sv wv m.d3) rfl rfl
      have h1 := g4.1.put 6 (.int .i64 (-1)) d1 (by rw [hd1]; exact dupd_ow _ sv wv (-1)) (by rw [hd1]) (by rw [hd1])
      have g5 := ((g1.2.trans g2.2).trans (g3.2.trans g4.2)).trans h1.2
      have HP : Hid (Dh n0 db d1 sv wv _ ∧ Du db sv wv sv wv w _) := ⟨h1.1, HM.out.u.trans g5⟩
      have HQ : Hid (W.dP d m = ({ d1 with sh := W.wo d.sh m.f }, [W.dmsg d1 9 m.f])) := by rw [hd1]; show W.dP d m = _; unfold W.dP W.dmsg; simp [q, hd]
      have HS : Hid (d1.sh = d.sh) := by rw [hd1]; exact rfl
      clear g1 g2 g3 g4 g5 h1 q hd hd1
      go_upto_region 43 with fail
      clear HM c6 f6 k2 k3 k4 k5 j2 j3 j4 j5 c4 c5 c7' c8 c9 c0 c2
      generalize World.setCell (World.setCell (World.setCell (World.setCell (World.setCell W1 _ _) _ _) _ _) _ _) _ _ = W4 at *
      obtain ⟨s1, hs1, hLi⟩ := HP.out.1.os.li (by have := HK.out.2.1; rw [HS.out]; omega)
      have c7 : W4.cell? ⟨db, 7, none⟩ = some (slV s1) := by rw [← hs1]; exact HP.out.1.c 7 (by decide)
      rw [HS.out] at hLi
      have HWo : Hid (Calls _ _ _ _ _) := dwithout_any s1 d.sh m.f W4 hLi
      clear hs1 hLi
      go_wp2_with (fail)
      refine HWo.out.mono ?_
      rintro e w5 ⟨v5, rfl, ho5, hb5⟩
      have hwn : n0 ≤ W4.heap.size := Nat.le_trans HP.out.1.n0 (Nat.le_of_lt HP.out.1.b.lt)
      have hvb : ∀ g, v5.ownBlock = some g → W4.heap.size ≤ g := fun g e => (ho5.lt e).1
      have H6 := HP.out.1.below hb5
      have h7 := H6.setS (ho5.base hwn) (fun e => by have := hvb _ e; have := HP.out.1.b.lt; omega) w (Nat.le_trans HP.out.2.g.size hb5.size) (HP.out.2.trans (Du.of_below hb5)) (fun g e => Nat.le_trans HP.out.2.g.size (hvb g e))
      have t7 := H6.c 7 (by decide)
      have f7 := H6.b.fz 7
      dsimp only [dhF] at t7
      obtain ⟨a5, cap5, hv5, hcap5⟩ := ho5.len
      have HZ : Hid (_ ∧ _) := ⟨h7.1, h7.2⟩
      generalize (W.wo d.sh m.f).length = n5 at hv5 hcap5
      subst hv5
      have HMs : Hid (Calls _ _ _ _ _) := dmsg_any (d := d1) (h7.1.c 0 (by decide)) 9 m.f
      clear hwn hvb H6 h7 ho5 hb5 HWo c7 HP
      go_wp2_with (fail)
      clear t7 f7
      refine HMs.out.mono ?_
      rintro e w8 ⟨rfl, hb8⟩
      have bs := bsM_any (W.dmsg d1 9 m.f)
      have HR : Hid (_) := Rsd.oneB (HZ.out.1.below hb8) (HZ.out.2.trans (Du.of_below hb8)) (W.dmsg d1 9 m.f) rfl
      clear hb8 HMs
      have HQ' : Hid (Rsd n0 db ({ d1 with sh := W.wo d.sh m.f }, [W.dmsg d1 9 m.f]) sv wv w = Rsd n0 db (W.dP d m) sv wv w) := by rw [HQ.out]; exact rfl
      generalize W.dmsg d1 9 m.f = M at *
      go_wp2_with (fail)
      go_ret
      rw [← HQ'.out]
      exact HR.out
  · have q1 : (d.ow == m.f) = false := by simpa using q
    obtain ⟨d1, hd1⟩ : ∃ d1 : W.Dm, d1 = d := ⟨_, rfl⟩
    have HP : Hid (Dh n0 db d1 sv wv W1 ∧ Du db sv wv sv wv w W1) := by rw [hd1]; exact ⟨HM.out.h, HM.out.u⟩
    have HQ : Hid (W.dP d m = ({ d1 with sh := W.wo d.sh m.f }, [W.dmsg d1 9 m.f])) := by rw [hd1]; show W.dP d m = _; unfold W.dP W.dmsg; simp [q]
    have HS : Hid (d1.sh = d.sh) := by rw [hd1]; exact rfl
    clear q hd1
    go_upto_region 43 with fail
    clear HM c6 f6 k2 k3 k4 k5 j2 j3 j4 j5 c4 c5 c7' c8 c9 c0 c2
    generalize W1 = W4 at *
    obtain ⟨s1, hs1, hLi⟩ := HP.out.1.os.li (by have := HK.out.2.1; rw [HS.out]; omega)
    have c7 : W4.cell? ⟨db, 7, none⟩ = some (slV s1) := by rw [← hs1]; exact HP.out.1.c 7 (by decide)
    rw [HS.out] at hLi
    have HWo : Hid (Calls _ _ _ _ _) := dwithout_any s1 d.sh m.f W4 hLi
    clear hs1 hLi
    go_wp2_with (fail)
    refine HWo.out.mono ?_
    rintro e w5 ⟨v5, rfl, ho5, hb5⟩
    have hwn : n0 ≤ W4.heap.size := Nat.le_trans HP.out.1.n0 (Nat.le_of_lt HP.out.1.b.lt)
    have hvb : ∀ g, v5.ownBlock = some g → W4.heap.size ≤ g := fun g e => (ho5.lt e).1
    have H6 := HP.out.1.below hb5
    have h7 := H6.setS (ho5.base hwn) (fun e => by have := hvb _ e; have := HP.out.1.b.lt; omega) w (Nat.le_trans HP.out.2.g.size hb5.size) (HP.out.2.trans (Du.of_below hb5)) (fun g e => Nat.le_trans HP.out.2.g.size (hvb g e))
    have t7 := H6.c 7 (by decide)
    have f7 := H6.b.fz 7
    dsimp only [dhF] at t7
    obtain ⟨a5, cap5, hv5, hcap5⟩ := ho5.len
    have HZ : Hid (_ ∧ _) := ⟨h7.1, h7.2⟩
    generalize (W.wo d.sh m.f).length = n5 at hv5 hcap5
    subst hv5
    have HMs : Hid (Calls _ _ _ _ _) := dmsg_any (d := d1) (h7.1.c 0 (by decide)) 9 m.f
    clear hwn hvb H6 h7 ho5 hb5 HWo c7 HP
    go_wp2_with (fail)
    clear t7 f7
    refine HMs.out.mono ?_
    rintro e w8 ⟨rfl, hb8⟩
    have bs := bsM_any (W.dmsg d1 9 m.f)
    have HR : Hid (_) := Rsd.oneB (HZ.out.1.below hb8) (HZ.out.2.trans (Du.of_below hb8)) (W.dmsg d1 9 m.f) rfl
    clear hb8 HMs
    have HQ' : Hid (Rsd n0 db ({ d1 with sh := W.wo d.sh m.f }, [W.dmsg d1 9 m.f]) sv wv w = Rsd n0 db (W.dP d m) sv wv w) := by rw [HQ.out]; exact rfl
    generalize W.dmsg d1 9 m.f = M at *
    go_wp2_with (fail)
    go_ret
    rw [← HQ'.out]
    exact HR.out
set_option maxRecDepth 10000 in
set_option maxHeartbeats 3200000 in
theorem dtake_A (H : Dh n0 db d sv wv w) (m : W.Mg) (hk : m.k = 10) (hl : d.sh.length ≤ 4090) (hl2 : d.ws.length ≤ 4090) : Calls Try.prog 16 #[.pointer (some ⟨db, 0, none⟩), mgV m] w fun e w' => Rsd n0 db (W.dA { d with ws := W.wo d.ws m.f }) sv wv w e w' := by
  have hba := below_alloc w (.cells (mgL m).toArray 35)
  have H1 := H.below hba
  have hm := msgAt_new w m
  have hne : w.heap.size ≠ db := by have := H.b.lt; omega
  have HM : Hid (Bx n0 db d sv wv m w.heap.size w (w.alloc (.cells (mgL m).toArray 35))) := ⟨H1, hm, Du.of_below hba, hne⟩
  have c0 : (w.alloc (.cells (mgL m).toArray 35)).cell? ⟨w.heap.size, 0, none⟩ = some (.int .i64 m.k) := hm.cAt 0
  have c2 : (w.alloc (.cells (mgL m).toArray 35)).cell? ⟨w.heap.size, 2, none⟩ = some (.int .i64 m.f) := hm.cAt 2
  rw [hk] at c0
  have HK : Hid (m.k = 10 ∧ d.sh.length ≤ 4090 ∧ d.ws.length ≤ 4090) := ⟨hk, hl, hl2⟩
  clear H H1 hm hba hk hl hl2 hne
  have hV : mgV m = .agg (mgL m).toArray := rfl
  rw [hV]
  clear hV
  go_enter Try.func16, Try.ntmps16
  go_upto_region 1 with fail
  generalize World.alloc w _ = W1 at *
  generalize hmb : w.heap.size = mb at HM c0 c2 ⊢
  clear hmb
  have ne1 := HM.out.ne
  have ne2 := ne1.symm
  obtain ⟨s1, hs1, hLi⟩ := HM.out.h.oa.li (by have := HK.out.2.2; omega)
  have c11 : W1.cell? ⟨db, 11, none⟩ = some (slV s1) := by rw [← hs1]; exact HM.out.h.c 11 (by decide)
  have HWo : Hid (Calls _ _ _ _ _) := dwithout_any s1 d.ws m.f W1 hLi
  clear hs1 hLi
  go_wp2_with (fail)
  refine HWo.out.mono ?_
  rintro e w5 ⟨v5, rfl, ho5, hb5⟩
  have hwn : n0 ≤ W1.heap.size := Nat.le_trans HM.out.h.n0 (Nat.le_of_lt HM.out.h.b.lt)
  have hvb : ∀ g, v5.ownBlock = some g → W1.heap.size ≤ g := fun g e => (ho5.lt e).1
  have H6 := HM.out.h.below hb5
  have h7 := H6.setA (ho5.base hwn) (fun e => by have := hvb _ e; have := HM.out.h.b.lt; omega) w (Nat.le_trans HM.out.u.g.size hb5.size) (HM.out.u.trans (Du.of_below hb5)) (fun g e => Nat.le_trans HM.out.u.g.size (hvb g e))
  have t11 := H6.c 11 (by decide)
  have f11 := H6.b.fz 11
  dsimp only [dhF] at t11
  obtain ⟨a5, cap5, hv5, hcap5⟩ := ho5.len
  have HZ : Hid (_ ∧ _) := ⟨h7.1, h7.2⟩
  generalize hn5 : (W.wo d.ws m.f).length = n5 at hv5 hcap5
  have HN5 : Hid (n5 = (W.wo d.ws m.f).length) := hn5.symm
  clear hn5
  subst hv5
  clear hwn hvb H6 h7 ho5 hb5 HWo c11 HM c0 c2
  go_upto_region 47 with fail
  clear t11 f11
  generalize World.setCell w5 _ _ = W8 at *
  have k11 : W8.cell? ⟨db, 11, none⟩ = some (.slice a5 n5 cap5) := HZ.out.1.c 11 (by decide)
  have k12 : W8.cell? ⟨db, 12, none⟩ = some (.int .i64 d.fr) := HZ.out.1.c 12 (by decide)
  have hn5' := HN5.out
  have hcs : (n5 = 0 ∧ d.fr < 0 ∧ W.dA { d with ws := W.wo d.ws m.f } = W.dgv { d with ws := W.wo d.ws m.f }) ∨ ((n5 ≠ 0 ∨ ¬ d.fr < 0) ∧ W.dA { d with ws := W.wo d.ws m.f } = ({ d with ws := W.wo d.ws m.f }, [])) := by
    by_cases e : n5 = 0 ∧ d.fr < 0
    · refine Or.inl ⟨e.1, e.2, ?_⟩
      unfold W.dA
      rw [if_pos ⟨List.eq_nil_of_length_eq_zero (by show (W.wo d.ws m.f).length = 0; omega), e.2⟩]
    · refine Or.inr ⟨by omega, ?_⟩
      unfold W.dA
      rw [if_neg (by rintro ⟨a, b⟩; have a : W.wo d.ws m.f = [] := a; rw [a] at hn5'; exact e ⟨hn5', b⟩)]
  clear hn5' HN5
  rcases hcs with ⟨rfl, hf, hQ⟩ | ⟨hno, hQ⟩
  · have n4 : decide (d.fr < 0) = true := decide_eq_true hf
    have HQ : Hid (_) := hQ
    clear hQ
    go_wp2_with (fail)
    refine (dgive_any HZ.out.1).mono ?_
    intro e w9 hres
    obtain ⟨sl, sv1, av1, rfl, hm1, hH1, hu1, hap1⟩ := hres
    have HR9 : Hid (Rsd n0 db (W.dgv { d with ws := W.wo d.ws m.f }) sv wv w (.returned (slV sl)) w9) := Rsd.from HZ.out.2 ⟨sl, sv1, av1, rfl, hm1, hH1, hu1, hap1⟩
    clear hm1 hH1 hu1 hap1
    go_wp2
    go_ret
    rw [HQ.out]
    exact HR9.out
  · have HQ : Hid (_) := hQ
    clear hQ
    by_cases hz5 : n5 = 0
    · subst hz5
      have n4 : decide (d.fr < 0) = false := decide_eq_false (by omega)
      have n4' : ¬ d.fr < 0 := by omega
      go_wp2
      go_ret
      rw [HQ.out]
      exact Rsd.nilR HZ.out.1 HZ.out.2
    · obtain ⟨n5, rfl⟩ : ∃ k, n5 = k + 1 := ⟨n5 - 1, by omega⟩
      have hp5 : ((n5 + 1 : Nat) : Int) ≠ 0 := by omega
      clear hno hz5
      go_wp2
      go_ret
      rw [HQ.out]
      exact Rsd.nilR HZ.out.1 HZ.out.2
end Go.Proofs.Ythkielaicnmaeaa
