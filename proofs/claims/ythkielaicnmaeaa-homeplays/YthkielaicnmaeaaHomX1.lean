/- home: the document's Take: GetM. -/
import Derived.Test.YthkielaicnmaeaaHomX0
namespace Go.Proofs.Ythkielaicnmaeaa
open Go.ChangeShapes Go.WideShapes Go.ChangeAt Go.RowKit
set_option linter.unusedVariables false
set_option linter.unusedSimpArgs false
attribute [local go_sem ↓] ldM_eq stM_eq bdM_eq bsM_eq
variable {n0 db : Nat} {d d' : W.Dm} {sv wv sv' wv' sv'' wv'' : Value} {w w' w'' : World}
namespace W
theorem dout_len (d : Dm) (r : Int) (ws : List Int) : ∀ n, (dout d r ws n).length ≤ 2 * n
  | 0 => Nat.le_refl _
  | n + 1 => by
    have := dout_len d r ws n
    unfold dout dto
    rw [List.length_append, List.length_append]
    split <;> split <;> simp <;> omega
theorem dfr_succ (d : Dm) (r : Int) (n : Nat) : dfr d r (n + 1) = if (n : Int) = d.ow ∧ (n : Int) ≠ r then (n : Int) else dfr d r n := by
  unfold dfr
  by_cases h : (n : Int) = d.ow ∧ (n : Int) ≠ r
  · rw [if_pos h, if_pos ⟨by omega, by omega, by omega⟩, h.1]
  · rw [if_neg h]
    by_cases h2 : 0 ≤ d.ow ∧ d.ow < n ∧ d.ow ≠ r
    · rw [if_pos h2, if_pos ⟨h2.1, by omega, h2.2.2⟩]
    · rw [if_neg h2, if_neg (by rintro ⟨a, b, c⟩; by_cases e : d.ow = n
                                · exact h ⟨e.symm, by omega⟩
                                · exact h2 ⟨a, by omega, c⟩)]
end W
/-- The document's home's blocks lie below B. -/
def Dlo (db : Nat) (sv wv : Value) (B : Nat) : Prop := db < B ∧ (∀ g, sv.ownBlock = some g → g < B) ∧ ∀ g, wv.ownBlock = some g → g < B
theorem Dh.lo (H : Dh n0 db d sv wv w) : Dlo db sv wv w.heap.size := ⟨H.b.lt, fun g e => (H.os.lt e).2, fun g e => (H.oa.lt e).2⟩
theorem Dh.far (H : Dh n0 db d sv wv w) {B : Nat} (hl : Dlo db sv wv B) (h : Below B w w') : Dh n0 db d sv wv w' :=
  ⟨⟨Nat.lt_of_lt_of_le H.b.lt h.size, fun j hj => (World.cell?_of_block (a := ⟨db, j, none⟩) (h.block db hl.1)).trans (H.b.c j hj), fun j => (World.frozen?_of_block (a := ⟨db, j, none⟩) (h.block db hl.1)).trans (H.b.fz j)⟩, H.os.far hl.2.1 h, H.oa.far hl.2.2 h, H.sn, H.an, H.n0⟩
theorem Du.far (h : Du db sv wv sv' wv' w w') {B : Nat} (hb2 : Below B w' w'') (hB : w.heap.size ≤ B) : Du db sv wv sv' wv' w w'' :=
  ⟨⟨hb2.os.trans h.g.os, hb2.tape.trans h.g.tape, hb2.output.trans h.g.output, Nat.le_trans h.g.size hb2.size, fun b hb hn => (hb2.block b (by omega)).trans (h.g.block b hb hn)⟩, h.fs, h.fa⟩
theorem dm0_eq (d : W.Dm) (r x : Int) : ({ W.dM0 d r with fr := x } : W.Dm) = { d with bz := true, k := 2, by_ := r, had := W.mg0, own := decide (d.ow = r), ws := W.wo d.sh r, fr := x } := rfl
set_option maxRecDepth 10000 in
set_option maxHeartbeats 3200000 in
theorem dtake_M (H : Dh n0 db d sv wv w) (m : W.Mg) (hk : m.k = 2) (hl : d.sh.length ≤ 4090) (hs0 : 0 ≤ d.hs) (hs4 : d.hs ≤ 4) : Calls Try.prog 16 #[.pointer (some ⟨db, 0, none⟩), mgV m] w fun e w' => Rsd n0 db (W.dM d m.f) sv wv w e w' := by
  have hba := below_alloc w (.cells (mgL m).toArray 35)
  have H1 := H.below hba
  have hm := msgAt_new w m
  have hne : w.heap.size ≠ db := by have := H.b.lt; omega
  have HM : Hid (Bx n0 db d sv wv m w.heap.size w (w.alloc (.cells (mgL m).toArray 35))) := ⟨H1, hm, Du.of_below hba, hne⟩
  have c0 : (w.alloc (.cells (mgL m).toArray 35)).cell? ⟨w.heap.size, 0, none⟩ = some (.int .i64 m.k) := hm.cAt 0
  have c2 : (w.alloc (.cells (mgL m).toArray 35)).cell? ⟨w.heap.size, 2, none⟩ = some (.int .i64 m.f) := hm.cAt 2
  rw [hk] at c0
  have HK : Hid (m.k = 2 ∧ d.sh.length ≤ 4090) := ⟨hk, hl⟩
  obtain ⟨N, hN⟩ : ∃ N : Nat, d.hs = N := ⟨d.hs.toNat, by omega⟩
  have HN : Hid (d.hs = N ∧ d.hs.toNat = N ∧ N ≤ 4) := ⟨hN, by omega, by omega⟩
  clear H H1 hm hba hk hl hne hs0 hs4 hN
  have hV : mgV m = .agg (mgL m).toArray := rfl
  rw [hV]
  clear hV
  go_enter Try.func16, Try.ntmps16
  go_upto_region 1 with fail
  generalize World.alloc w _ = W1 at *
  generalize hmb : w.heap.size = mb at HM c0 c2 ⊢
  clear hmb
  have c6 : W1.cell? ⟨db, 6, none⟩ = some (.int .i64 d.ow) := HM.out.h.c 6 (by decide)
  have c8 : W1.cell? ⟨db, 8, none⟩ = some (.bool d.bz) := HM.out.h.c 8 (by decide)
  have c9 : W1.cell? ⟨db, 9, none⟩ = some (.int .i64 d.k) := HM.out.h.c 9 (by decide)
  have c10 : W1.cell? ⟨db, 10, none⟩ = some (.int .i64 d.by_) := HM.out.h.c 10 (by decide)
  have f8 := HM.out.h.b.fz 8
  have f9 := HM.out.h.b.fz 9
  have f10 := HM.out.h.b.fz 10
  have ne1 := HM.out.ne
  have ne2 := ne1.symm
  have h1 := HM.out.h.put 8 (.bool true) { d with bz := true } (dupd_bz d sv wv true) rfl rfl
  have h2 := h1.1.put 9 (.int .i64 2) { d with bz := true, k := 2 } (dupd_k _ sv wv 2) rfl rfl
  have h3 := h2.1.put 10 (.int .i64 m.f) { d with bz := true, k := 2, by_ := m.f } (dupd_by _ sv wv m.f) rfl rfl
  have hu3 := HM.out.u.trans ((h1.2.trans h2.2).trans h3.2)
  have hst := h3.1.stB W.mg0
  have h4 := h3.1.setB W.mg0
  have H4 : Hid (_ ∧ _) := ⟨h4.1, hu3.trans h4.2⟩
  have bd := bdM_0
  clear h1 h2 h3 hu3 h4
  go_upto_region 22 with fail
  clear c6 c8 c9 c10 f8 f9 f10 hst bd c0 c2
  generalize World.setCells _ db 13 _ = W4 at *
  have c6 : W4.cell? ⟨db, 6, none⟩ = some (.int .i64 d.ow) := H4.out.1.c 6 (by decide)
  have c24 : W4.cell? ⟨db, 24, none⟩ = some (.bool d.own) := H4.out.1.c 24 (by decide)
  have f24 := H4.out.1.b.fz 24
  have eow : (d.ow == m.f) = decide (d.ow = m.f) := by by_cases e : d.ow = m.f <;> simp [e]
  have h5 := H4.out.1.put 24 (.bool (d.ow == m.f)) { d with bz := true, k := 2, by_ := m.f, had := W.mg0, own := (d.ow == m.f) } (dupd_own _ sv wv _) rfl rfl
  rw [eow] at h5
  obtain ⟨s1, hs1, hLi⟩ := h5.1.os.li (by have := HK.out.2; show d.sh.length ≤ 4096; omega)
  have H5 : Hid (_ ∧ _) := ⟨h5.1, H4.out.2.trans h5.2⟩
  have c7 : W4.cell? ⟨db, 7, none⟩ = some (slV s1) := by rw [← hs1]; exact H4.out.1.c 7 (by decide)
  have HWo : Hid (Calls _ _ _ _ _) := dwithout_any s1 d.sh m.f _ hLi
  clear hs1 hLi h5 H4
  have HEO : Hid (_) := eow
  clear eow
  generalize hOW : (d.ow == m.f) = ob at *
  go_wp2_with (fail)
  rw [← hOW, HEO.out] at *
  refine HWo.out.mono ?_
  rintro e w2 ⟨v2, rfl, ho2, hb2⟩
  have H6 := H5.out.1.below hb2
  have hn0 : n0 ≤ (W4.setCell ⟨db, 24, none⟩ (.bool (decide (d.ow = m.f)))).heap.size := Nat.le_trans H5.out.1.n0 (Nat.le_of_lt H5.out.1.b.lt)
  have hvb : ∀ g, v2.ownBlock = some g → (W4.setCell ⟨db, 24, none⟩ (.bool (decide (d.ow = m.f)))).heap.size ≤ g := fun g e => (ho2.lt e).1
  have h7 := H6.setA (ho2.base hn0) (fun e => by have := hvb _ e; have := H5.out.1.b.lt; omega) w (Nat.le_trans H5.out.2.g.size hb2.size) (H5.out.2.trans (Du.of_below hb2)) (fun g e => Nat.le_trans H5.out.2.g.size (hvb g e))
  have c11 := H6.c 11 (by decide)
  have f11 := H6.b.fz 11
  dsimp only [dhF] at c11
  obtain ⟨a2, cap2, hv2, hcap2⟩ := ho2.len
  have HL2 : Hid ((W.wo d.sh m.f).length ≤ 4090) := Nat.le_trans (W.wo_len _ _) HK.out.2
  have H7 : Hid (_ ∧ _) := ⟨h7.1, h7.2⟩
  clear hvb hn0 h7 H6 ho2 hb2 HWo c6 c7 c24 f24 H5
  generalize hn2 : (W.wo d.sh m.f).length = n2q at hv2 hcap2 HL2
  have HNQ : Hid ((W.wo d.sh m.f).length = n2q) := hn2
  clear hn2
  subst hv2
  go_upto_region 24 with fail
  clear c11 f11
  generalize World.setCell w2 _ _ = W5 at *
  have HB : Hid (db < W5.heap.size ∧ w.heap.size ≤ W5.heap.size ∧ n0 ≤ W5.heap.size) := ⟨H7.out.1.b.lt, H7.out.2.g.size, Nat.le_trans H7.out.1.n0 (Nat.le_of_lt H7.out.1.b.lt)⟩
  obtain ⟨B, hB⟩ : ∃ B, W5.heap.size = B := ⟨_, rfl⟩
  rw [hB] at HB
  have HLO : Hid (Dlo db sv (.slice a2 n2q cap2) B) := by rw [← hB]; exact H7.out.1.lo
  have HS0 : Hid (Dh n0 db { W.dM0 d m.f with fr := W.dfr d m.f 0 } sv (.slice a2 n2q cap2) W5 ∧ Du db sv wv sv (.slice a2 n2q cap2) w W5 ∧ B ≤ W5.heap.size) := ⟨by
    rw [show W.dfr d m.f 0 = d.fr by unfold W.dfr; rw [if_neg (by omega)]]
    exact H7.out.1, H7.out.2, by omega⟩
  clear hB H7
  go_wp2_with (fail)
  go_loopw [6, 7] (fun v i wr => ∃ j : Nat, j ≤ N ∧ i = .int .i64 j ∧ Om B v (W.dout d m.f (W.wo d.sh m.f) j) wr ∧ Dh n0 db { W.dM0 d m.f with fr := W.dfr d m.f j } sv (.slice a2 n2q cap2) wr ∧ Du db sv wv sv (.slice a2 n2q cap2) w wr ∧ B ≤ wr.heap.size) (fun _ i _ => N - (intOf i).toNat)
  case atStart => exact ⟨0, by omega, rfl, Om.nil _ _, HS0.out.1, HS0.out.2.1, HS0.out.2.2⟩
  case round =>
    obtain ⟨j, hj, rfl, hO, hH, hu, hBs⟩ := hrel
    have HR : Hid (_ ∧ _ ∧ _ ∧ _) := ⟨hO, hH, hu, hBs⟩
    clear hO hH hu hBs HS0
    have c1 : wr.cell? ⟨db, 1, none⟩ = some (.int .i64 (N : Int)) := by
      have := HR.out.2.1.c 1 (by decide)
      rw [← HN.out.1]
      exact this
    have c6 : wr.cell? ⟨db, 6, none⟩ = some (.int .i64 d.ow) := HR.out.2.1.c 6 (by decide)
    have c11 : wr.cell? ⟨db, 11, none⟩ = some (.slice a2 n2q cap2) := HR.out.2.1.c 11 (by decide)
    by_cases hlt : j < N
    · have hltI : (j : Int) < N := by omega
      have hN4 : (N : Int) ≤ 4 := by have := HN.out.2.2; omega
      obtain ⟨s2, hs2, hL2⟩ := HR.out.2.1.oa.li (Nat.le_trans (W.wo_len _ _) (Nat.le_trans HK.out.2 (by decide)))
      have HAm : Hid (Calls _ _ _ _ _) := among_any s2 _ (j : Int) wr hL2
      rw [← hs2] at HAm
      clear hs2 hL2
      have hd0 : ({ W.dM0 d m.f with fr := W.dfr d m.f j } : W.Dm).ws = W.wo d.sh m.f := rfl
      rw [hd0] at HAm
      clear hd0
      have HLen : Hid ((W.dout d m.f (W.wo d.sh m.f) j).length ≤ 8) := by
        have := W.dout_len d m.f (W.wo d.sh m.f) j
        have := HN.out.2.2
        show _ ≤ _
        omega
      obtain ⟨av, hav⟩ : ∃ av, decide ((j : Int) ∈ W.wo d.sh m.f) = av := ⟨_, rfl⟩
      rw [hav] at HAm
      by_cases eo : (j : Int) = d.ow
      · have n1 : ((j : Int) != d.ow) = false := by simp [eo]
        have n2 : ((j : Int) == d.ow) = true := by simp [eo]
        by_cases er : (j : Int) = m.f
        · have n3 : ((j : Int) != m.f) = false := by simp [er]
          have hdo : W.dout d m.f (W.wo d.sh m.f) (j + 1) = W.dout d m.f (W.wo d.sh m.f) j := by
            show W.dout d m.f (W.wo d.sh m.f) j ++ W.dto d m.f (W.wo d.sh m.f) j = _
            unfold W.dto
            rw [if_neg (fun h => h.2 eo), if_neg (fun h => h.2 er)]
            simp
          have hdf : W.dfr d m.f (j + 1) = W.dfr d m.f j := by rw [W.dfr_succ, if_neg (fun h => h.2 er)]
          have HF : Hid (Om B u6 (W.dout d m.f (W.wo d.sh m.f) (j + 1)) wr ∧ Dh n0 db { W.dM0 d m.f with fr := W.dfr d m.f (j + 1) } sv (.slice a2 n2q cap2) wr ∧ _ ∧ _) := ⟨by rw [hdo]; exact HR.out.1, by rw [hdf]; exact HR.out.2.1, HR.out.2.2⟩
          clear HR hdo hdf eo er hav
          cases av
          all_goals
            go_wp2_with (fail)
            refine HAm.out.mono ?_
            rintro e w3 ⟨rfl, rfl⟩
            go_wp2
            go_roundw
            case rel => exact ⟨j + 1, by omega, by go_num, HF.out.1, HF.out.2.1, HF.out.2.2.1, HF.out.2.2.2⟩
            case measure => simp [intOf]; omega
        · have n3 : ((j : Int) != m.f) = true := by simpa using er
          have hdo : W.dout d m.f (W.wo d.sh m.f) (j + 1) = W.dout d m.f (W.wo d.sh m.f) j ++ [W.dmsg d 6 j] := by
            show W.dout d m.f (W.wo d.sh m.f) j ++ W.dto d m.f (W.wo d.sh m.f) j = _
            unfold W.dto
            rw [if_neg (fun h => h.2 eo), if_pos ⟨eo, er⟩]
            rfl
          have hdf : W.dfr d m.f (j + 1) = (j : Int) := by rw [W.dfr_succ, if_pos ⟨eo, er⟩]
          have c12 := HR.out.2.1.c 12 (by decide)
          have f12 := HR.out.2.1.b.fz 12
          have h8 := HR.out.2.1.put 12 (.int .i64 (j : Int)) { W.dM0 d m.f with fr := (j : Int) } (dupd_fr _ sv _ (j : Int)) rfl rfl
          have ho8 := HR.out.1.keep (gsetCell wr db 12 (.int .i64 (j : Int))) (fun g e e2 => by cases e2; have := (HR.out.1.own e).1; have := HB.out.1; omega)
          have hz8 : B ≤ (wr.setCell ⟨db, 12, none⟩ (.int .i64 (j : Int))).heap.size := by have := HR.out.2.2.2; simpa [World.setCell] using this
          have HX : Hid (Om B u6 (W.dout d m.f (W.wo d.sh m.f) j) _ ∧ Dh n0 db { W.dM0 d m.f with fr := (j : Int) } sv (.slice a2 n2q cap2) _ ∧ Du db sv wv sv (.slice a2 n2q cap2) w _ ∧ B ≤ _) := ⟨ho8, h8.1, HR.out.2.2.1.trans h8.2, hz8⟩
          have HDo : Hid (_ ∧ _) := ⟨hdo, hdf⟩
          have HMs : Hid (Calls _ _ _ _ _) := dmsg_any (d := d) (HX.out.2.1.c 0 (by decide)) 6 (j : Int)
          clear HR hdo hdf er eo hav h8 ho8 hz8
          cases av
          all_goals
            go_wp2_with (fail)
            refine HAm.out.mono ?_
            rintro e w3 ⟨rfl, rfl⟩
            clear HAm
            go_wp2_with (fail)
            refine HMs.out.mono ?_
            rintro e w4 ⟨rfl, hb4⟩
            generalize W.dmsg d 6 (j : Int) = M at *
            have bs := bsM_any M
            have hb5 := hb4.trans ((below_alloc w4 (.cells (mgL M).toArray 35)).mono hb4.size)
            have HO5 : Hid (Om B u6 (W.dout d m.f (W.wo d.sh m.f) j) (w4.alloc (.cells (mgL M).toArray 35)) ∧ Dh n0 db _ sv (.slice a2 n2q cap2) (w4.alloc (.cells (mgL M).toArray 35)) ∧ Du db sv wv sv (.slice a2 n2q cap2) w (w4.alloc (.cells (mgL M).toArray 35)) ∧ B ≤ (w4.alloc (.cells (mgL M).toArray 35)).heap.size) := ⟨HX.out.1.below hb5, HX.out.2.1.below hb5, HX.out.2.2.1.trans (Du.of_below hb5), Nat.le_trans HX.out.2.2.2 hb5.size⟩
            have HNW : Hid (∀ i u, (mgL M)[i]? = some u → (w4.alloc (.cells (mgL M).toArray 35)).cell? ((⟨w4.heap.size, 0, none⟩ : Addr).add i) = some u) := (msgAt_new w4 M).news
            have hLn := HLen.out
            have hsz : B ≤ w4.heap.size + 1 := by have := HO5.out.2.2.2; simpa using this
            obtain ⟨ti, hti, hzz⟩ := Option.map_eq_some_iff.1 infoMg
            simp only [Prod.mk.injEq] at hzz
            obtain ⟨hz0, hz1, hz2⟩ := hzz
            clear HX hb4 hb5 HMs
            generalize W.dout d m.f (W.wo d.sh m.f) j = T at *
            go_wp2_with (at_builtin; refine wpList_append_lies _ rfl _ _ 25 rfl B 35 ti (.agg zMg) 11 56 Try.underlying25 hti hz0 hz1 hz2 rfl (by decide) u6 T.length (mgX T) rfl HO5.out.1 ⟨w4.heap.size, 0, none⟩ 1 1 (mgL M) rfl rfl HNW.out (oneM M) (by decide) (by unfold maxLen; omega) (by omega) (by simp; omega) (w4.heap.size + 1) (by simp) ?_; intro gx cx w6 hown6 hg6 hat6 hlt6; have c6' : w6.cell? ⟨db, 6, none⟩ = some (.int .i64 d.ow) := (HO5.out.2.1.far HLO.out (below_grown hg6 HO5.out.2.2.2 (fun b e => (HO5.out.1.own e).1))).c 6 (by decide))
            have hX6 : Om B (.slice (some ⟨gx, 0, none⟩) (T.length + 1) cx) (T ++ [M]) w6 := by
              unfold Om
              rw [List.length_append, mgX_app]
              exact hown6
            rw [← HDo.out.1] at hX6
            have hbb := below_grown hg6 HO5.out.2.2.2 (fun b e => (HO5.out.1.own e).1)
            have H6 : Hid (_ ∧ Dh n0 db { W.dM0 d m.f with fr := W.dfr d m.f (j + 1) } sv (.slice a2 n2q cap2) w6 ∧ Du db sv wv sv (.slice a2 n2q cap2) w w6 ∧ B ≤ w6.heap.size) := ⟨hX6, by rw [HDo.out.2]; exact HO5.out.2.1.far HLO.out hbb, HO5.out.2.2.1.far hbb HB.out.2.1, Nat.le_trans HO5.out.2.2.2 hbb.size⟩
            clear hX6 hbb hown6 hg6 hat6 hlt6 HNW HO5 hsz bs hz0 hz1 hz2 hti HDo hLn
            clear c12 f12
            go_wp2
            go_roundw
            case rel => exact ⟨j + 1, by omega, by go_num, H6.out.1, H6.out.2.1, H6.out.2.2.1, H6.out.2.2.2⟩
            case measure => simp [intOf]; omega
      · have n1 : ((j : Int) != d.ow) = true := by simpa using eo
        have n2 : ((j : Int) == d.ow) = false := by simpa using eo
        have hdf : W.dfr d m.f (j + 1) = W.dfr d m.f j := by rw [W.dfr_succ, if_neg (fun h => eo h.1)]
        cases av
        · have hno : ¬ (j : Int) ∈ W.wo d.sh m.f := of_decide_eq_false hav
          have hdo : W.dout d m.f (W.wo d.sh m.f) (j + 1) = W.dout d m.f (W.wo d.sh m.f) j := by
            show W.dout d m.f (W.wo d.sh m.f) j ++ W.dto d m.f (W.wo d.sh m.f) j = _
            unfold W.dto
            rw [if_neg (fun h => hno h.1), if_neg (fun h => eo h.1)]
            simp
          have HF : Hid (Om B u6 (W.dout d m.f (W.wo d.sh m.f) (j + 1)) wr ∧ Dh n0 db { W.dM0 d m.f with fr := W.dfr d m.f (j + 1) } sv (.slice a2 n2q cap2) wr ∧ _ ∧ _) := ⟨by rw [hdo]; exact HR.out.1, by rw [hdf]; exact HR.out.2.1, HR.out.2.2⟩
          clear HR hdo hdf eo hno hav
          go_wp2_with (fail)
          refine HAm.out.mono ?_
          rintro e w3 ⟨rfl, rfl⟩
          go_wp2
          go_roundw
          case rel => exact ⟨j + 1, by omega, by go_num, HF.out.1, HF.out.2.1, HF.out.2.2.1, HF.out.2.2.2⟩
          case measure => simp [intOf]; omega
        · have hin : (j : Int) ∈ W.wo d.sh m.f := of_decide_eq_true hav
          have hdo : W.dout d m.f (W.wo d.sh m.f) (j + 1) = W.dout d m.f (W.wo d.sh m.f) j ++ [W.dmsg d 4 j] := by
            show W.dout d m.f (W.wo d.sh m.f) j ++ W.dto d m.f (W.wo d.sh m.f) j = _
            unfold W.dto
            rw [if_pos ⟨hin, eo⟩, if_neg (fun h => eo h.1), List.append_nil]
          have HX : Hid (Om B u6 (W.dout d m.f (W.wo d.sh m.f) j) wr ∧ Dh n0 db { W.dM0 d m.f with fr := W.dfr d m.f j } sv (.slice a2 n2q cap2) wr ∧ Du db sv wv sv (.slice a2 n2q cap2) w wr ∧ B ≤ wr.heap.size) := HR.out
          have HDo : Hid (_ ∧ _) := ⟨hdo, hdf⟩
          have HMs : Hid (Calls _ _ _ _ _) := dmsg_any (d := d) (HX.out.2.1.c 0 (by decide)) 4 (j : Int)
          clear HR hdo hdf eo hin hav
          go_wp2_with (fail)
          refine HAm.out.mono ?_
          rintro e w3 ⟨rfl, rfl⟩
          clear HAm
          go_wp2_with (fail)
          refine HMs.out.mono ?_
          rintro e w4 ⟨rfl, hb4⟩
          generalize W.dmsg d 4 (j : Int) = M at *
          have bs := bsM_any M
          have hb5 := hb4.trans ((below_alloc w4 (.cells (mgL M).toArray 35)).mono hb4.size)
          have HO5 : Hid (Om B u6 (W.dout d m.f (W.wo d.sh m.f) j) (w4.alloc (.cells (mgL M).toArray 35)) ∧ Dh n0 db _ sv (.slice a2 n2q cap2) (w4.alloc (.cells (mgL M).toArray 35)) ∧ Du db sv wv sv (.slice a2 n2q cap2) w (w4.alloc (.cells (mgL M).toArray 35)) ∧ B ≤ (w4.alloc (.cells (mgL M).toArray 35)).heap.size) := ⟨HX.out.1.below hb5, HX.out.2.1.below hb5, HX.out.2.2.1.trans (Du.of_below hb5), Nat.le_trans HX.out.2.2.2 hb5.size⟩
          have HNW : Hid (∀ i u, (mgL M)[i]? = some u → (w4.alloc (.cells (mgL M).toArray 35)).cell? ((⟨w4.heap.size, 0, none⟩ : Addr).add i) = some u) := (msgAt_new w4 M).news
          have hLn := HLen.out
          have hsz : B ≤ w4.heap.size + 1 := by have := HO5.out.2.2.2; simpa using this
          obtain ⟨ti, hti, hzz⟩ := Option.map_eq_some_iff.1 infoMg
          simp only [Prod.mk.injEq] at hzz
          obtain ⟨hz0, hz1, hz2⟩ := hzz
          clear HX hb4 hb5 HMs
          generalize W.dout d m.f (W.wo d.sh m.f) j = T at *
          go_wp2_with (at_builtin; refine wpList_append_lies _ rfl _ _ 25 rfl B 35 ti (.agg zMg) 11 56 Try.underlying25 hti hz0 hz1 hz2 rfl (by decide) u6 T.length (mgX T) rfl HO5.out.1 ⟨w4.heap.size, 0, none⟩ 1 1 (mgL M) rfl rfl HNW.out (oneM M) (by decide) (by unfold maxLen; omega) (by omega) (by simp; omega) (w4.heap.size + 1) (by simp) ?_; intro gx cx w6 hown6 hg6 hat6 hlt6; have c6' : w6.cell? ⟨db, 6, none⟩ = some (.int .i64 d.ow) := (HO5.out.2.1.far HLO.out (below_grown hg6 HO5.out.2.2.2 (fun b e => (HO5.out.1.own e).1))).c 6 (by decide))
          have hX6 : Om B (.slice (some ⟨gx, 0, none⟩) (T.length + 1) cx) (T ++ [M]) w6 := by
            unfold Om
            rw [List.length_append, mgX_app]
            exact hown6
          rw [← HDo.out.1] at hX6
          have hbb := below_grown hg6 HO5.out.2.2.2 (fun b e => (HO5.out.1.own e).1)
          have H6 : Hid (_ ∧ Dh n0 db { W.dM0 d m.f with fr := W.dfr d m.f (j + 1) } sv (.slice a2 n2q cap2) w6 ∧ Du db sv wv sv (.slice a2 n2q cap2) w w6 ∧ B ≤ w6.heap.size) := ⟨hX6, by rw [HDo.out.2]; exact HO5.out.2.1.far HLO.out hbb, HO5.out.2.2.1.far hbb HB.out.2.1, Nat.le_trans HO5.out.2.2.2 hbb.size⟩
          clear hX6 hbb hown6 hg6 hat6 hlt6 HNW HO5 hsz bs hz0 hz1 hz2 hti HDo hLn
          go_wp2
          go_roundw
          case rel => exact ⟨j + 1, by omega, by go_num, H6.out.1, H6.out.2.1, H6.out.2.2.1, H6.out.2.2.2⟩
          case measure => simp [intOf]; omega
    · have hjN : j = N := by omega
      subst hjN
      have hM1 : ∀ x, { W.dM0 d m.f with fr := W.dfr d m.f j, ws := x } = ({ { W.dM0 d m.f with fr := W.dfr d m.f j } with ws := x } : W.Dm) := fun x => rfl
      by_cases ho : 0 ≤ d.ow
      · have n1 : decide (0 ≤ d.ow) = true := decide_eq_true ho
        have HD1 : Hid (W.dM1 d m.f = { { W.dM0 d m.f with fr := W.dfr d m.f j } with ws := W.wo (W.wo d.sh m.f) d.ow }) := by
          show W.dM1 d m.f = _
          unfold W.dM1
          rw [if_pos ho, HN.out.2.1]
        clear hM1
        go_wp2_with (fail)
        have hdw : Below wr.heap.size wr wr.drew := (Below.refl _ _).drew
        have H5 := HR.out.2.1.below hdw
        have ho5 := HR.out.1.below hdw
        obtain ⟨s2, hs2, hL2⟩ := H5.oa.li (Nat.le_trans (W.wo_len _ _) (Nat.le_trans HK.out.2 (by decide)))
        have HW : Hid (Calls _ _ _ _ _) := dwithout_any s2 _ d.ow wr.drew hL2
        rw [← hs2] at HW
        have r6 : wr.drew.cell? ⟨db, 6, none⟩ = some (.int .i64 d.ow) := H5.c 6 (by decide)
        have r11 : wr.drew.cell? ⟨db, 11, none⟩ = some (.slice a2 n2q cap2) := H5.c 11 (by decide)
        have HX : Hid (_ ∧ _ ∧ _ ∧ B ≤ wr.drew.heap.size ∧ wr.drew.heap.size = wr.heap.size) := ⟨H5, ho5, HR.out.2.2.1.trans (Du.of_below hdw), HR.out.2.2.2, rfl⟩
        clear hdw H5 ho5 hs2 hL2 HR
        go_region_with (first
          | (go_at_call 34; refine HW.out.mono ?_; rintro e w5 ⟨v5, rfl, ho6, hb6⟩; obtain ⟨a5, cap5, hv5, hcap5⟩ := ho6.len; have HO6 : Hid (On wr.drew.heap.size v5 (W.wo (W.wo d.sh m.f) d.ow) w5) := ho6; generalize hn5 : (W.wo (({ W.dM0 d m.f with fr := W.dfr d m.f j } : W.Dm).ws) d.ow).length = n5 at hv5 hcap5; clear hn5 ho6; subst hv5
             have t11 := (HX.out.1.below hb6).c 11 (by decide)
             have f11 := (HX.out.1.below hb6).b.fz 11
             dsimp only [dhF] at t11))
        all_goals
          have H7 := HX.out.1.below hb6
          have hwn : n0 ≤ wr.drew.heap.size := Nat.le_trans HX.out.1.n0 (Nat.le_of_lt HX.out.1.b.lt)
          have hvb : ∀ g, (Value.slice a5 n5 cap5).ownBlock = some g → wr.drew.heap.size ≤ g := fun g e => (HO6.out.lt e).1
          have hu7 := HX.out.2.2.1.trans (Du.of_below (sv := sv) (wv := .slice a2 n2q cap2) (db := db) hb6)
          have h8 : Dh n0 db { { W.dM0 d m.f with fr := W.dfr d m.f j } with ws := W.wo (W.wo d.sh m.f) d.ow } sv (.slice a5 n5 cap5) (w5.setCell ⟨db, 11, none⟩ (.slice a5 n5 cap5)) ∧ Du db sv wv sv (.slice a5 n5 cap5) w (w5.setCell ⟨db, 11, none⟩ (.slice a5 n5 cap5)) := by
            have hg := gsetCell w5 db 11 (.slice a5 n5 cap5)
            have hdb := HX.out.1.b.lt
            refine ⟨⟨(H7.b.set 11 _).congr fun i _ => ?_, H7.os.keep hg (fun g e q => H7.sn (by cases q; exact e)), (HO6.out.base hwn).keep hg (fun g e q => by cases q; have := hvb _ e; omega), H7.sn, fun e => by have := hvb _ e; omega, H7.n0⟩, ⟨hu7.g.trans (Gs.of_grown hg (fun b e => by cases e; rfl)), hu7.fs, fun g e => Or.inr (Nat.le_trans HX.out.2.2.1.g.size (hvb g e))⟩⟩
            unfold updV
            by_cases e : i = 11
            · subst e; rfl
            · rw [if_neg e]
              unfold dhF
              split <;> first | rfl | exact absurd rfl e
          have ho8 := (HX.out.2.1.below hb6).keep (gsetCell w5 db 11 (.slice a5 n5 cap5)) (fun g e e2 => by cases e2; have := (HX.out.2.1.own e).1; have := HB.out.1; omega)
          rw [← HD1.out] at h8
          have HZ : Hid (Dh n0 db (W.dM1 d m.f) sv (.slice a5 n5 cap5) _ ∧ _ ∧ _ ∧ n5 = (W.dM1 d m.f).ws.length) := ⟨h8.1, h8.2, ho8, by
            rw [HD1.out]
            rcases HO6.out.2 with ⟨e1, e2⟩ | ⟨g, cap, cur, e1, _⟩
            · cases e1; exact e2.symm
            · cases e1; rfl⟩
          clear h8 ho8 hu7 hvb hwn H7 hb6 t11 f11 r6 r11 HX HW HO6 c1 c6 c11 HD1
          generalize World.setCell w5 _ _ = W8 at *
          have k11 : W8.cell? ⟨db, 11, none⟩ = some (.slice a5 n5 cap5) := HZ.out.1.c 11 (by decide)
          have k12 : W8.cell? ⟨db, 12, none⟩ = some (.int .i64 (W.dM1 d m.f).fr) := HZ.out.1.c 12 (by decide)
          have HLn : Hid ((W.dout d m.f (W.wo d.sh m.f) j).length ≤ 4096) := by
            have := W.dout_len d m.f (W.wo d.sh m.f) j
            have := HN.out.2.2
            show _ ≤ _
            omega
          have hcs : (n5 = 0 ∧ (W.dM1 d m.f).fr < 0 ∧ W.dM d m.f = W.dgv (W.dM1 d m.f)) ∨ ((n5 ≠ 0 ∨ ¬ (W.dM1 d m.f).fr < 0) ∧ W.dM d m.f = (W.dM1 d m.f, W.dout d m.f (W.wo d.sh m.f) j)) := by
            have h5 := HZ.out.2.2.2
            by_cases e : n5 = 0 ∧ (W.dM1 d m.f).fr < 0
            · refine Or.inl ⟨e.1, e.2, ?_⟩
              unfold W.dM
              rw [if_pos ⟨List.eq_nil_of_length_eq_zero (by omega), e.2⟩]
            · refine Or.inr ⟨by omega, ?_⟩
              unfold W.dM
              rw [if_neg (by rintro ⟨a, b⟩; rw [a] at h5; exact e ⟨h5, b⟩), HN.out.2.1]
          generalize W.dM1 d m.f = D1 at *
          rcases hcs with ⟨rfl, hf, hQ⟩ | ⟨hno, hQ⟩
          · have n4 : decide (D1.fr < 0) = true := decide_eq_true hf
            have HQ : Hid (_) := hQ
            clear hQ HLn
            go_wp2_with (fail)
            refine (dgive_any HZ.out.1).mono ?_
            intro e w9 hres
            obtain ⟨sl, sv1, av1, rfl, hm1, hH1, hu1, hap1⟩ := hres
            have HR9 : Hid (Rsd n0 db (W.dgv D1) sv wv w (.returned (slV sl)) w9) := Rsd.from HZ.out.2.1 ⟨sl, sv1, av1, rfl, hm1, hH1, hu1, hap1⟩
            clear hm1 hH1 hu1 hap1
            go_wp2
            go_ret
            rw [HQ.out]
            exact HR9.out
          · have HQ : Hid (_) := hQ
            obtain ⟨sl, hsl, hms, hap⟩ := ms_om HZ.out.2.2.1 HLn.out
            have HR9 : Hid (Rsd n0 db (W.dM d m.f) sv wv w (.returned u6) W8) := by
              rw [HQ.out, hsl]
              exact ⟨sl, sv, _, rfl, hms, HZ.out.1, HZ.out.2.1, fun b o e => Nat.le_trans HB.out.2.1 (hap b o e)⟩
            clear hQ HLn hsl hms hap
            by_cases hz5 : n5 = 0
            · subst hz5
              have n4 : decide (D1.fr < 0) = false := decide_eq_false (by omega)
              have n4' : ¬ D1.fr < 0 := by omega
              go_wp2
              go_ret
              exact HR9.out
            · obtain ⟨n5, rfl⟩ : ∃ k, n5 = k + 1 := ⟨n5 - 1, by omega⟩
              have hp5 : ((n5 + 1 : Nat) : Int) ≠ 0 := by omega
              clear hno hz5
              go_wp2
              go_ret
              exact HR9.out
      · have n1 : decide (0 ≤ d.ow) = false := decide_eq_false ho
        have HD1 : Hid (W.dM1 d m.f = { W.dM0 d m.f with fr := W.dfr d m.f j }) := by
          show W.dM1 d m.f = _
          unfold W.dM1
          rw [if_neg ho, HN.out.2.1]
          rfl
        have h8 := HR.out.2.1
        rw [← HD1.out] at h8
        obtain ⟨W8, hW8⟩ : ∃ W8, W8 = wr := ⟨_, rfl⟩
        obtain ⟨a5, n5, cap5, hv5⟩ : ∃ a5 n5 cap5, a5 = a2 ∧ n5 = n2q ∧ cap5 = cap2 := ⟨_, _, _, rfl, rfl, rfl⟩
        have HZ : Hid (Dh n0 db (W.dM1 d m.f) sv (.slice a5 n5 cap5) W8 ∧ Du db sv wv sv (.slice a5 n5 cap5) w W8 ∧ Om B u6 (W.dout d m.f (W.wo d.sh m.f) j) W8 ∧ n5 = (W.dM1 d m.f).ws.length) := by
          obtain ⟨rfl, rfl, rfl⟩ := hv5
          subst hW8
          exact ⟨h8, HR.out.2.2.1, HR.out.1, by rw [HD1.out]; exact HNQ.out.symm⟩
        clear hM1 h8 HR c11 HD1
        go_upto_region 35 with fail
        obtain ⟨rfl, rfl, rfl⟩ := hv5
        subst hW8
        clear c6 c1
        have k11 : W8.cell? ⟨db, 11, none⟩ = some (.slice a5 n5 cap5) := HZ.out.1.c 11 (by decide)
        have k12 : W8.cell? ⟨db, 12, none⟩ = some (.int .i64 (W.dM1 d m.f).fr) := HZ.out.1.c 12 (by decide)
        have HLn : Hid ((W.dout d m.f (W.wo d.sh m.f) j).length ≤ 4096) := by
          have := W.dout_len d m.f (W.wo d.sh m.f) j
          have := HN.out.2.2
          show _ ≤ _
          omega
        have hcs : (n5 = 0 ∧ (W.dM1 d m.f).fr < 0 ∧ W.dM d m.f = W.dgv (W.dM1 d m.f)) ∨ ((n5 ≠ 0 ∨ ¬ (W.dM1 d m.f).fr < 0) ∧ W.dM d m.f = (W.dM1 d m.f, W.dout d m.f (W.wo d.sh m.f) j)) := by
          have h5 := HZ.out.2.2.2
          by_cases e : n5 = 0 ∧ (W.dM1 d m.f).fr < 0
          · refine Or.inl ⟨e.1, e.2, ?_⟩
            unfold W.dM
            rw [if_pos ⟨List.eq_nil_of_length_eq_zero (by omega), e.2⟩]
          · refine Or.inr ⟨by omega, ?_⟩
            unfold W.dM
            rw [if_neg (by rintro ⟨a, b⟩; rw [a] at h5; exact e ⟨h5, b⟩), HN.out.2.1]
        generalize W.dM1 d m.f = D1 at *
        rcases hcs with ⟨rfl, hf, hQ⟩ | ⟨hno, hQ⟩
        · have n4 : decide (D1.fr < 0) = true := decide_eq_true hf
          have HQ : Hid (_) := hQ
          clear hQ HLn
          go_wp2_with (fail)
          refine (dgive_any HZ.out.1).mono ?_
          intro e w9 hres
          obtain ⟨sl, sv1, av1, rfl, hm1, hH1, hu1, hap1⟩ := hres
          have HR9 : Hid (Rsd n0 db (W.dgv D1) sv wv w (.returned (slV sl)) w9) := Rsd.from HZ.out.2.1 ⟨sl, sv1, av1, rfl, hm1, hH1, hu1, hap1⟩
          clear hm1 hH1 hu1 hap1
          go_wp2
          go_ret
          rw [HQ.out]
          exact HR9.out
        · have HQ : Hid (_) := hQ
          obtain ⟨sl, hsl, hms, hap⟩ := ms_om HZ.out.2.2.1 HLn.out
          have HR9 : Hid (Rsd n0 db (W.dM d m.f) sv wv w (.returned u6) W8) := by
            rw [HQ.out, hsl]
            exact ⟨sl, sv, _, rfl, hms, HZ.out.1, HZ.out.2.1, fun b o e => Nat.le_trans HB.out.2.1 (hap b o e)⟩
          clear hQ HLn hsl hms hap
          by_cases hz5 : n5 = 0
          · subst hz5
            have n4 : decide (D1.fr < 0) = false := decide_eq_false (by omega)
            have n4' : ¬ D1.fr < 0 := by omega
            go_wp2
            go_ret
            exact HR9.out
          · obtain ⟨n5, rfl⟩ : ∃ k, n5 = k + 1 := ⟨n5 - 1, by omega⟩
            have hp5 : ((n5 + 1 : Nat) : Int) ≠ 0 := by omega
            clear hno hz5
            go_wp2
            go_ret
            exact HR9.out
end Go.Proofs.Ythkielaicnmaeaa
