/- net: NetKeeps' walk. -/
import Derived.Test.YtaioioilfanpeaaDoorNetQ
import Derived.Deep.RegionWith
namespace Go.Proofs.YtaioioilfanpeaaDoor
open Go.ChangeShapes Go.WideShapes Go.ChangeAt Go.RowKit
set_option linter.unusedVariables false
set_option linter.unusedSimpArgs false
attribute [local go_sem ↓] ldM_eq stM_eq bsM_eq bdM_eq

theorem made_get (z : Array Value) (m j : Nat) (hj : j < m) : (madeCells z m)[j]? = some z[j % z.size]! := by simp [madeCells, hj]
theorem make_bools (n : Nat) (hn : n ≤ 8192) (w : World) : (Instr.makeSlice 62 (.int .i64 (n : Int)) (.int .i64 (n : Int))).run Tryd.prog w = .ok (.slice (some ⟨w.heap.size, 0, none⟩) n n) (w.alloc (.cells (madeCells #[.bool false] n) 4)) := by
  obtain ⟨i, hi, hzz⟩ := Option.map_eq_some_iff.1 (show (Tryd.prog.info? 4).map (fun i => (i.zero, i.size, i.bytes)) = some (some (.bool false), 1, 1) by kernel_rfl)
  simp only [Prod.mk.injEq] at hzz
  obtain ⟨hz, hs, hb⟩ := hzz
  have hr := run_make (P := Tryd.prog) w 62 4 i _ Tryd.underlying62 hi hz .i64 .i64 n n (by omega) (by omega) (by rw [hb]; omega) (by omega)
  simp only [Int.toNat_natCast, hs, Nat.mul_one] at hr
  exact hr
theorem bools_made (n : Nat) (w : World) : Bc w.heap.size n (fun _ => .bool false) (w.alloc (.cells (madeCells #[.bool false] n) 4)) :=
  bc_row (heap_alloc_last w _) (fun j hj => by rw [made_get _ _ _ hj]; simp [Nat.mod_one])
/-- The second loop's state. -/
structure Kq (w0 : World) (nb gb : Nat) (s : W.Sl) (S : List W.Mg) (fv : Value) (R : Nat → Int) (G : Nat → Bool) (t : Nat) (w : World) : Prop where
  n : Nt nb nb 4 R S.length fv (W.lft S G) w
  g : Bc gb S.length (fun q => .bool (G q)) w
  sm : Ms s S w
  gn : gb ≠ nb
  gf : fv.ownBlock ≠ some gb
  sn : ∀ b o, s.a = some ⟨b, o, none⟩ → b ≠ nb ∧ b ≠ gb ∧ fv.ownBlock ≠ some b
  b : Below w0.heap.size w0 w
  l : w0.heap.size ≤ nb
  lg : w0.heap.size ≤ gb
  r : ∀ q, q < 12 → 0 ≤ R q ∧ R q ≤ 64 + t
variable {w0 w w' : World} {nb gb t : Nat} {s : W.Sl} {S : List W.Mg} {fv fv' : Value} {R R' : Nat → Int} {G : Nat → Bool}
theorem Kq.below (H : Kq w0 nb gb s S fv R G t w) (hb : Below w.heap.size w w') : Kq w0 nb gb s S fv R G t w' := ⟨H.n.below hb, H.g.below hb, H.sm.below hb, H.gn, H.gf, H.sn, H.b.trans (hb.mono H.b.size), H.l, H.lg, H.r⟩
theorem Kq.more (H : Kq w0 nb gb s S fv R G t w) : Kq w0 nb gb s S fv R G (t + 1) w := ⟨H.n, H.g, H.sm, H.gn, H.gf, H.sn, H.b, H.l, H.lg, fun q hq => by have := H.r q hq; omega⟩
/-- Behind one that was taken, and noted. -/
theorem Kq.take (H : Kq w0 nb gb s S fv R G t w) (k : Nat) (hk : k < S.length) {L : List W.Fl} (lk : Nat) (hl : lk < 12) (hL : W.lft S (updB G k) = L) (hn : Nt nb nb 4 (updI R lk (R lk + 1)) S.length fv' L w') (hu : Up nb fv fv' w w') {w2 : World} (hb : Below w'.heap.size w' w2) : Kq w0 nb gb s S fv' (updI R lk (R lk + 1)) (updB G k) (t + 1) (w2.setCell ⟨gb, k, none⟩ (.bool true)) := by
  have o1 := hu.other H.g.lt H.gn H.gf
  have hg1 : Bc gb S.length (fun q => .bool (G q)) w' := by
    refine ⟨Nat.lt_of_lt_of_le H.g.lt hu.g.size, fun j hj => (World.cell?_of_block (a := ⟨gb, j, none⟩) o1.1).trans (H.g.c j hj), fun j => (World.frozen?_of_block (a := ⟨gb, j, none⟩) o1.1).trans (H.g.fz j)⟩
  have hs1 : Ms s S w' := H.sm.block hu.g.size (fun b o e hl => (hu.other hl (H.sn b o e).1 (H.sn b o e).2.2).1)
  have hgr := gsetCell w2 gb k (.bool true)
  have hn2 := hn.below hb
  refine ⟨?_, ?_, ?_, H.gn, o1.2, fun b o e => ⟨(H.sn b o e).1, (H.sn b o e).2.1, ?_⟩, ?_, H.l, H.lg, fun q hq => ?_⟩
  · rw [hL]
    exact hn2.apart (S := fun b => b = gb) (Gs.of_grown hgr (fun b e => by cases e; rfl)) (fun e => H.gn e.symm) (fun b e q => o1.2 (q ▸ e))
  · refine ((hg1.below hb).set k (.bool true)).congr fun j hj => ?_
    unfold updV updB
    by_cases e : j = k <;> simp [e]
  · refine (hs1.below hb).block hgr.size (fun b o e hl => hgr.block b hl (fun q => (H.sn b o e).2.1 (by cases q; rfl)))
  · by_cases h0 : b < w.heap.size
    · exact (hu.other h0 (H.sn b o e).1 (H.sn b o e).2.2).2
    · intro q
      by_cases hz : 0 < s.n
      · obtain ⟨b', o', e', hl', _⟩ := H.sm.at_ hz
        rw [e] at e'
        cases e'
        omega
      · have := H.sm.n
        omega
  · have h1 : Below w0.heap.size w0 w' := H.b.trans (hu.below H.b.size H.l (fun b e => Nat.le_trans H.l (H.n.fb b e).1))
    exact (h1.trans (hb.mono h1.size)).setCell H.lg _
  · unfold updI
    by_cases e : q = lk
    · rw [if_pos e]
      have := H.r lk hl
      omega
    · rw [if_neg e]
      have := H.r q hq
      omega

theorem own_fl' {v : Value} {L : List W.Fl} {base : Nat} {w : World} (ho : w.ownsRow base 66 12 v L.length (flX L)) : ∃ a cap, v = .slice a L.length cap ∧ L.length ≤ cap ∧ (0 < L.length → ∃ g, a = some ⟨g, 0, none⟩ ∧ ∀ j f, L[j]? = some f → w.rangeAt g (j * 12) (flL f)) := by
  have HO := ho
  rcases ho.2 with ⟨h1, h2⟩ | ⟨g, cap, cur, h1, hbg, hg, hnc, hcm, hcs, htk⟩
  · exact ⟨none, 0, by rw [h1, h2], by omega, fun h => by omega⟩
  · subst h1
    refine ⟨_, cap, rfl, hnc, fun _ => ⟨g, rfl, fun j f hf i v hv => ?_⟩⟩
    have hi : i < 12 := (List.getElem?_eq_some_iff.1 hv).1
    have hj : j < L.length := (List.getElem?_eq_some_iff.1 hf).1
    rw [HO.cellAt (j * 12 + i) (by omega), flX_get L j i f hf hi]
    exact hv

set_option maxRecDepth 10000 in
set_option maxHeartbeats 1600000 in
theorem keeps_long (A : Nat → Addr) (a0 a1 : Option Addr) (n0 c0 n1 c1 : Nat) (h : 60 < n0 ∨ 60 < n1) (hm : n0 ≤ maxLen) (hm1 : n1 ≤ maxLen) (w : World) (hS : Sent A w) :
    Calls Tryd.prog 4 #[.slice a0 n0 c0, .slice a1 n1 c1] w fun e w' => e = .returned (.bool true) ∧ Below w.heap.size w w' := by
  unfold maxLen at hm hm1
  have h' : 60 < n0 ∨ n0 ≤ 60 ∧ 60 < n1 := by omega
  clear h
  rcases h' with h | ⟨h, h'⟩
  · have h2 : (60 : Int) < n0 := by omega
    go_enter Tryd.func4, Tryd.ntmps4
    go_wp2_with (fail)
    refine (first16_any A w hS).mono ?_
    rintro e w1 ⟨rfl, hb1⟩
    go_wp2
    go_ret
    exact ⟨rfl, hb1⟩
  · have h2 : (n0 : Int) ≤ 60 := by omega
    have h3 : (60 : Int) < n1 := by omega
    go_enter Tryd.func4, Tryd.ntmps4
    go_wp2_with (fail)
    refine (first16_any A w hS).mono ?_
    rintro e w1 ⟨rfl, hb1⟩
    go_wp2
    go_ret
    exact ⟨rfl, hb1⟩

set_option maxRecDepth 10000 in
set_option maxHeartbeats 3200000 in
theorem keeps_some (A : Nat → Addr) (ml : W.Sl) (ms : List W.Mg) (ol : W.Sl) (os : Nat → Int) (h0 : ml.n ≤ 60) (h1 : ol.n ≤ 60) (w : World) (hM : Ms ml ms w) (hO : 0 < ol.n → ∃ b o, ol.a = some ⟨b, o, none⟩ ∧ b < w.heap.size ∧ ∀ j, j < ol.n → w.cell? ⟨b, o + j, none⟩ = some (.int .i64 (os j)) ∧ -9223372036854775808 ≤ os j ∧ os j ≤ 9223372036854775807) (hS : Sent A w) :
    Calls Tryd.prog 4 #[slV ml, slV ol] w fun e w' => e = .returned (.bool true) ∧ Below w.heap.size w w' := by
  obtain ⟨a0, n, c0⟩ := ml
  obtain ⟨a1, M, c1⟩ := ol
  have HS : Hid (Sent A w) := hS
  have HO : Hid (0 < M → ∃ b o, a1 = some ⟨b, o, none⟩ ∧ b < w.heap.size ∧ ∀ j, j < M → w.cell? ⟨b, o + j, none⟩ = some (.int .i64 (os j)) ∧ -9223372036854775808 ≤ os j ∧ os j ≤ 9223372036854775807) := hO
  obtain ⟨hn, _, hnc, hat⟩ := hM
  dsimp only at hn hnc hat h0 h1
  have HM : Hid (0 < n → ∃ b o, a0 = some ⟨b, o, none⟩ ∧ b < w.heap.size ∧ ∀ j x, ms[j]? = some x → w.rangeAt b (o + j * 11) (mgL x)) := hat
  have hlen : Hid (n = ms.length) := hn
  clear hS hO hn hat
  unfold slV
  have bs := bsM_any
  have g0 : (n : Int) ≤ 60 := by omega
  have g1 : (M : Int) ≤ 60 := by omega
  go_enter Tryd.func4, Tryd.ntmps4
  go_wp2_with (fail)
  refine (first16_any A w HS.out).mono ?_
  rintro e w1 ⟨rfl, hb1⟩
  go_wp2_with (fail)
  refine (new_ok 4 64 (by decide) (by decide) (by decide) (by decide) w1).mono ?_
  rintro e w2 ⟨rfl, hN, hB⟩
  have HK : Hid (Kp w w1.heap.size [] (.slice none 0 0) (.slice none 0 0) (rmN 4 64) w2) :=
    ⟨hN, ⟨rfl, Or.inl ⟨rfl, rfl⟩⟩, by simp [Value.ownBlock], fun b e => (by cases e), hb1.trans (hB.mono hb1.size), hb1.size, rmN_ok 4 64 (by decide) (by decide), fun m hm => (by cases hm)⟩
  clear hN hB hb1
  generalize w1.heap.size = nb at *
  go_wp2
  obtain ⟨ti, hi, hzz⟩ := Option.map_eq_some_iff.1 infoMg
  simp only [Prod.mk.injEq] at hzz
  obtain ⟨hz0, hz1, hz2⟩ := hzz
  go_loopw [8, 9] (fun lv i wr => ∃ (j : Nat) (S : List W.Mg) (fv : Value) (R : Nat → Int), j ≤ n ∧ i = .int .i64 j ∧ S.length ≤ j ∧ Kp w nb S lv fv R wr) (fun _ i _ => 60 - (intOf i).toNat)
  case atStart => exact ⟨0, [], _, _, by omega, rfl, Nat.le_refl _, HK.out⟩
  case round =>
    obtain ⟨j, S, fv, R, hj, rfl, hSj, hK⟩ := hrel
    have HJ : Hid (Kp w nb S u8 fv R wr) := hK
    clear hK HK
    by_cases hlt : j < n
    · have hjn : (j : Int) < n := by omega
      have hjl : j < ms.length := by have := hlen.out; omega
      obtain ⟨mb, o, rfl, hmb, hmc⟩ := HM.out (by omega)
      obtain ⟨m, hm⟩ : ∃ m, ms[j]? = some m := ⟨_, List.getElem?_eq_getElem hjl⟩
      have l1 := ldM_at (range_below (hmc j m hm) HJ.out.b hmb)
      have HL : Hid (∀ w', Below w.heap.size w w' → (ldM ⟨mb, o + j * 11, none⟩).run Tryd.prog w' = .ok (mgV m) w') := fun w' hb => ldM_at (range_below (hmc j m hm) hb hmb)
      clear hm hmc hmb
      cases ha : W.adm 4 R m with
      | some p =>
        go_wp2_with (fail)
        refine (send1_bad A (by decide) HJ.out.r m HJ.out.n _ rfl (HS.out.below HJ.out.b) p ha).mono ?_
        rintro e w4 ⟨⟨q, rfl, hq⟩, hB4⟩
        have H4 : Hid (Kp w nb S u8 fv R w4) := HJ.out.below hB4
        clear hq hB4 HJ l1
        go_wp2
        go_roundw
        case rel => exact ⟨j + 1, S, fv, R, by omega, by go_num, by omega, H4.out⟩
        case measure => simp [intOf]; omega
      | none =>
        go_wp2_with (fail)
        refine (send1_ok (by decide) HJ.out.r (by omega) (by omega) (by rw [W.fls_len]; omega) m HJ.out.n _ rfl ha).mono ?_
        rintro e w4 ⟨rfl, f4, hN4, hU4⟩
        have hb4 : Below w.heap.size w w4 := HJ.out.b.trans (hU4.below HJ.out.b.size HJ.out.l (fun b e => Nat.le_trans HJ.out.l (HJ.out.n.fb b e).1))
        have l2 := HL.out w4 hb4
        have hown := HJ.out.own hU4 (.cells (mgL m).toArray 47)
        have hnews := (msgAt_new w4 m).news
        have hbase : nb ≤ w4.heap.size := Nat.le_of_lt hN4.b.lt
        have HX : Hid (_ ∧ _) := ⟨hown, hnews⟩
        have HU : Hid (_ ∧ _) := ⟨hN4, hU4⟩
        clear hown hnews hN4 hU4 l1
        go_wp2_with (at_builtin; refine wpList_append_lies _ rfl _ _ 34 rfl nb 47 ti (.agg zMg) 11 56 Tryd.underlying34 hi hz0 hz1 hz2 rfl (by decide) u8 S.length (mgX S) rfl HX.out.1 ⟨w4.heap.size, 0, none⟩ 1 1 (mgL m) rfl rfl HX.out.2 (oneM m) (by decide) (by unfold maxLen; omega) (by omega) (by simp; omega) (w4.heap.size + 1) (by simp) ?_; intro g cap w6 hown6 hg6 hat6 hlt6)
        have H6 : Hid (_) := HJ.out.step m ha HU.out.1 HU.out.2 _ g cap hown6 hg6 hat6
        clear hown6 hg6 hat6 HX HU HJ l2 hb4
        go_wp2
        go_roundw
        case rel => exact ⟨j + 1, _, _, _, by omega, by go_num, by rw [List.length_append]; show S.length + 1 ≤ j + 1; omega, H6.out⟩
        case measure => simp [intOf]; omega
    · obtain rfl : j = n := by omega
      obtain ⟨⟨sa, N, sc⟩, hsv, hMs, hap⟩ := ms_own HJ.out.o (by omega)
      unfold slV at hsv
      dsimp only at hsv
      have hNn := hMs.n
      dsimp only at hNn
      subst hsv
      have hN60 : N ≤ 60 := by omega
      have hmk := make_bools N (by omega)
      have hgb := bools_made N wr
      have hba := below_alloc wr (.cells (madeCells #[.bool false] N) 4)
      have HV : Hid (∀ m ∈ S, W.vd m) := HJ.out.v
      have HN : Hid (N = S.length) := hNn
      have hK0 : Kq w nb wr.heap.size ⟨sa, N, sc⟩ S fv R (fun _ => false) 0 (wr.alloc (.cells (madeCells #[.bool false] N) 4)) := by
        have hlt := HJ.out.n.b.lt
        refine ⟨?_, ?_, hMs.below hba, by omega, fun e => ?_, fun b o e => ?_, HJ.out.b.trans (hba.mono HJ.out.b.size), HJ.out.l, HJ.out.b.size, fun q hq => ?_⟩
        · rw [lft_start]
          exact HJ.out.n.below hba
        · rw [← hNn]
          exact hgb
        · have := (HJ.out.n.fb _ e).2
          omega
        · have e1 := hap b o e
          have e2 := (HJ.out.o.lt b e1).2
          exact ⟨fun q => HJ.out.ln (q ▸ e1), by omega, HJ.out.lf b e1⟩
        · have := HJ.out.r q hq
          omega
      have HQ : Hid (_) := hK0
      clear hK0 hba hgb hap hMs HJ hNn
      go_wp2
      generalize World.alloc wr _ = W3 at *
      generalize wr.heap.size = gb at *
      clear hmk
      go_loopw [11, 12] (fun l i wr => ∃ (i' l' : Nat) (G : Nat → Bool) (fv : Value) (R : Nat → Int), i = .int .i64 i' ∧ l = .int .i64 l' ∧ i' ≤ M + N ∧ l' = (W.lft S G).length ∧ Kq w nb gb ⟨sa, N, sc⟩ S fv R G i' wr ∧ ∀ q, M ≤ q → q < i' → G (q % N) = true) (fun _ i _ => 200 - (intOf i).toNat)
      case atStart =>
        refine ⟨0, N, _, _, _, rfl, rfl, by omega, ?_, HQ.out, fun q h1 h2 => by omega⟩
        rw [lft_start, W.fls_len]
        exact HN.out
      case round =>
        obtain ⟨i, l, G, fk, Rk, rfl, rfl, hiM, hl, hK, hG⟩ := hrel
        have HQ2 : Hid (_ ∧ _ ∧ _) := ⟨hK, hG, hl⟩
        clear hK hG hl HQ
        by_cases hl0 : 0 < l
        · have hl0' : (0 : Int) < l := by omega
          have hN0 : 0 < N := by
            obtain ⟨k, hk, _⟩ := lft_left (S := S) (G := G) (by have := HQ2.out.2.2; omega)
            have := HN.out
            omega
          have hiN : i < M + N := by
            obtain ⟨k, hk, hGk⟩ := lft_left (S := S) (G := G) (by have := HQ2.out.2.2; omega)
            by_cases q : i < M + N
            · exact q
            · exfalso
              have hkN : k < N := by have := HN.out; omega
              -- a place from M on that is k, counted round
              have hr := Nat.mod_lt M hN0
              have hd := Nat.div_add_mod M N
              by_cases hc : M % N ≤ k
              · have e := HQ2.out.2.1 (M - M % N + k) (by omega) (by omega)
                rw [show M - M % N + k = k + N * (M / N) by omega, Nat.add_mul_mod_self_left, Nat.mod_eq_of_lt hkN, hGk] at e
                cases e
              · have e := HQ2.out.2.1 (M - M % N + N + k) (by omega) (by omega)
                rw [show M - M % N + N + k = k + N * (M / N + 1) by rw [Nat.mul_add, Nat.mul_one]; omega, Nat.add_mul_mod_self_left, Nat.mod_eq_of_lt hkN, hGk] at e
                cases e
          have hl60 : l ≤ 60 := by
            have e1 := HQ2.out.2.2
            have e2 : (W.lft S G).length ≤ (W.fls 0 S).length := List.length_filter_le _ _
            rw [W.fls_len] at e2
            have := HN.out
            omega
          have hN0' : (0 : Int) < N := by omega
          have hNz : ¬ (N : Int) = 0 := by omega
          obtain ⟨k0, hk0⟩ : ∃ k0 : Nat, i % N = k0 := ⟨_, rfl⟩
          have hk0N : k0 < N := by rw [← hk0]; exact Nat.mod_lt _ hN0
          have hm1 : (i : Int) % (N : Int) = (k0 : Int) := by rw [← hk0]; simp
          have hm2 : (i : Int).tmod (N : Int) = (k0 : Int) := by rw [Int.tmod_eq_emod_of_nonneg (by omega)]; exact hm1
          have HK0 : Hid (i % N = k0) := hk0
          clear hk0
          go_upto_if 79 with fail
          clear hm1 hm2
          go_cut [13] from 68 to 116 (fun v wx => ∃ k : Nat, k < N ∧ v = .int .i64 k ∧ (M ≤ i → k = i % N) ∧ wx = wr)
          case first =>
            by_cases him : i < M
            · have him' : (i : Int) < M := by omega
              obtain ⟨ob, oo, rfl, hob, hoc⟩ := HO.out (by omega)
              obtain ⟨c1, c2, c3⟩ := hoc i him
              have cc := (HQ2.out.1.b.cell (p := ⟨ob, oo + i, none⟩) hob).trans c1
              clear c1 hoc hob
              go_wp2_with (fail)
              refine (number_any (os i) N c2 c3 hN0' (by omega) _).mono ?_
              rintro e w' ⟨rfl, rfl⟩
              have hr0 := Int.emod_nonneg (os i) hNz
              have hr1 := Int.emod_lt_of_pos (os i) hN0'
              obtain ⟨k, hk⟩ : ∃ k : Nat, os i % (N : Int) = (k : Int) := ⟨(os i % (N : Int)).toNat, by omega⟩
              rw [hk] at hr0 hr1 ⊢
              clear hk cc
              go_wp2
              go_meet
              case rel => exact ⟨k, by omega, rfl, fun h => by omega, rfl⟩
            · have him' : ¬ (i : Int) < M := by omega
              go_wp2
              go_meet
              case rel => exact ⟨k0, hk0N, rfl, fun _ => HK0.out.symm, rfl⟩
          case rest =>
            obtain ⟨k, hkN, rfl, hkm, rfl⟩ := hcut
            have HKM : Hid (M ≤ i → k = i % N) := hkm
            have hkN' : (k : Int) < N := by omega
            have hlen16 : (W.lft S G).length ≤ 16384 := by have := HQ2.out.2.2; omega
            clear hkm HK0 hk0N
            cases hGk : G k with
            | true =>
              have HG : Hid (G k = true) := hGk
              clear hGk
              go_wp2_with (fail)
              refine (take_miss hlen16 (lft_rising S G) k (lft_miss S G k HG.out) HQ2.out.1.n).mono ?_
              rintro e w5 ⟨rfl, hb5⟩
              have hK5 := HQ2.out.1.below hb5
              have hst := stM_new w5 W.mg0
              have cg : ∀ o, (w5.alloc o).cell? ⟨gb, k, none⟩ = some (.bool true) := fun o => by
                have := (hK5.below (below_alloc w5 o)).g.c k (by have := HN.out; omega)
                rw [HG.out] at this
                exact this
              have HF : Hid (Kq w nb gb ⟨sa, N, sc⟩ S fk Rk G (i + 1) _) := (hK5.below (below_alloc w5 (.cells (mgL W.mg0).toArray 47))).more
              clear hb5 hK5
              go_wp2_with (fail)
              go_quiet (fail)
              go_wp2
              go_roundw
              case rel =>
                refine ⟨i + 1, l, G, fk, Rk, by go_num, rfl, by omega, HQ2.out.2.2, HF.out.below (below_drewN (Below.refl _ _) _), fun q h1 h2 => ?_⟩
                by_cases hqi : q < i
                · exact HQ2.out.2.1 q h1 hqi
                · obtain rfl : q = i := by omega
                  rw [← HKM.out h1]
                  exact HG.out
              case measure => simp [intOf]; omega
            | false =>
              have hkS : k < S.length := by have := HN.out; omega
              obtain ⟨m, hm⟩ : ∃ m, S[k]? = some m := ⟨_, List.getElem?_eq_getElem hkS⟩
              obtain ⟨L1, L2, e1, e2⟩ := lft_hit S G k m hm hGk
              have hvd := HV.out m (List.mem_of_getElem? hm)
              have hlk := W.lk_lt 4 (by decide) m hvd
              have hrr := HQ2.out.1.r _ hlk
              have hNt := HQ2.out.1.n
              have hris := lft_rising S G
              rw [e1] at hNt hris hlen16
              have ht : Calls Tryd.prog 15 #[.pointer (some ⟨nb, 0, none⟩), .int .i64 (k : Int)] wc fun e w' => e = .returned (.tuple #[mgV m, .bool true]) ∧ ∃ fv', Nt nb nb 4 (updI Rk (W.lk 4 m) (Rk (W.lk 4 m) + 1)) S.length fv' (L1 ++ L2) w' ∧ Up nb fk fv' wc w' :=
                take_hit L1 L2 ⟨k, m⟩ hlen16 hris (by decide) hvd hrr.1 (by show Rk (W.lk 4 m) ≤ 1000000; omega) hNt
              have hl1 : (W.lft S (updB G k)).length + 1 = l := by
                rw [e2, HQ2.out.2.2, e1]
                simp
                omega
              have HT : Hid (_ ∧ _ ∧ _ ∧ _ ∧ _ ∧ _) := ⟨ht, hm, e2, hlk, hl1, hGk⟩
              have HS2 : Hid (k < S.length) := hkS
              clear ht hm e1 e2 hvd hlk hrr hNt hris hlen16 hl1 hGk hkS
              go_wp2_with (fail)
              refine HT.out.1.mono ?_
              rintro e w5 ⟨rfl, f5, hN5, hU5⟩
              have hst := stM_new w5 m
              obtain ⟨sb, so, hsa, hsl, hsc⟩ := HQ2.out.1.sm.at_ (by show 0 < N; omega)
              dsimp only at hsa
              subst hsa
              have hap := HQ2.out.1.sn sb so rfl
              have hsm := ldM_at (range_block (hsc k m HT.out.2.1) (hU5.other hsl hap.1 hap.2.2).1)
              have hgm : w5.cell? ⟨gb, k, none⟩ = some (.bool false) := by
                have := (World.cell?_of_block (a := ⟨gb, k, none⟩) (hU5.other HQ2.out.1.g.lt HQ2.out.1.gn HQ2.out.1.gf).1).trans (HQ2.out.1.g.c k HS2.out)
                rw [HT.out.2.2.2.2.2] at this
                exact this
              have hgf : w5.frozen? ⟨gb, k, none⟩ = false := (World.frozen?_of_block (a := ⟨gb, k, none⟩) (hU5.other HQ2.out.1.g.lt HQ2.out.1.gn HQ2.out.1.gf).1).trans (HQ2.out.1.g.fz k)
              have hgl : gb < w5.heap.size := World.block_lt_of_cell? _ _ hgm
              have hsl5 : sb < w5.heap.size := Nat.lt_of_lt_of_le hsl hU5.g.size
              have hba5 := below_alloc w5 (.cells (mgL m).toArray 47)
              have hMt := (msgAt_new w5 m)
              have HU : Hid (_ ∧ _ ∧ _ ∧ _) := ⟨hN5, hU5, hgm, hgf⟩
              have HR5 : Hid (w5.rangeAt sb (so + k * 11) (mgL m)) := range_block (hsc k m HT.out.2.1) (hU5.other hsl hap.1 hap.2.2).1
              clear hsc hap hN5 hU5 hgm hgf
              go_wp2_with (fail)
              generalize htb : w5.heap.size = tb at *
              have HBA : Hid (Below w5.heap.size w5 (w5.alloc (.cells (mgL m).toArray 47))) := htb.symm ▸ hba5
              generalize World.alloc w5 _ = W5 at *
              have hz5 : gb < W5.heap.size := Nat.lt_of_lt_of_le hgl (htb ▸ HBA.out.size)
              have cg5 : W5.cell? ⟨gb, k, none⟩ = some (.bool false) := (HBA.out.cell (p := ⟨gb, k, none⟩) (htb.symm ▸ hgl)).trans HU.out.2.2.1
              have cg6 : W5.drew.cell? ⟨gb, k, none⟩ = some (.bool false) := cg5
              have la := hMt.ld
              have la2 := (hMt.below (Below.refl _ _).drew).ld
              have lb := ldM_at (range_below HR5.out HBA.out (htb.symm ▸ hsl5))
              have lb2 := ldM_at (w := W5.drew) (range_below HR5.out HBA.out.drew (htb.symm ▸ hsl5))
              clear hba5 hsm hst
              go_region_with (first
                | (go_at_call 17; refine (samemsg_self m _).mono ?_; rintro e w6 ⟨rfl, hb6⟩; have cg7 := (hb6.cell (p := ⟨gb, k, none⟩) (by first | exact hz5 | (simp; exact hz5))).trans cg5))
              all_goals
                have hb6' : Below W5.heap.size W5 w6 := ⟨hb6.os, hb6.tape, hb6.output, hb6.size, fun k hk => hb6.block k hk⟩
                have hB6 : Below w5.heap.size w5 w6 := HBA.out.trans (hb6'.mono HBA.out.size)
                have f7 : w6.frozen? ⟨gb, k, none⟩ = false := (hB6.frozen (p := ⟨gb, k, none⟩) (htb.symm ▸ hgl)).trans HU.out.2.2.2
                have HF : Hid (_) := HQ2.out.1.take k HS2.out (W.lk 4 m) HT.out.2.2.2.1 HT.out.2.2.1 HU.out.1 HU.out.2.1 hB6
                have hl1 : (1 : Int) ≤ l := by omega
                clear hb6 hb6' hB6 la la2 lb lb2 cg5 cg6 HBA HR5 hMt
                go_wp2
                go_roundw
                case rel =>
                  refine ⟨i + 1, l - 1, updB G k, f5, _, by go_num, by go_num, by omega, ?_, HF.out, fun q h1 h2 => ?_⟩
                  · have := HT.out.2.2.2.2.1
                    omega
                  · unfold updB
                    by_cases hqk : q % N = k
                    · rw [if_pos hqk]
                    · rw [if_neg hqk]
                      by_cases hqi : q < i
                      · exact HQ2.out.2.1 q h1 hqi
                      · obtain rfl : q = i := by omega
                        exact absurd (HKM.out h1).symm hqk
                case measure => simp [intOf]; omega
        · obtain rfl : l = 0 := by omega
          have hll : (W.lft S G).length = 0 := HQ2.out.2.2.symm
          have H3 : Hid (_) := HQ2.out.1
          have HLL : Hid ((W.lft S G).length = 0) := hll
          clear hll HQ2
          go_wp2_with (fail)
          refine (len_any H3.out.n).mono ?_
          rintro e w' ⟨rfl, rfl⟩
          rw [HLL.out]
          go_wp2_with (fail)
          refine (all_any (by rw [HLL.out]; decide) H3.out.n).mono ?_
          rintro e w7 ⟨⟨v7, rfl, ho7⟩, hb7⟩
          obtain ⟨a7, c7, rfl, hc7, _⟩ := own_fl' ho7
          rw [HLL.out] at hc7 ⊢
          have HB : Hid (_) := H3.out.b.trans (hb7.mono H3.out.b.size)
          clear hb7 ho7
          go_wp2_with (fail)
          refine (class_any 0 _).mono ?_
          rintro e w8 ⟨rfl, rfl⟩
          rw [show W.cls 0 = -1 by decide]
          go_wp2
          go_ret
          exact ⟨rfl, HB.out⟩
end Go.Proofs.YtaioioilfanpeaaDoor
