/- PpoMore, one way. -/
import Derived.Test.YtbppeehhohdfiaaPpoMoS
namespace Go.Proofs.Ytbppeehhohdfiaa
open Go.ChangeShapes Go.WideShapes Go.ChangeAt Go.RowKit
set_option linter.unusedVariables false
set_option linter.unusedSimpArgs false

set_option maxRecDepth 10000 in
set_option maxHeartbeats 3200000 in
theorem more_2p (a : Option Addr) (n c : Nat) (o : Nat → W.Opr) (S : Nat → S3) (A D C : Nat → Nat → Int) (at_ what : Int) (a0 : -9223372036854775808 ≤ at_) (a1 : at_ ≤ 9223372036854775807) (b0 : -9223372036854775808 ≤ what) (b1 : what ≤ 9223372036854775807) (w : World) (h : Rs a n c o S A D C w) (n0 : 0 < n) (n30 : n ≤ 30) (P : Nat) (hP : at_ % (n : Int) = (P : Int)) (hH : what % 5 = 2) (P0 : 0 < P) :
    Calls Try.prog 3 #[.slice a n c, .int .i64 at_, .int .i64 what] w fun e w' => e = .returned (.bool true) ∧ Below w.heap.size w w' := by
  have Pn : P < n := by have := Int.emod_lt_of_pos at_ (show 0 < (n : Int) by omega); omega
  have c1 := fun w => number_any at_ (n : Int) a0 a1 (by omega) (by omega) w
  have c2 := fun w => number_any what 5 b0 b1 (by decide) (by decide) w
  rw [hP] at c1
  rw [hH] at c2
  have e1 : ¬ ((n : Int) == 0) = true := by simp; omega
  have e2 : ¬ (30 : Int) < (n : Int) := by omega
  have e3 : (n == 0) = false := by simp; omega
  have HH : Hid (_ ∧ _ ∧ _ ∧ _) := ⟨first13_any w, c1, c2, h⟩
  clear c1 c2 h hP hH
  go_enter Try.func3, Try.ntmps3
  go_wp2_with (fail)
  refine HH.out.1.mono ?_
  rintro e w1 ⟨rfl, bw1⟩
  have hfit := fit_any a n c o S A D C w1 (HH.out.2.2.2.below bw1)
  have HF : Hid (Calls _ _ _ _ _) := hfit
  clear hfit
  go_wp2_with (fail)
  refine HF.out.mono ?_
  rintro e w2 ⟨he, bw2⟩
  have bw3 := bw1.trans (bw2.mono bw1.size)
  clear bw1 bw2 HF
  rcases he with rfl | ⟨rfl, hFew⟩
  · go_wp2
    go_ret
    exact ⟨rfl, bw3⟩
  have RS := HH.out.2.2.2.below bw3
  have hcp := copy_ops a n c o S A D C w2 RS hFew
  have HC : Hid (Calls _ _ _ _ _ ∧ _ ∧ _) := ⟨hcp, hFew, RS⟩
  clear hcp hFew RS
  go_wp2_with (fail)
  refine (HH.out.2.1 _).mono ?_
  rintro e w2' ⟨rfl, rfl⟩
  go_wp2_with (fail)
  refine HC.out.1.mono ?_
  rintro e w3 ⟨rfl, ⟨S', hB, hFl⟩, b3⟩
  have hOw := Ow.of hB hFl
  have hf0 := hFl P Pn
  have Gw : w.heap.size ≤ w2.heap.size := bw3.size
  have GL : w2.heap.size < w3.heap.size := hB.lt
  have L3 := HH.out.2.2.2.ol HC.out.2.1
  have Lk := fun j hj => HC.out.2.2.ok j hj
  have nc := HC.out.2.2.nc
  have P40 := HC.out.2.1.l P Pn
  have bw4 := bw3.trans (b3.mono bw3.size)
  have HO : Hid (_ ∧ _ ∧ _ ∧ _ ∧ _) := ⟨hOw, hf0, L3, Lk, bw4⟩
  clear hOw hf0 L3 Lk bw4 hB hFl b3 HC bw3
  generalize w2.heap.size = G at *
  go_wp2_with (fail)
  refine (HH.out.2.2.1 _).mono ?_
  rintro e w3' ⟨rfl, rfl⟩
  clear HH
  have O1 := HO.out.1
  have gl := O1.b.lt
  have gf := O1.b.fz
  obtain ⟨it, ht, hyy⟩ := Option.map_eq_some_iff.1 infoInt
  simp only [Prod.mk.injEq] at hyy
  obtain ⟨hy0, hy1, hy2⟩ := hyy
  have P0' : (0 : Int) < (P : Int) := by omega
  have Pe : 0 ≤ (P : Int) - 1 := by omega
  obtain ⟨xb, hxb⟩ := HO.out.2.1.fa
  have qk := O1.cell P 10 Pn (by decide)
  rw [opF_at _ _ _ _ (by decide)] at qk
  have qk' : w3.cell? ⟨G, P * 13 + 10, none⟩ = some (.slice (some ⟨xb, 0, none⟩) (lst (A P) (S P).a.n).length (lst (A P) (S P).a.n).length) := by rw [qk]; show some (slV (S' P).a) = _; rw [hxb]; rfl
  clear qk
  have ll := (O1.a P Pn).li
  rw [hxb] at ll
  have l40 : (lst (A P) (S P).a.n).length ≤ 40 := by rw [lst_len]; first | exact P40.1 | exact P40.2.2
  have olds : ∀ b, some (⟨xb, 0, none⟩ : Addr) = some b → ∀ j u, (intsL (lst (A P) (S P).a.n))[j]? = some u → (w3.alloc (.cells #[.int .i64 ((P : Int) - 1)] 3)).cell? (b.add j) = some u := fun b e j u hu => by
    cases e
    rw [intsL_get] at hu
    obtain ⟨x, hx, rfl⟩ := Option.map_eq_some_iff.1 hu
    have h0 : 0 < (lst (A P) (S P).a.n).length := by have := (List.getElem?_eq_some_iff.1 hx).1; omega
    obtain ⟨gb, go, ge, gl', gc⟩ := ll.at_ h0
    cases ge
    rw [Addr.add_lit]
    exact (((Below.refl _ w3).alloc (Nat.le_refl _) _).cell (p := ⟨xb, 0 + j, none⟩) gl').trans (gc j x hx)
  have n7 := news_int ((P : Int) - 1) w3
  have d3 : ∀ u ∈ [Value.int .i64 ((P : Int) - 1)], u.oneCell' = true := by intro u hu; simp at hu; rw [hu]; rfl
  have il : (intsL (lst (A P) (S P).a.n)).length = (lst (A P) (S P).a.n).length * 1 := by simp [intsL]
  have AL : Below w3.heap.size w3 (w3.alloc (.cells #[.int .i64 ((P : Int) - 1)] 3)) := (Below.refl _ _).alloc (Nat.le_refl _) _
  have HN : Hid (_ ∧ _ ∧ _ ∧ _ ∧ _) := ⟨olds, n7, d3, il, AL⟩
  clear olds n7 d3 il AL ll
  generalize hLn : lst (A P) (S P).a.n = LL at *
  go_wp2_with (at_builtin; refine wpList_append_grows _ rfl _ _ 28 rfl 3 it (.int .i64 0) 1 8 Try.underlying28 ht hy0 hy1 hy2 rfl (by decide) (some ⟨xb, 0, none⟩) LL.length LL.length (intsL LL) rfl (fun e => by cases e) HN.out.2.2.2.1 HN.out.1 ⟨w3.heap.size, 0, none⟩ 1 1 [.int .i64 ((P : Int) - 1)] rfl rfl HN.out.2.1 HN.out.2.2.1 (by omega) (by unfold maxLen; omega) (by omega) ?_)
  intro v6 w6 own6 hg6
  have own7 : w6.ownsRow (w3.heap.size + 1) 3 1 v6 (LL.length + 1) (intsL (LL ++ [(P : Int) - 1])) := by rw [Cc.intsL_snoc]; exact own6
  obtain ⟨s6, rfl, hL6, hb6⟩ := own_li own7 (by omega)
  have B6 : Below w3.heap.size w3 w6 := Below.grown HN.out.2.2.2.2 hg6 (by simp) (fun b e => by cases e)
  have O6 := O1.below B6
  have gl6 := O6.b.lt
  have gf6 := O6.b.fz
  have qk6 := (B6.cell (p := ⟨G, P * 13 + 10, none⟩) gl).trans qk'
  have Lk6 : Lg G s6 (LL ++ [(P : Int) - 1]) w6 := ⟨hL6, fun b o' h0 e => by obtain ⟨b', e', h'⟩ := hb6 h0; rw [e] at e'; cases e'; omega⟩
  have O7 := O6.upd P 10 (by decide) ({ ozR (o P) (S P) (A P) (D P) (C P) with a := LL ++ [(P : Int) - 1] }) (⟨s6, (S' P).d, (S' P).c⟩) (slV s6) rfl (fun i hi hne => by
    match i, hi with
    | 0, _ => rfl
    | 1, _ => rfl
    | 2, _ => rfl
    | 3, _ => rfl
    | 4, _ => rfl
    | 5, _ => rfl
    | 6, _ => rfl
    | 7, _ => rfl
    | 8, _ => rfl
    | 9, _ => rfl
    | 10, _ => exact absurd rfl hne
    | 11, _ => rfl
    | 12, _ => rfl) Lk6 (O6.d P Pn) (O6.c P Pn)
  have W6 := (HO.out.2.2.2.2.trans (B6.mono HO.out.2.2.2.2.size)).setCell (p := ⟨G, P * 13 + 10, none⟩) Gw (slV s6)
  have TT : Two a n c G (fun j => ozR (o j) (S j) (A j) (D j) (C j)) (updX (fun j => ozR (o j) (S j) (A j) (D j) (C j)) P ({ ozR (o P) (S P) (A P) (D P) (C P) with a := LL ++ [(P : Int) - 1] })) _ := ⟨HO.out.2.2.1.below W6, O7.ol, HO.out.2.2.2.1, ok_upd HO.out.2.2.2.1 ⟨(HO.out.2.2.2.1 P Pn).z0, (HO.out.2.2.2.1 P Pn).z1, (HO.out.2.2.2.1 P Pn).a0, (HO.out.2.2.2.1 P Pn).a1⟩, nc, by omega, W.mo_upd _ P _ ⟨rfl, rfl, rfl, rfl, fun h => h, fun h => h, W.Sb.refl _, (W.Mo.refl _).sc, fun _ h => List.mem_append_left _ (hLn ▸ h), fun _ h => h, fun _ h => h⟩⟩
  have HY : Hid (_ ∧ _) := ⟨TT, W6⟩
  clear O7 W6 TT O1 O6 own6 own7 hg6 hL6 hb6 Lk6 HN
  unfold slV at HY ⊢
  go_wp2

  generalize World.setCell _ _ _ = W9 at *
  clear gl gf HO qk' qk6 gl6 gf6 B6
  go_loopw [9] (fun t wx => ∃ i : Nat, i ≤ n ∧ t = .int .i64 (i : Int) ∧ Below W9.heap.size W9 wx) (fun t _ => n - (intOf t).toNat)
  case atStart => exact ⟨0, by omega, rfl, Below.refl _ _⟩
  case round =>
    rename_i wx _
    obtain ⟨i, hi, rfl, bx⟩ := hrel
    by_cases hlt : i < n
    · have hin : (i : Int) < (n : Int) := by omega
      go_wp2
      go_loopw [10] (fun t wy => ∃ k : Nat, i + 1 ≤ k ∧ k ≤ n ∧ t = .int .i64 (k : Int) ∧ Below W9.heap.size W9 wy) (fun t _ => n - (intOf t).toNat)
      case atStart => exact ⟨i + 1, by omega, by omega, by go_num, bx⟩
      case round =>
        obtain ⟨k, hk1, hk2, rfl, bz⟩ := hrel
        by_cases hlk : k < n
        · have hC := HY.out.1.whyL _ bz i k (by omega) hlk
          have hkn : (k : Int) < (n : Int) := by omega
          have hlw := W.why_more HY.out.1.le i k
          have hD := fun W' hb => HY.out.1.whyM W' hb i k (by omega) hlk
          generalize W.whyO _ i k = V1 at hC hlw
          generalize W.whyO _ i k = V2 at hD hlw
          have HC : Hid (Calls _ _ _ _ _ ∧ _) := ⟨hC, hD⟩
          clear hC hD
          go_wp2_with (fail)
          refine HC.out.1.mono ?_
          rintro e w5 ⟨rfl, b5⟩
          have b6 := bz.trans (b5.mono bz.size)
          clear bz b5
          by_cases hv : 0 < V1
          · have hv2 : (V2 == 0) = false := by simpa using hlw (by omega)
            clear hlw
            go_wp2_with (fail)
            refine (HC.out.2 _ b6).mono ?_
            rintro e w7 ⟨rfl, b7⟩
            have b8 := b6.trans (b7.mono b6.size)
            clear b6 b7 HC
            go_wp2
            go_roundw
            case rel => exact ⟨k + 1, by omega, by omega, by go_num, b8⟩
            case measure => simp [intOf]; omega
          · clear hlw HC
            go_wp2
            go_roundw
            case rel => exact ⟨k + 1, by omega, by omega, by go_num, b6⟩
            case measure => simp [intOf]; omega
        · have hkn : ¬ (k : Int) < (n : Int) := by omega
          go_wp2
          go_roundw
          case rel => exact ⟨i + 1, by omega, by go_num, bz⟩
          case measure => simp [intOf]; omega
    · have hin : ¬ (i : Int) < (n : Int) := by omega
      have c5 := HY.out.2.trans (bx.mono HY.out.2.size)
      clear bx HY
      go_wp2
      go_ret
      exact ⟨rfl, c5⟩
end Go.Proofs.Ytbppeehhohdfiaa
