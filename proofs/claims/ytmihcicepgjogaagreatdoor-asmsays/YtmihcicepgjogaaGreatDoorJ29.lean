/- Texts in one: NuC. -/
import Derived.Deep.Cut
import Derived.Test.YtmihcicepgjogaaGreatDoorJ21
import Derived.Test.YtmihcicepgjogaaGreatDoorJ28
/- The document's numbers in a text, walked. -/
namespace Go.Proofs.YtmihcicepgjogaaGreatDoor
open Go.ChangeShapes Go.WideShapes Go.ChangeAt Go.RowKit
set_option linter.unusedVariables false
set_option linter.unusedSimpArgs false

theorem infoI64 : (Tryz.prog.info? 3).map (fun i => (i.zero, i.size, i.bytes)) = some (some (.int .i64 0), 1, 8) := by kernel_rfl
theorem tw_mem (p : UInt8 → Bool) : ∀ (l : List UInt8) (x : UInt8), x ∈ l.takeWhile p → p x = true
  | [], x, h => by simp at h
  | c :: r, x, h => by
    cases hc : p c
    · simp [List.takeWhile, hc] at h
    · simp [List.takeWhile, hc] at h
      rcases h with rfl | h
      · exact hc
      · exact tw_mem p r x h
def iV (x : Int) : Value := .int .i64 x

set_option maxRecDepth 1000000 in
set_option maxHeartbeats 12800000 in
theorem numbers_any (L : List UInt8) (hmax : L.length ≤ 1000) (a0 : Nat) (ha0 : a0 ≤ L.length) (w : World) : Calls Tryz.prog 38 #[.string ⟨L.toArray⟩, .int .i64 a0] w fun e w' => ∃ v, e = .returned v ∧ w'.ownsRow w.heap.size 3 1 v ((W.numsL (L.drop a0)).getD []).length (((W.numsL (L.drop a0)).getD []).map iV) ∧ Below w.heap.size w w' := by
  obtain ⟨i0, hi, hz0, hz1, hz2⟩ := info_parts infoI64
  generalize hT : W.numsL (L.drop a0) = T
  have HT : Hid (W.numsL (L.drop a0) = T) := hT
  clear hT
  go_enter Tryz.func38, Tryz.ntmps38
  go_wp2
  go_loopw [1, 5] (fun va vo wr => ∃ (a : Nat) (acc : List Int), a ≤ L.length ∧ acc.length ≤ a ∧ va = .int .i64 a ∧ wr.ownsRow w.heap.size 3 1 vo acc.length (acc.map iV) ∧ Below w.heap.size w wr ∧ Hid (T = (W.numsL (L.drop a)).map (acc ++ ·))) (fun va _ _ => L.length - (intOf va).toNat)
  case atStart => exact ⟨a0, [], ha0, by simp, rfl, World.ownsRow_nil _ _ _ _, Below.refl _ _, by show T = _; rw [HT.out]; cases T <;> rfl⟩
  case round =>
    obtain ⟨a, acc, ha, hacc, rfl, hown, hbl, hTa⟩ := hrel
    by_cases hlt : a < L.length
    · have hai : (a : Int) < (L.length : Int) := by omega
      obtain ⟨c, hc⟩ : ∃ c, L[a]'hlt = c := ⟨_, rfl⟩
      have hck : ((⟨L.toArray⟩ : ByteArray)[a]'(by rw [ba_len]; exact hlt)) = c := hc
      have hst := W.numsL_cons c (L.drop (a + 1))
      rw [← hc, ← dg_drop L a hlt, hc] at hst
      by_cases hsk : W.skips c = true
      · rw [hsk, cond_true] at hst
        have Hn : Hid (T = (W.numsL (L.drop (a + 1))).map (acc ++ ·)) := by show T = _; rw [hTa.out, hst]
        have hs2 : (c.toNat < 48 ∨ 57 < c.toNat) ∧ ¬ c.toNat = 45 := by
          simp [W.skips, W.isD] at hsk
          refine ⟨by omega, fun h => hsk.2 (UInt8.toNat_inj.1 h)⟩
        have h45 : ((c.toNat : Int) != 45) = true := by simp; omega
        clear hst hTa hsk
        by_cases h48 : c.toNat < 48
        · go_wp2
          go_roundw
          case rel => exact ⟨a + 1, acc, by omega, by omega, by go_num, hown, hbl, Hn.out⟩
          case measure => simp [intOf]; omega
        · go_wp2
          go_roundw
          case rel => exact ⟨a + 1, acc, by omega, by omega, by go_num, hown, hbl, Hn.out⟩
          case measure => simp [intOf]; omega
      · have hsk2 : W.skips c = false := by simpa using hsk
        rw [hsk2, cond_false] at hst
        clear hsk
        by_cases c49 : 49 ≤ c.toNat
        · have hc48 : (c == 48) = false := by
            rw [beq_eq_false_iff_ne]
            rintro rfl
            exact absurd c49 (by decide)
          have n45 : ¬ c.toNat = 45 := by omega
          have n45b : ((c.toNat : Int) == 45) = false := by simp; omega
          rw [hc48, Bool.false_and, cond_false] at hst
          have c57 : c.toNat ≤ 57 := by
            have := hsk2
            simp [W.skips, W.isD] at this
            by_cases h : c.toNat ≤ 57
            · exact h
            · have h2 := this (by omega)
              rw [h2] at n45
              exact absurd rfl n45
          have e48 : ((c.toNat : Int) == 48) = false := by simp; omega
          go_wp2
          go_loopw [8] (fun ve wx => ∃ e : Nat, Hid (W.Run W.isD L (a + 1) e) ∧ a + 1 ≤ e ∧ e ≤ L.length ∧ ve = .int .i64 e ∧ wx = wr) (fun ve _ => L.length - (intOf ve).toNat)
          case atStart => exact ⟨a + 1, W.Run.start _ L (a + 1) (by omega), by omega, by omega, by go_num, rfl⟩
          case round =>
            obtain ⟨e, hrun, he1, he2, rfl, rfl⟩ := hrel
            by_cases hel : e < L.length
            · have heli : (e : Int) < (L.length : Int) := by omega
              obtain ⟨c2, hc2⟩ : ∃ c2, L[e]'hel = c2 := ⟨_, rfl⟩
              have hck2 : ((⟨L.toArray⟩ : ByteArray)[e]'(by rw [ba_len]; exact hel)) = c2 := hc2
              by_cases d0 : c2.toNat < 48
              · have hdone := hrun.out.done (fun h => by rw [hc2]; simp [W.isH, W.isD]; omega)
                obtain ⟨tok, htok⟩ : ∃ tok, ((L.drop a).take (e - a)) = tok := ⟨_, rfl⟩
                have hx : (⟨L.toArray⟩ : ByteArray).extract a e = ⟨tok.toArray⟩ := by rw [ba_extract, htok]
                have hlen : tok.length ≤ 1000 := by rw [← htok]; simp; omega
                have hei : (e : Int) ≤ (L.length : Int) := by omega
                have htk : Hid (tok = c :: (L.drop (a + 1)).takeWhile W.isD) := by
                  show tok = _
                  rw [hdone.1, ← htok, dg_drop L a hlt, hc, show e - a = (e - (a + 1)) + 1 by omega, List.take_succ_cons]
                rw [← htk.out, hdone.2] at hst
                obtain ⟨p, hp⟩ : ∃ p, W.fin false tok (W.dgs 10 0 tok) = p := ⟨_, rfl⟩
                have hdr : W.dgR 10 tok = p := by
                  rw [W.dgR, htk.out, if_neg (by simp; intro h; rw [h] at n45; exact absurd rfl n45), ← htk.out, hp]
                rw [hdr] at hst
                have HS2 := hTa.out.trans (congrArg (Option.map (acc ++ ·)) hst)
                have HP : Hid (_ = p) := hp
                obtain ⟨n, bb⟩ := p
                clear hTa hst hdr hp htok hdone
                cases bb
                · have HN : Hid (T = none) := HS2
                  clear HS2
                  go_wp2_with (go_at_call 72; refine (digits_p10 tok hlen c _ htk n45b _).mono ?_; rintro e' w' ⟨rfl, rfl⟩; rw [HP.out])
                  go_ret
                  exact ⟨_, rfl, by rw [HN.out]; exact World.ownsRow_nil _ _ _ _, hbl⟩
                · have HN : Hid (T = (W.numsL (L.drop e)).map ((acc ++ [n]) ++ ·)) := by
                    show T = _
                    rw [HS2]
                    show Option.map (acc ++ ·) (Option.map (n :: ·) (W.numsL (L.drop e))) = _
                    cases W.numsL (L.drop e) <;> simp
                  clear HS2
                  have hmx : max (e : Int) ((a : Int) + 1) = (e : Int) := by omega
                  go_wp2_with (first | (go_at_call 72; refine (digits_p10 tok hlen c _ htk n45b _).mono ?_; rintro e' w' ⟨rfl, rfl⟩; rw [HP.out]) | (at_builtin; refine wpList_append_own _ rfl _ _ 47 rfl w.heap.size 3 i0 (.int .i64 0) 1 8 Tryz.underlying47 hi hz0 hz1 hz2 rfl (by decide) _ _ _ rfl (hown.alloc _) ⟨w'.heap.size, 0, none⟩ 1 1 [iV n] rfl rfl ?c2 ?c3 ?c4 ?c5 ?c6 ?_))
                  case c2 => exact one_new w' _ _
                  case c3 => intro u hu; simp at hu; subst hu; rfl
                  case c4 => unfold maxLen; omega
                  case c5 => omega
                  case c6 => have := hbl.size; simp; omega
                  intro v' w5 hown5 hg5 _
                  have hb5 : Below w.heap.size w w5 := Below.grown (hbl.alloc hbl.size _) hg5 (by have := hbl.size; simp; omega) (fun q hq => (hown.lt q hq).1)
                  go_wp2
                  go_roundw
                  case rel => exact ⟨e, acc ++ [n], by omega, by simp; omega, by go_num, by rw [List.map_append, List.length_append]; exact hown5, hb5, HN.out⟩
                  case measure => simp [intOf]; omega
              · skip
                by_cases d1 : c2.toNat ≤ 57
                · have hnx := hrun.out.next hel (by rw [hc2]; simp [W.isH, W.isD]; omega)
                  clear hst hTa
                  go_wp2
                  go_roundw
                  case rel => exact ⟨e + 1, hnx, by omega, by omega, by go_num, trivial⟩
                  case measure => simp [intOf]; omega
                · have hdone := hrun.out.done (fun h => by rw [hc2]; simp [W.isH, W.isD]; omega)
                  obtain ⟨tok, htok⟩ : ∃ tok, ((L.drop a).take (e - a)) = tok := ⟨_, rfl⟩
                  have hx : (⟨L.toArray⟩ : ByteArray).extract a e = ⟨tok.toArray⟩ := by rw [ba_extract, htok]
                  have hlen : tok.length ≤ 1000 := by rw [← htok]; simp; omega
                  have hei : (e : Int) ≤ (L.length : Int) := by omega
                  have htk : Hid (tok = c :: (L.drop (a + 1)).takeWhile W.isD) := by
                    show tok = _
                    rw [hdone.1, ← htok, dg_drop L a hlt, hc, show e - a = (e - (a + 1)) + 1 by omega, List.take_succ_cons]
                  rw [← htk.out, hdone.2] at hst
                  obtain ⟨p, hp⟩ : ∃ p, W.fin false tok (W.dgs 10 0 tok) = p := ⟨_, rfl⟩
                  have hdr : W.dgR 10 tok = p := by
                    rw [W.dgR, htk.out, if_neg (by simp; intro h; rw [h] at n45; exact absurd rfl n45), ← htk.out, hp]
                  rw [hdr] at hst
                  have HS2 := hTa.out.trans (congrArg (Option.map (acc ++ ·)) hst)
                  have HP : Hid (_ = p) := hp
                  obtain ⟨n, bb⟩ := p
                  clear hTa hst hdr hp htok hdone
                  cases bb
                  · have HN : Hid (T = none) := HS2
                    clear HS2
                    go_wp2_with (go_at_call 72; refine (digits_p10 tok hlen c _ htk n45b _).mono ?_; rintro e' w' ⟨rfl, rfl⟩; rw [HP.out])
                    go_ret
                    exact ⟨_, rfl, by rw [HN.out]; exact World.ownsRow_nil _ _ _ _, hbl⟩
                  · have HN : Hid (T = (W.numsL (L.drop e)).map ((acc ++ [n]) ++ ·)) := by
                      show T = _
                      rw [HS2]
                      show Option.map (acc ++ ·) (Option.map (n :: ·) (W.numsL (L.drop e))) = _
                      cases W.numsL (L.drop e) <;> simp
                    clear HS2
                    have hmx : max (e : Int) ((a : Int) + 1) = (e : Int) := by omega
                    go_wp2_with (first | (go_at_call 72; refine (digits_p10 tok hlen c _ htk n45b _).mono ?_; rintro e' w' ⟨rfl, rfl⟩; rw [HP.out]) | (at_builtin; refine wpList_append_own _ rfl _ _ 47 rfl w.heap.size 3 i0 (.int .i64 0) 1 8 Tryz.underlying47 hi hz0 hz1 hz2 rfl (by decide) _ _ _ rfl (hown.alloc _) ⟨w'.heap.size, 0, none⟩ 1 1 [iV n] rfl rfl ?c2 ?c3 ?c4 ?c5 ?c6 ?_))
                    case c2 => exact one_new w' _ _
                    case c3 => intro u hu; simp at hu; subst hu; rfl
                    case c4 => unfold maxLen; omega
                    case c5 => omega
                    case c6 => have := hbl.size; simp; omega
                    intro v' w5 hown5 hg5 _
                    have hb5 : Below w.heap.size w w5 := Below.grown (hbl.alloc hbl.size _) hg5 (by have := hbl.size; simp; omega) (fun q hq => (hown.lt q hq).1)
                    go_wp2
                    go_roundw
                    case rel => exact ⟨e, acc ++ [n], by omega, by simp; omega, by go_num, by rw [List.map_append, List.length_append]; exact hown5, hb5, HN.out⟩
                    case measure => simp [intOf]; omega
            · have hdone := hrun.out.done (fun h => by omega)
              obtain ⟨tok, htok⟩ : ∃ tok, ((L.drop a).take (e - a)) = tok := ⟨_, rfl⟩
              have hx : (⟨L.toArray⟩ : ByteArray).extract a e = ⟨tok.toArray⟩ := by rw [ba_extract, htok]
              have hlen : tok.length ≤ 1000 := by rw [← htok]; simp; omega
              have hei : (e : Int) ≤ (L.length : Int) := by omega
              have htk : Hid (tok = c :: (L.drop (a + 1)).takeWhile W.isD) := by
                show tok = _
                rw [hdone.1, ← htok, dg_drop L a hlt, hc, show e - a = (e - (a + 1)) + 1 by omega, List.take_succ_cons]
              rw [← htk.out, hdone.2] at hst
              obtain ⟨p, hp⟩ : ∃ p, W.fin false tok (W.dgs 10 0 tok) = p := ⟨_, rfl⟩
              have hdr : W.dgR 10 tok = p := by
                rw [W.dgR, htk.out, if_neg (by simp; intro h; rw [h] at n45; exact absurd rfl n45), ← htk.out, hp]
              rw [hdr] at hst
              have HS2 := hTa.out.trans (congrArg (Option.map (acc ++ ·)) hst)
              have HP : Hid (_ = p) := hp
              obtain ⟨n, bb⟩ := p
              clear hTa hst hdr hp htok hdone
              cases bb
              · have HN : Hid (T = none) := HS2
                clear HS2
                go_wp2_with (go_at_call 72; refine (digits_p10 tok hlen c _ htk n45b _).mono ?_; rintro e' w' ⟨rfl, rfl⟩; rw [HP.out])
                go_ret
                exact ⟨_, rfl, by rw [HN.out]; exact World.ownsRow_nil _ _ _ _, hbl⟩
              · have HN : Hid (T = (W.numsL (L.drop e)).map ((acc ++ [n]) ++ ·)) := by
                  show T = _
                  rw [HS2]
                  show Option.map (acc ++ ·) (Option.map (n :: ·) (W.numsL (L.drop e))) = _
                  cases W.numsL (L.drop e) <;> simp
                clear HS2
                have hmx : max (e : Int) ((a : Int) + 1) = (e : Int) := by omega
                go_wp2_with (first | (go_at_call 72; refine (digits_p10 tok hlen c _ htk n45b _).mono ?_; rintro e' w' ⟨rfl, rfl⟩; rw [HP.out]) | (at_builtin; refine wpList_append_own _ rfl _ _ 47 rfl w.heap.size 3 i0 (.int .i64 0) 1 8 Tryz.underlying47 hi hz0 hz1 hz2 rfl (by decide) _ _ _ rfl (hown.alloc _) ⟨w'.heap.size, 0, none⟩ 1 1 [iV n] rfl rfl ?c2 ?c3 ?c4 ?c5 ?c6 ?_))
                case c2 => exact one_new w' _ _
                case c3 => intro u hu; simp at hu; subst hu; rfl
                case c4 => unfold maxLen; omega
                case c5 => omega
                case c6 => have := hbl.size; simp; omega
                intro v' w5 hown5 hg5 _
                have hb5 : Below w.heap.size w w5 := Below.grown (hbl.alloc hbl.size _) hg5 (by have := hbl.size; simp; omega) (fun q hq => (hown.lt q hq).1)
                go_wp2
                go_roundw
                case rel => exact ⟨e, acc ++ [n], by omega, by simp; omega, by go_num, by rw [List.map_append, List.length_append]; exact hown5, hb5, HN.out⟩
                case measure => simp [intOf]; omega
        · by_cases c45 : c.toNat = 45
          · have hc45 : c = 45 := UInt8.toNat_inj.1 c45
            have hc48 : (c == 48) = false := by rw [hc45]; rfl
            rw [hc48, Bool.false_and, cond_false] at hst
            have x45 : ((c.toNat : Int) != 45) = false := by rw [c45]; rfl
            have e48 : ((c.toNat : Int) == 48) = false := by rw [c45]; rfl
            go_wp2
            go_loopw [8] (fun ve wx => ∃ e : Nat, Hid (W.Run W.isD L (a + 1) e) ∧ a + 1 ≤ e ∧ e ≤ L.length ∧ ve = .int .i64 e ∧ wx = wr) (fun ve _ => L.length - (intOf ve).toNat)
            case atStart => exact ⟨a + 1, W.Run.start _ L (a + 1) (by omega), by omega, by omega, by go_num, rfl⟩
            case round =>
              obtain ⟨e, hrun, he1, he2, rfl, rfl⟩ := hrel
              by_cases hel : e < L.length
              · have heli : (e : Int) < (L.length : Int) := by omega
                obtain ⟨c2, hc2⟩ : ∃ c2, L[e]'hel = c2 := ⟨_, rfl⟩
                have hck2 : ((⟨L.toArray⟩ : ByteArray)[e]'(by rw [ba_len]; exact hel)) = c2 := hc2
                by_cases d0 : c2.toNat < 48
                · have hdone := hrun.out.done (fun h => by rw [hc2]; simp [W.isH, W.isD]; omega)
                  obtain ⟨tok, htok⟩ : ∃ tok, ((L.drop a).take (e - a)) = tok := ⟨_, rfl⟩
                  have hx : (⟨L.toArray⟩ : ByteArray).extract a e = ⟨tok.toArray⟩ := by rw [ba_extract, htok]
                  have hlen : tok.length ≤ 1000 := by rw [← htok]; simp; omega
                  have hei : (e : Int) ≤ (L.length : Int) := by omega
                  have htk : Hid (tok = 45 :: (L.drop (a + 1)).takeWhile W.isD) := by
                    show tok = _
                    rw [hdone.1, ← htok, dg_drop L a hlt, hc, show e - a = (e - (a + 1)) + 1 by omega, List.take_succ_cons, hc45]
                  obtain ⟨tl, htl⟩ : ∃ tl, (L.drop (a + 1)).takeWhile W.isD = tl := ⟨_, rfl⟩
                  rw [hc45, ← htk.out, hdone.2] at hst
                  rw [htl] at htk
                  obtain ⟨p, hp⟩ : ∃ p, W.fin true tl (W.dgs 10 0 tl) = p := ⟨_, rfl⟩
                  have hdr : W.dgR 10 tok = p := by
                    rw [W.dgR, htk.out, if_pos (show (45 :: tl).head? = some 45 from rfl)]
                    exact hp
                  rw [hdr] at hst
                  have hlen2 : tl.length ≤ 1000 := by have := congrArg List.length htk.out; simp at this; omega
                  have htk2 := htk.out
                  subst htk2
                  have HS2 := hTa.out.trans (congrArg (Option.map (acc ++ ·)) hst)
                  have HP : Hid (_ = p) := hp
                  obtain ⟨n, bb⟩ := p
                  clear hTa hst hdr hp htok hdone
                  cases bb
                  · have HN : Hid (T = none) := HS2
                    clear HS2
                    go_wp2_with (go_at_call 72; refine (digits_n10 tl hlen2 _).mono ?_; rintro e' w' ⟨rfl, rfl⟩; rw [HP.out])
                    go_ret
                    exact ⟨_, rfl, by rw [HN.out]; exact World.ownsRow_nil _ _ _ _, hbl⟩
                  · have HN : Hid (T = (W.numsL (L.drop e)).map ((acc ++ [n]) ++ ·)) := by
                      show T = _
                      rw [HS2]
                      show Option.map (acc ++ ·) (Option.map (n :: ·) (W.numsL (L.drop e))) = _
                      cases W.numsL (L.drop e) <;> simp
                    clear HS2
                    have hmx : max (e : Int) ((a : Int) + 1) = (e : Int) := by omega
                    go_wp2_with (first | (go_at_call 72; refine (digits_n10 tl hlen2 _).mono ?_; rintro e' w' ⟨rfl, rfl⟩; rw [HP.out]) | (at_builtin; refine wpList_append_own _ rfl _ _ 47 rfl w.heap.size 3 i0 (.int .i64 0) 1 8 Tryz.underlying47 hi hz0 hz1 hz2 rfl (by decide) _ _ _ rfl (hown.alloc _) ⟨w'.heap.size, 0, none⟩ 1 1 [iV n] rfl rfl ?c2 ?c3 ?c4 ?c5 ?c6 ?_))
                    case c2 => exact one_new w' _ _
                    case c3 => intro u hu; simp at hu; subst hu; rfl
                    case c4 => unfold maxLen; omega
                    case c5 => omega
                    case c6 => have := hbl.size; simp; omega
                    intro v' w5 hown5 hg5 _
                    have hb5 : Below w.heap.size w w5 := Below.grown (hbl.alloc hbl.size _) hg5 (by have := hbl.size; simp; omega) (fun q hq => (hown.lt q hq).1)
                    go_wp2
                    go_roundw
                    case rel => exact ⟨e, acc ++ [n], by omega, by simp; omega, by go_num, by rw [List.map_append, List.length_append]; exact hown5, hb5, HN.out⟩
                    case measure => simp [intOf]; omega
                · skip
                  by_cases d1 : c2.toNat ≤ 57
                  · have hnx := hrun.out.next hel (by rw [hc2]; simp [W.isH, W.isD]; omega)
                    clear hst hTa
                    go_wp2
                    go_roundw
                    case rel => exact ⟨e + 1, hnx, by omega, by omega, by go_num, trivial⟩
                    case measure => simp [intOf]; omega
                  · have hdone := hrun.out.done (fun h => by rw [hc2]; simp [W.isH, W.isD]; omega)
                    obtain ⟨tok, htok⟩ : ∃ tok, ((L.drop a).take (e - a)) = tok := ⟨_, rfl⟩
                    have hx : (⟨L.toArray⟩ : ByteArray).extract a e = ⟨tok.toArray⟩ := by rw [ba_extract, htok]
                    have hlen : tok.length ≤ 1000 := by rw [← htok]; simp; omega
                    have hei : (e : Int) ≤ (L.length : Int) := by omega
                    have htk : Hid (tok = 45 :: (L.drop (a + 1)).takeWhile W.isD) := by
                      show tok = _
                      rw [hdone.1, ← htok, dg_drop L a hlt, hc, show e - a = (e - (a + 1)) + 1 by omega, List.take_succ_cons, hc45]
                    obtain ⟨tl, htl⟩ : ∃ tl, (L.drop (a + 1)).takeWhile W.isD = tl := ⟨_, rfl⟩
                    rw [hc45, ← htk.out, hdone.2] at hst
                    rw [htl] at htk
                    obtain ⟨p, hp⟩ : ∃ p, W.fin true tl (W.dgs 10 0 tl) = p := ⟨_, rfl⟩
                    have hdr : W.dgR 10 tok = p := by
                      rw [W.dgR, htk.out, if_pos (show (45 :: tl).head? = some 45 from rfl)]
                      exact hp
                    rw [hdr] at hst
                    have hlen2 : tl.length ≤ 1000 := by have := congrArg List.length htk.out; simp at this; omega
                    have htk2 := htk.out
                    subst htk2
                    have HS2 := hTa.out.trans (congrArg (Option.map (acc ++ ·)) hst)
                    have HP : Hid (_ = p) := hp
                    obtain ⟨n, bb⟩ := p
                    clear hTa hst hdr hp htok hdone
                    cases bb
                    · have HN : Hid (T = none) := HS2
                      clear HS2
                      go_wp2_with (go_at_call 72; refine (digits_n10 tl hlen2 _).mono ?_; rintro e' w' ⟨rfl, rfl⟩; rw [HP.out])
                      go_ret
                      exact ⟨_, rfl, by rw [HN.out]; exact World.ownsRow_nil _ _ _ _, hbl⟩
                    · have HN : Hid (T = (W.numsL (L.drop e)).map ((acc ++ [n]) ++ ·)) := by
                        show T = _
                        rw [HS2]
                        show Option.map (acc ++ ·) (Option.map (n :: ·) (W.numsL (L.drop e))) = _
                        cases W.numsL (L.drop e) <;> simp
                      clear HS2
                      have hmx : max (e : Int) ((a : Int) + 1) = (e : Int) := by omega
                      go_wp2_with (first | (go_at_call 72; refine (digits_n10 tl hlen2 _).mono ?_; rintro e' w' ⟨rfl, rfl⟩; rw [HP.out]) | (at_builtin; refine wpList_append_own _ rfl _ _ 47 rfl w.heap.size 3 i0 (.int .i64 0) 1 8 Tryz.underlying47 hi hz0 hz1 hz2 rfl (by decide) _ _ _ rfl (hown.alloc _) ⟨w'.heap.size, 0, none⟩ 1 1 [iV n] rfl rfl ?c2 ?c3 ?c4 ?c5 ?c6 ?_))
                      case c2 => exact one_new w' _ _
                      case c3 => intro u hu; simp at hu; subst hu; rfl
                      case c4 => unfold maxLen; omega
                      case c5 => omega
                      case c6 => have := hbl.size; simp; omega
                      intro v' w5 hown5 hg5 _
                      have hb5 : Below w.heap.size w w5 := Below.grown (hbl.alloc hbl.size _) hg5 (by have := hbl.size; simp; omega) (fun q hq => (hown.lt q hq).1)
                      go_wp2
                      go_roundw
                      case rel => exact ⟨e, acc ++ [n], by omega, by simp; omega, by go_num, by rw [List.map_append, List.length_append]; exact hown5, hb5, HN.out⟩
                      case measure => simp [intOf]; omega
              · have hdone := hrun.out.done (fun h => by omega)
                obtain ⟨tok, htok⟩ : ∃ tok, ((L.drop a).take (e - a)) = tok := ⟨_, rfl⟩
                have hx : (⟨L.toArray⟩ : ByteArray).extract a e = ⟨tok.toArray⟩ := by rw [ba_extract, htok]
                have hlen : tok.length ≤ 1000 := by rw [← htok]; simp; omega
                have hei : (e : Int) ≤ (L.length : Int) := by omega
                have htk : Hid (tok = 45 :: (L.drop (a + 1)).takeWhile W.isD) := by
                  show tok = _
                  rw [hdone.1, ← htok, dg_drop L a hlt, hc, show e - a = (e - (a + 1)) + 1 by omega, List.take_succ_cons, hc45]
                obtain ⟨tl, htl⟩ : ∃ tl, (L.drop (a + 1)).takeWhile W.isD = tl := ⟨_, rfl⟩
                rw [hc45, ← htk.out, hdone.2] at hst
                rw [htl] at htk
                obtain ⟨p, hp⟩ : ∃ p, W.fin true tl (W.dgs 10 0 tl) = p := ⟨_, rfl⟩
                have hdr : W.dgR 10 tok = p := by
                  rw [W.dgR, htk.out, if_pos (show (45 :: tl).head? = some 45 from rfl)]
                  exact hp
                rw [hdr] at hst
                have hlen2 : tl.length ≤ 1000 := by have := congrArg List.length htk.out; simp at this; omega
                have htk2 := htk.out
                subst htk2
                have HS2 := hTa.out.trans (congrArg (Option.map (acc ++ ·)) hst)
                have HP : Hid (_ = p) := hp
                obtain ⟨n, bb⟩ := p
                clear hTa hst hdr hp htok hdone
                cases bb
                · have HN : Hid (T = none) := HS2
                  clear HS2
                  go_wp2_with (go_at_call 72; refine (digits_n10 tl hlen2 _).mono ?_; rintro e' w' ⟨rfl, rfl⟩; rw [HP.out])
                  go_ret
                  exact ⟨_, rfl, by rw [HN.out]; exact World.ownsRow_nil _ _ _ _, hbl⟩
                · have HN : Hid (T = (W.numsL (L.drop e)).map ((acc ++ [n]) ++ ·)) := by
                    show T = _
                    rw [HS2]
                    show Option.map (acc ++ ·) (Option.map (n :: ·) (W.numsL (L.drop e))) = _
                    cases W.numsL (L.drop e) <;> simp
                  clear HS2
                  have hmx : max (e : Int) ((a : Int) + 1) = (e : Int) := by omega
                  go_wp2_with (first | (go_at_call 72; refine (digits_n10 tl hlen2 _).mono ?_; rintro e' w' ⟨rfl, rfl⟩; rw [HP.out]) | (at_builtin; refine wpList_append_own _ rfl _ _ 47 rfl w.heap.size 3 i0 (.int .i64 0) 1 8 Tryz.underlying47 hi hz0 hz1 hz2 rfl (by decide) _ _ _ rfl (hown.alloc _) ⟨w'.heap.size, 0, none⟩ 1 1 [iV n] rfl rfl ?c2 ?c3 ?c4 ?c5 ?c6 ?_))
                  case c2 => exact one_new w' _ _
                  case c3 => intro u hu; simp at hu; subst hu; rfl
                  case c4 => unfold maxLen; omega
                  case c5 => omega
                  case c6 => have := hbl.size; simp; omega
                  intro v' w5 hown5 hg5 _
                  have hb5 : Below w.heap.size w w5 := Below.grown (hbl.alloc hbl.size _) hg5 (by have := hbl.size; simp; omega) (fun q hq => (hown.lt q hq).1)
                  go_wp2
                  go_roundw
                  case rel => exact ⟨e, acc ++ [n], by omega, by simp; omega, by go_num, by rw [List.map_append, List.length_append]; exact hown5, hb5, HN.out⟩
                  case measure => simp [intOf]; omega
          · have c48 : c.toNat = 48 := by
              have := hsk2
              simp [W.skips, W.isD] at this
              by_cases h : 48 ≤ c.toNat
              · omega
              · have h2 := this (by omega)
                rw [h2] at c45
                exact absurd rfl c45
            have hc48 : c = 48 := UInt8.toNat_inj.1 c48
            by_cases hx1 : a + 1 < L.length
            · have hx1i : (a : Int) + 1 < (L.length : Int) := by omega
              obtain ⟨c1, hc1⟩ : ∃ c1, L[a + 1]'hx1 = c1 := ⟨_, rfl⟩
              have hck1 : ((⟨L.toArray⟩ : ByteArray)[a + 1]'(by rw [ba_len]; exact hx1)) = c1 := hc1
              have hh : (L.drop (a + 1)).head? = some c1 := by rw [dg_drop L (a + 1) hx1, hc1]; rfl
              by_cases h120 : c1.toNat = 120
              · have hcnd : ((c == 48) && ((L.drop (a + 1)).head? == some 120)) = true := by rw [hh, hc48, UInt8.toNat_inj.1 (show c1.toNat = (120 : UInt8).toNat from h120)]; rfl
                have e120 : ((c1.toNat : Int) == 120) = true := by rw [h120]; rfl
                rw [hcnd, cond_true] at hst
                have ht2 : (L.drop (a + 1)).tail = L.drop (a + 2) := by rw [List.tail_drop]
                rw [ht2] at hst
                have e48 : ((c.toNat : Int) == 48) = true := by rw [c48]; rfl
                go_wp2
                go_loopw [8] (fun ve wx => ∃ e : Nat, Hid (W.Run W.isH L (a + 2) e) ∧ a + 2 ≤ e ∧ e ≤ L.length ∧ ve = .int .i64 e ∧ wx = wr) (fun ve _ => L.length - (intOf ve).toNat)
                case atStart => exact ⟨a + 2, W.Run.start _ L (a + 2) (by omega), by omega, by omega, by go_num, rfl⟩
                case round =>
                  obtain ⟨e, hrun, he1, he2, rfl, rfl⟩ := hrel
                  by_cases hel : e < L.length
                  · have heli : (e : Int) < (L.length : Int) := by omega
                    obtain ⟨c2, hc2⟩ : ∃ c2, L[e]'hel = c2 := ⟨_, rfl⟩
                    have hck2 : ((⟨L.toArray⟩ : ByteArray)[e]'(by rw [ba_len]; exact hel)) = c2 := hc2
                    by_cases d0 : c2.toNat < 48
                    · have hdone := hrun.out.done (fun h => by rw [hc2]; simp [W.isH, W.isD]; omega)
                      obtain ⟨tok, htok⟩ : ∃ tok, ((L.drop (a + 2)).take (e - (a + 2))) = tok := ⟨_, rfl⟩
                      have hx : (⟨L.toArray⟩ : ByteArray).extract (a + 2) e = ⟨tok.toArray⟩ := by rw [ba_extract, htok]
                      have hlen : tok.length ≤ 1000 := by rw [← htok]; simp; omega
                      have hei : (e : Int) ≤ (L.length : Int) := by omega
                      have ht0 : ∀ t0 tr, tok = t0 :: tr → ¬ t0.toNat = 45 := by
                        intro t0 tr h
                        have hm : t0 ∈ (L.drop (a + 2)).takeWhile W.isH := by rw [hdone.1, htok, h]; simp
                        have := tw_mem _ _ _ hm
                        simp [W.isH, W.isD] at this
                        omega
                      have hpos : ¬ tok = [] → a + 3 ≤ e := by
                        intro h
                        by_cases h3 : a + 3 ≤ e
                        · exact h3
                        · exact absurd (by rw [← htok, show e - (a + 2) = 0 by omega]; rfl) h
                      rw [hdone.1, hdone.2, htok] at hst
                      obtain ⟨p, hp⟩ : ∃ p, W.fin false tok (W.dgs 16 0 tok) = p := ⟨_, rfl⟩
                      have hdr : W.dg16 tok = p := hp
                      rw [hdr] at hst
                      have HS2 := hTa.out.trans (congrArg (Option.map (acc ++ ·)) hst)
                      have HP : Hid (_ = p) := hp
                      obtain ⟨n, bb⟩ := p
                      clear hTa hst hdr hp htok hdone
                      by_cases htz : tok = []
                      · subst htz
                        have hb0 : bb = false := by have := HP.out; simp [W.fin, W.dgs] at this; exact this.2
                        subst hb0
                        have HN : Hid (T = none) := HS2
                        clear HS2
                        go_wp2_with (go_at_call 72; refine (digits_e16 _).mono ?_; rintro e' w' ⟨rfl, rfl⟩)
                        go_ret
                        exact ⟨_, rfl, by rw [HN.out]; exact World.ownsRow_nil _ _ _ _, hbl⟩
                      · have hpos2 := hpos htz
                        obtain ⟨t0, tr, htt⟩ : ∃ t0 tr, tok = t0 :: tr := by cases tok with | nil => exact absurd rfl htz | cons x y => exact ⟨x, y, rfl⟩
                        have HTT : Hid (tok = t0 :: tr) := htt
                        have t045 : ((t0.toNat : Int) == 45) = false := by
                          have := ht0 t0 tr htt
                          simp; omega
                        clear htt
                        cases bb
                        · have HN : Hid (T = none) := HS2
                          clear HS2
                          go_wp2_with (go_at_call 72; refine (digits_p16 tok hlen t0 tr HTT t045 _).mono ?_; rintro e' w' ⟨rfl, rfl⟩; rw [HP.out])
                          go_ret
                          exact ⟨_, rfl, by rw [HN.out]; exact World.ownsRow_nil _ _ _ _, hbl⟩
                        · have HN : Hid (T = (W.numsL (L.drop e)).map ((acc ++ [n]) ++ ·)) := by
                            show T = _
                            rw [HS2]
                            show Option.map (acc ++ ·) (Option.map (n :: ·) (W.numsL (L.drop e))) = _
                            cases W.numsL (L.drop e) <;> simp
                          clear HS2
                          have hmx : max (e : Int) ((a : Int) + 2 + 1) = (e : Int) := by omega
                          go_wp2_with (first | (go_at_call 72; refine (digits_p16 tok hlen t0 tr HTT t045 _).mono ?_; rintro e' w' ⟨rfl, rfl⟩; rw [HP.out]) | (at_builtin; refine wpList_append_own _ rfl _ _ 47 rfl w.heap.size 3 i0 (.int .i64 0) 1 8 Tryz.underlying47 hi hz0 hz1 hz2 rfl (by decide) _ _ _ rfl (hown.alloc _) ⟨w'.heap.size, 0, none⟩ 1 1 [iV n] rfl rfl ?c2 ?c3 ?c4 ?c5 ?c6 ?_))
                          case c2 => exact one_new w' _ _
                          case c3 => intro u hu; simp at hu; subst hu; rfl
                          case c4 => unfold maxLen; omega
                          case c5 => omega
                          case c6 => have := hbl.size; simp; omega
                          intro v' w5 hown5 hg5 _
                          have hb5 : Below w.heap.size w w5 := Below.grown (hbl.alloc hbl.size _) hg5 (by have := hbl.size; simp; omega) (fun q hq => (hown.lt q hq).1)
                          go_wp2
                          go_roundw
                          case rel => exact ⟨e, acc ++ [n], by omega, by simp; omega, by go_num, by rw [List.map_append, List.length_append]; exact hown5, hb5, HN.out⟩
                          case measure => simp [intOf]; omega
                    · skip
                      by_cases d1 : c2.toNat ≤ 57
                      · have hnx := hrun.out.next hel (by rw [hc2]; simp [W.isH, W.isD]; omega)
                        clear hst hTa
                        go_wp2
                        go_roundw
                        case rel => exact ⟨e + 1, hnx, by omega, by omega, by go_num, trivial⟩
                        case measure => simp [intOf]; omega
                      · skip
                        by_cases d2 : c2.toNat < 97
                        · have hdone := hrun.out.done (fun h => by rw [hc2]; simp [W.isH, W.isD]; omega)
                          obtain ⟨tok, htok⟩ : ∃ tok, ((L.drop (a + 2)).take (e - (a + 2))) = tok := ⟨_, rfl⟩
                          have hx : (⟨L.toArray⟩ : ByteArray).extract (a + 2) e = ⟨tok.toArray⟩ := by rw [ba_extract, htok]
                          have hlen : tok.length ≤ 1000 := by rw [← htok]; simp; omega
                          have hei : (e : Int) ≤ (L.length : Int) := by omega
                          have ht0 : ∀ t0 tr, tok = t0 :: tr → ¬ t0.toNat = 45 := by
                            intro t0 tr h
                            have hm : t0 ∈ (L.drop (a + 2)).takeWhile W.isH := by rw [hdone.1, htok, h]; simp
                            have := tw_mem _ _ _ hm
                            simp [W.isH, W.isD] at this
                            omega
                          have hpos : ¬ tok = [] → a + 3 ≤ e := by
                            intro h
                            by_cases h3 : a + 3 ≤ e
                            · exact h3
                            · exact absurd (by rw [← htok, show e - (a + 2) = 0 by omega]; rfl) h
                          rw [hdone.1, hdone.2, htok] at hst
                          obtain ⟨p, hp⟩ : ∃ p, W.fin false tok (W.dgs 16 0 tok) = p := ⟨_, rfl⟩
                          have hdr : W.dg16 tok = p := hp
                          rw [hdr] at hst
                          have HS2 := hTa.out.trans (congrArg (Option.map (acc ++ ·)) hst)
                          have HP : Hid (_ = p) := hp
                          obtain ⟨n, bb⟩ := p
                          clear hTa hst hdr hp htok hdone
                          by_cases htz : tok = []
                          · subst htz
                            have hb0 : bb = false := by have := HP.out; simp [W.fin, W.dgs] at this; exact this.2
                            subst hb0
                            have HN : Hid (T = none) := HS2
                            clear HS2
                            go_wp2_with (go_at_call 72; refine (digits_e16 _).mono ?_; rintro e' w' ⟨rfl, rfl⟩)
                            go_ret
                            exact ⟨_, rfl, by rw [HN.out]; exact World.ownsRow_nil _ _ _ _, hbl⟩
                          · have hpos2 := hpos htz
                            obtain ⟨t0, tr, htt⟩ : ∃ t0 tr, tok = t0 :: tr := by cases tok with | nil => exact absurd rfl htz | cons x y => exact ⟨x, y, rfl⟩
                            have HTT : Hid (tok = t0 :: tr) := htt
                            have t045 : ((t0.toNat : Int) == 45) = false := by
                              have := ht0 t0 tr htt
                              simp; omega
                            clear htt
                            cases bb
                            · have HN : Hid (T = none) := HS2
                              clear HS2
                              go_wp2_with (go_at_call 72; refine (digits_p16 tok hlen t0 tr HTT t045 _).mono ?_; rintro e' w' ⟨rfl, rfl⟩; rw [HP.out])
                              go_ret
                              exact ⟨_, rfl, by rw [HN.out]; exact World.ownsRow_nil _ _ _ _, hbl⟩
                            · have HN : Hid (T = (W.numsL (L.drop e)).map ((acc ++ [n]) ++ ·)) := by
                                show T = _
                                rw [HS2]
                                show Option.map (acc ++ ·) (Option.map (n :: ·) (W.numsL (L.drop e))) = _
                                cases W.numsL (L.drop e) <;> simp
                              clear HS2
                              have hmx : max (e : Int) ((a : Int) + 2 + 1) = (e : Int) := by omega
                              go_wp2_with (first | (go_at_call 72; refine (digits_p16 tok hlen t0 tr HTT t045 _).mono ?_; rintro e' w' ⟨rfl, rfl⟩; rw [HP.out]) | (at_builtin; refine wpList_append_own _ rfl _ _ 47 rfl w.heap.size 3 i0 (.int .i64 0) 1 8 Tryz.underlying47 hi hz0 hz1 hz2 rfl (by decide) _ _ _ rfl (hown.alloc _) ⟨w'.heap.size, 0, none⟩ 1 1 [iV n] rfl rfl ?c2 ?c3 ?c4 ?c5 ?c6 ?_))
                              case c2 => exact one_new w' _ _
                              case c3 => intro u hu; simp at hu; subst hu; rfl
                              case c4 => unfold maxLen; omega
                              case c5 => omega
                              case c6 => have := hbl.size; simp; omega
                              intro v' w5 hown5 hg5 _
                              have hb5 : Below w.heap.size w w5 := Below.grown (hbl.alloc hbl.size _) hg5 (by have := hbl.size; simp; omega) (fun q hq => (hown.lt q hq).1)
                              go_wp2
                              go_roundw
                              case rel => exact ⟨e, acc ++ [n], by omega, by simp; omega, by go_num, by rw [List.map_append, List.length_append]; exact hown5, hb5, HN.out⟩
                              case measure => simp [intOf]; omega
                        · skip
                          by_cases d3 : c2.toNat ≤ 102
                          · have hnx := hrun.out.next hel (by rw [hc2]; simp [W.isH, W.isD]; omega)
                            clear hst hTa
                            go_wp2
                            go_roundw
                            case rel => exact ⟨e + 1, hnx, by omega, by omega, by go_num, trivial⟩
                            case measure => simp [intOf]; omega
                          · have hdone := hrun.out.done (fun h => by rw [hc2]; simp [W.isH, W.isD]; omega)
                            obtain ⟨tok, htok⟩ : ∃ tok, ((L.drop (a + 2)).take (e - (a + 2))) = tok := ⟨_, rfl⟩
                            have hx : (⟨L.toArray⟩ : ByteArray).extract (a + 2) e = ⟨tok.toArray⟩ := by rw [ba_extract, htok]
                            have hlen : tok.length ≤ 1000 := by rw [← htok]; simp; omega
                            have hei : (e : Int) ≤ (L.length : Int) := by omega
                            have ht0 : ∀ t0 tr, tok = t0 :: tr → ¬ t0.toNat = 45 := by
                              intro t0 tr h
                              have hm : t0 ∈ (L.drop (a + 2)).takeWhile W.isH := by rw [hdone.1, htok, h]; simp
                              have := tw_mem _ _ _ hm
                              simp [W.isH, W.isD] at this
                              omega
                            have hpos : ¬ tok = [] → a + 3 ≤ e := by
                              intro h
                              by_cases h3 : a + 3 ≤ e
                              · exact h3
                              · exact absurd (by rw [← htok, show e - (a + 2) = 0 by omega]; rfl) h
                            rw [hdone.1, hdone.2, htok] at hst
                            obtain ⟨p, hp⟩ : ∃ p, W.fin false tok (W.dgs 16 0 tok) = p := ⟨_, rfl⟩
                            have hdr : W.dg16 tok = p := hp
                            rw [hdr] at hst
                            have HS2 := hTa.out.trans (congrArg (Option.map (acc ++ ·)) hst)
                            have HP : Hid (_ = p) := hp
                            obtain ⟨n, bb⟩ := p
                            clear hTa hst hdr hp htok hdone
                            by_cases htz : tok = []
                            · subst htz
                              have hb0 : bb = false := by have := HP.out; simp [W.fin, W.dgs] at this; exact this.2
                              subst hb0
                              have HN : Hid (T = none) := HS2
                              clear HS2
                              go_wp2_with (go_at_call 72; refine (digits_e16 _).mono ?_; rintro e' w' ⟨rfl, rfl⟩)
                              go_ret
                              exact ⟨_, rfl, by rw [HN.out]; exact World.ownsRow_nil _ _ _ _, hbl⟩
                            · have hpos2 := hpos htz
                              obtain ⟨t0, tr, htt⟩ : ∃ t0 tr, tok = t0 :: tr := by cases tok with | nil => exact absurd rfl htz | cons x y => exact ⟨x, y, rfl⟩
                              have HTT : Hid (tok = t0 :: tr) := htt
                              have t045 : ((t0.toNat : Int) == 45) = false := by
                                have := ht0 t0 tr htt
                                simp; omega
                              clear htt
                              cases bb
                              · have HN : Hid (T = none) := HS2
                                clear HS2
                                go_wp2_with (go_at_call 72; refine (digits_p16 tok hlen t0 tr HTT t045 _).mono ?_; rintro e' w' ⟨rfl, rfl⟩; rw [HP.out])
                                go_ret
                                exact ⟨_, rfl, by rw [HN.out]; exact World.ownsRow_nil _ _ _ _, hbl⟩
                              · have HN : Hid (T = (W.numsL (L.drop e)).map ((acc ++ [n]) ++ ·)) := by
                                  show T = _
                                  rw [HS2]
                                  show Option.map (acc ++ ·) (Option.map (n :: ·) (W.numsL (L.drop e))) = _
                                  cases W.numsL (L.drop e) <;> simp
                                clear HS2
                                have hmx : max (e : Int) ((a : Int) + 2 + 1) = (e : Int) := by omega
                                go_wp2_with (first | (go_at_call 72; refine (digits_p16 tok hlen t0 tr HTT t045 _).mono ?_; rintro e' w' ⟨rfl, rfl⟩; rw [HP.out]) | (at_builtin; refine wpList_append_own _ rfl _ _ 47 rfl w.heap.size 3 i0 (.int .i64 0) 1 8 Tryz.underlying47 hi hz0 hz1 hz2 rfl (by decide) _ _ _ rfl (hown.alloc _) ⟨w'.heap.size, 0, none⟩ 1 1 [iV n] rfl rfl ?c2 ?c3 ?c4 ?c5 ?c6 ?_))
                                case c2 => exact one_new w' _ _
                                case c3 => intro u hu; simp at hu; subst hu; rfl
                                case c4 => unfold maxLen; omega
                                case c5 => omega
                                case c6 => have := hbl.size; simp; omega
                                intro v' w5 hown5 hg5 _
                                have hb5 : Below w.heap.size w w5 := Below.grown (hbl.alloc hbl.size _) hg5 (by have := hbl.size; simp; omega) (fun q hq => (hown.lt q hq).1)
                                go_wp2
                                go_roundw
                                case rel => exact ⟨e, acc ++ [n], by omega, by simp; omega, by go_num, by rw [List.map_append, List.length_append]; exact hown5, hb5, HN.out⟩
                                case measure => simp [intOf]; omega
                  · have hdone := hrun.out.done (fun h => by omega)
                    obtain ⟨tok, htok⟩ : ∃ tok, ((L.drop (a + 2)).take (e - (a + 2))) = tok := ⟨_, rfl⟩
                    have hx : (⟨L.toArray⟩ : ByteArray).extract (a + 2) e = ⟨tok.toArray⟩ := by rw [ba_extract, htok]
                    have hlen : tok.length ≤ 1000 := by rw [← htok]; simp; omega
                    have hei : (e : Int) ≤ (L.length : Int) := by omega
                    have ht0 : ∀ t0 tr, tok = t0 :: tr → ¬ t0.toNat = 45 := by
                      intro t0 tr h
                      have hm : t0 ∈ (L.drop (a + 2)).takeWhile W.isH := by rw [hdone.1, htok, h]; simp
                      have := tw_mem _ _ _ hm
                      simp [W.isH, W.isD] at this
                      omega
                    have hpos : ¬ tok = [] → a + 3 ≤ e := by
                      intro h
                      by_cases h3 : a + 3 ≤ e
                      · exact h3
                      · exact absurd (by rw [← htok, show e - (a + 2) = 0 by omega]; rfl) h
                    rw [hdone.1, hdone.2, htok] at hst
                    obtain ⟨p, hp⟩ : ∃ p, W.fin false tok (W.dgs 16 0 tok) = p := ⟨_, rfl⟩
                    have hdr : W.dg16 tok = p := hp
                    rw [hdr] at hst
                    have HS2 := hTa.out.trans (congrArg (Option.map (acc ++ ·)) hst)
                    have HP : Hid (_ = p) := hp
                    obtain ⟨n, bb⟩ := p
                    clear hTa hst hdr hp htok hdone
                    by_cases htz : tok = []
                    · subst htz
                      have hb0 : bb = false := by have := HP.out; simp [W.fin, W.dgs] at this; exact this.2
                      subst hb0
                      have HN : Hid (T = none) := HS2
                      clear HS2
                      go_wp2_with (go_at_call 72; refine (digits_e16 _).mono ?_; rintro e' w' ⟨rfl, rfl⟩)
                      go_ret
                      exact ⟨_, rfl, by rw [HN.out]; exact World.ownsRow_nil _ _ _ _, hbl⟩
                    · have hpos2 := hpos htz
                      obtain ⟨t0, tr, htt⟩ : ∃ t0 tr, tok = t0 :: tr := by cases tok with | nil => exact absurd rfl htz | cons x y => exact ⟨x, y, rfl⟩
                      have HTT : Hid (tok = t0 :: tr) := htt
                      have t045 : ((t0.toNat : Int) == 45) = false := by
                        have := ht0 t0 tr htt
                        simp; omega
                      clear htt
                      cases bb
                      · have HN : Hid (T = none) := HS2
                        clear HS2
                        go_wp2_with (go_at_call 72; refine (digits_p16 tok hlen t0 tr HTT t045 _).mono ?_; rintro e' w' ⟨rfl, rfl⟩; rw [HP.out])
                        go_ret
                        exact ⟨_, rfl, by rw [HN.out]; exact World.ownsRow_nil _ _ _ _, hbl⟩
                      · have HN : Hid (T = (W.numsL (L.drop e)).map ((acc ++ [n]) ++ ·)) := by
                          show T = _
                          rw [HS2]
                          show Option.map (acc ++ ·) (Option.map (n :: ·) (W.numsL (L.drop e))) = _
                          cases W.numsL (L.drop e) <;> simp
                        clear HS2
                        have hmx : max (e : Int) ((a : Int) + 2 + 1) = (e : Int) := by omega
                        go_wp2_with (first | (go_at_call 72; refine (digits_p16 tok hlen t0 tr HTT t045 _).mono ?_; rintro e' w' ⟨rfl, rfl⟩; rw [HP.out]) | (at_builtin; refine wpList_append_own _ rfl _ _ 47 rfl w.heap.size 3 i0 (.int .i64 0) 1 8 Tryz.underlying47 hi hz0 hz1 hz2 rfl (by decide) _ _ _ rfl (hown.alloc _) ⟨w'.heap.size, 0, none⟩ 1 1 [iV n] rfl rfl ?c2 ?c3 ?c4 ?c5 ?c6 ?_))
                        case c2 => exact one_new w' _ _
                        case c3 => intro u hu; simp at hu; subst hu; rfl
                        case c4 => unfold maxLen; omega
                        case c5 => omega
                        case c6 => have := hbl.size; simp; omega
                        intro v' w5 hown5 hg5 _
                        have hb5 : Below w.heap.size w w5 := Below.grown (hbl.alloc hbl.size _) hg5 (by have := hbl.size; simp; omega) (fun q hq => (hown.lt q hq).1)
                        go_wp2
                        go_roundw
                        case rel => exact ⟨e, acc ++ [n], by omega, by simp; omega, by go_num, by rw [List.map_append, List.length_append]; exact hown5, hb5, HN.out⟩
                        case measure => simp [intOf]; omega
              · have hcnd : ((c == 48) && ((L.drop (a + 1)).head? == some 120)) = false := by
                  rw [hh, hc48]
                  simp
                  rintro rfl
                  exact h120 rfl
                have e120 : ((c1.toNat : Int) == 120) = false := by simp; omega
                rw [hcnd, cond_false] at hst
                have n45 : ¬ c.toNat = 45 := by omega
                have n45b : ((c.toNat : Int) == 45) = false := by rw [c48]; rfl
                have e48 : ((c.toNat : Int) == 48) = true := by rw [c48]; rfl
                go_wp2
                go_loopw [8] (fun ve wx => ∃ e : Nat, Hid (W.Run W.isD L (a + 1) e) ∧ a + 1 ≤ e ∧ e ≤ L.length ∧ ve = .int .i64 e ∧ wx = wr) (fun ve _ => L.length - (intOf ve).toNat)
                case atStart => exact ⟨a + 1, W.Run.start _ L (a + 1) (by omega), by omega, by omega, by go_num, rfl⟩
                case round =>
                  obtain ⟨e, hrun, he1, he2, rfl, rfl⟩ := hrel
                  by_cases hel : e < L.length
                  · have heli : (e : Int) < (L.length : Int) := by omega
                    obtain ⟨c2, hc2⟩ : ∃ c2, L[e]'hel = c2 := ⟨_, rfl⟩
                    have hck2 : ((⟨L.toArray⟩ : ByteArray)[e]'(by rw [ba_len]; exact hel)) = c2 := hc2
                    by_cases d0 : c2.toNat < 48
                    · have hdone := hrun.out.done (fun h => by rw [hc2]; simp [W.isH, W.isD]; omega)
                      obtain ⟨tok, htok⟩ : ∃ tok, ((L.drop a).take (e - a)) = tok := ⟨_, rfl⟩
                      have hx : (⟨L.toArray⟩ : ByteArray).extract a e = ⟨tok.toArray⟩ := by rw [ba_extract, htok]
                      have hlen : tok.length ≤ 1000 := by rw [← htok]; simp; omega
                      have hei : (e : Int) ≤ (L.length : Int) := by omega
                      have htk : Hid (tok = c :: (L.drop (a + 1)).takeWhile W.isD) := by
                        show tok = _
                        rw [hdone.1, ← htok, dg_drop L a hlt, hc, show e - a = (e - (a + 1)) + 1 by omega, List.take_succ_cons]
                      rw [← htk.out, hdone.2] at hst
                      obtain ⟨p, hp⟩ : ∃ p, W.fin false tok (W.dgs 10 0 tok) = p := ⟨_, rfl⟩
                      have hdr : W.dgR 10 tok = p := by
                        rw [W.dgR, htk.out, if_neg (by simp; intro h; rw [h] at n45; exact absurd rfl n45), ← htk.out, hp]
                      rw [hdr] at hst
                      have HS2 := hTa.out.trans (congrArg (Option.map (acc ++ ·)) hst)
                      have HP : Hid (_ = p) := hp
                      obtain ⟨n, bb⟩ := p
                      clear hTa hst hdr hp htok hdone
                      cases bb
                      · have HN : Hid (T = none) := HS2
                        clear HS2
                        go_wp2_with (go_at_call 72; refine (digits_p10 tok hlen c _ htk n45b _).mono ?_; rintro e' w' ⟨rfl, rfl⟩; rw [HP.out])
                        go_ret
                        exact ⟨_, rfl, by rw [HN.out]; exact World.ownsRow_nil _ _ _ _, hbl⟩
                      · have HN : Hid (T = (W.numsL (L.drop e)).map ((acc ++ [n]) ++ ·)) := by
                          show T = _
                          rw [HS2]
                          show Option.map (acc ++ ·) (Option.map (n :: ·) (W.numsL (L.drop e))) = _
                          cases W.numsL (L.drop e) <;> simp
                        clear HS2
                        have hmx : max (e : Int) ((a : Int) + 1) = (e : Int) := by omega
                        go_wp2_with (first | (go_at_call 72; refine (digits_p10 tok hlen c _ htk n45b _).mono ?_; rintro e' w' ⟨rfl, rfl⟩; rw [HP.out]) | (at_builtin; refine wpList_append_own _ rfl _ _ 47 rfl w.heap.size 3 i0 (.int .i64 0) 1 8 Tryz.underlying47 hi hz0 hz1 hz2 rfl (by decide) _ _ _ rfl (hown.alloc _) ⟨w'.heap.size, 0, none⟩ 1 1 [iV n] rfl rfl ?c2 ?c3 ?c4 ?c5 ?c6 ?_))
                        case c2 => exact one_new w' _ _
                        case c3 => intro u hu; simp at hu; subst hu; rfl
                        case c4 => unfold maxLen; omega
                        case c5 => omega
                        case c6 => have := hbl.size; simp; omega
                        intro v' w5 hown5 hg5 _
                        have hb5 : Below w.heap.size w w5 := Below.grown (hbl.alloc hbl.size _) hg5 (by have := hbl.size; simp; omega) (fun q hq => (hown.lt q hq).1)
                        go_wp2
                        go_roundw
                        case rel => exact ⟨e, acc ++ [n], by omega, by simp; omega, by go_num, by rw [List.map_append, List.length_append]; exact hown5, hb5, HN.out⟩
                        case measure => simp [intOf]; omega
                    · skip
                      by_cases d1 : c2.toNat ≤ 57
                      · have hnx := hrun.out.next hel (by rw [hc2]; simp [W.isH, W.isD]; omega)
                        clear hst hTa
                        go_wp2
                        go_roundw
                        case rel => exact ⟨e + 1, hnx, by omega, by omega, by go_num, trivial⟩
                        case measure => simp [intOf]; omega
                      · have hdone := hrun.out.done (fun h => by rw [hc2]; simp [W.isH, W.isD]; omega)
                        obtain ⟨tok, htok⟩ : ∃ tok, ((L.drop a).take (e - a)) = tok := ⟨_, rfl⟩
                        have hx : (⟨L.toArray⟩ : ByteArray).extract a e = ⟨tok.toArray⟩ := by rw [ba_extract, htok]
                        have hlen : tok.length ≤ 1000 := by rw [← htok]; simp; omega
                        have hei : (e : Int) ≤ (L.length : Int) := by omega
                        have htk : Hid (tok = c :: (L.drop (a + 1)).takeWhile W.isD) := by
                          show tok = _
                          rw [hdone.1, ← htok, dg_drop L a hlt, hc, show e - a = (e - (a + 1)) + 1 by omega, List.take_succ_cons]
                        rw [← htk.out, hdone.2] at hst
                        obtain ⟨p, hp⟩ : ∃ p, W.fin false tok (W.dgs 10 0 tok) = p := ⟨_, rfl⟩
                        have hdr : W.dgR 10 tok = p := by
                          rw [W.dgR, htk.out, if_neg (by simp; intro h; rw [h] at n45; exact absurd rfl n45), ← htk.out, hp]
                        rw [hdr] at hst
                        have HS2 := hTa.out.trans (congrArg (Option.map (acc ++ ·)) hst)
                        have HP : Hid (_ = p) := hp
                        obtain ⟨n, bb⟩ := p
                        clear hTa hst hdr hp htok hdone
                        cases bb
                        · have HN : Hid (T = none) := HS2
                          clear HS2
                          go_wp2_with (go_at_call 72; refine (digits_p10 tok hlen c _ htk n45b _).mono ?_; rintro e' w' ⟨rfl, rfl⟩; rw [HP.out])
                          go_ret
                          exact ⟨_, rfl, by rw [HN.out]; exact World.ownsRow_nil _ _ _ _, hbl⟩
                        · have HN : Hid (T = (W.numsL (L.drop e)).map ((acc ++ [n]) ++ ·)) := by
                            show T = _
                            rw [HS2]
                            show Option.map (acc ++ ·) (Option.map (n :: ·) (W.numsL (L.drop e))) = _
                            cases W.numsL (L.drop e) <;> simp
                          clear HS2
                          have hmx : max (e : Int) ((a : Int) + 1) = (e : Int) := by omega
                          go_wp2_with (first | (go_at_call 72; refine (digits_p10 tok hlen c _ htk n45b _).mono ?_; rintro e' w' ⟨rfl, rfl⟩; rw [HP.out]) | (at_builtin; refine wpList_append_own _ rfl _ _ 47 rfl w.heap.size 3 i0 (.int .i64 0) 1 8 Tryz.underlying47 hi hz0 hz1 hz2 rfl (by decide) _ _ _ rfl (hown.alloc _) ⟨w'.heap.size, 0, none⟩ 1 1 [iV n] rfl rfl ?c2 ?c3 ?c4 ?c5 ?c6 ?_))
                          case c2 => exact one_new w' _ _
                          case c3 => intro u hu; simp at hu; subst hu; rfl
                          case c4 => unfold maxLen; omega
                          case c5 => omega
                          case c6 => have := hbl.size; simp; omega
                          intro v' w5 hown5 hg5 _
                          have hb5 : Below w.heap.size w w5 := Below.grown (hbl.alloc hbl.size _) hg5 (by have := hbl.size; simp; omega) (fun q hq => (hown.lt q hq).1)
                          go_wp2
                          go_roundw
                          case rel => exact ⟨e, acc ++ [n], by omega, by simp; omega, by go_num, by rw [List.map_append, List.length_append]; exact hown5, hb5, HN.out⟩
                          case measure => simp [intOf]; omega
                  · have hdone := hrun.out.done (fun h => by omega)
                    obtain ⟨tok, htok⟩ : ∃ tok, ((L.drop a).take (e - a)) = tok := ⟨_, rfl⟩
                    have hx : (⟨L.toArray⟩ : ByteArray).extract a e = ⟨tok.toArray⟩ := by rw [ba_extract, htok]
                    have hlen : tok.length ≤ 1000 := by rw [← htok]; simp; omega
                    have hei : (e : Int) ≤ (L.length : Int) := by omega
                    have htk : Hid (tok = c :: (L.drop (a + 1)).takeWhile W.isD) := by
                      show tok = _
                      rw [hdone.1, ← htok, dg_drop L a hlt, hc, show e - a = (e - (a + 1)) + 1 by omega, List.take_succ_cons]
                    rw [← htk.out, hdone.2] at hst
                    obtain ⟨p, hp⟩ : ∃ p, W.fin false tok (W.dgs 10 0 tok) = p := ⟨_, rfl⟩
                    have hdr : W.dgR 10 tok = p := by
                      rw [W.dgR, htk.out, if_neg (by simp; intro h; rw [h] at n45; exact absurd rfl n45), ← htk.out, hp]
                    rw [hdr] at hst
                    have HS2 := hTa.out.trans (congrArg (Option.map (acc ++ ·)) hst)
                    have HP : Hid (_ = p) := hp
                    obtain ⟨n, bb⟩ := p
                    clear hTa hst hdr hp htok hdone
                    cases bb
                    · have HN : Hid (T = none) := HS2
                      clear HS2
                      go_wp2_with (go_at_call 72; refine (digits_p10 tok hlen c _ htk n45b _).mono ?_; rintro e' w' ⟨rfl, rfl⟩; rw [HP.out])
                      go_ret
                      exact ⟨_, rfl, by rw [HN.out]; exact World.ownsRow_nil _ _ _ _, hbl⟩
                    · have HN : Hid (T = (W.numsL (L.drop e)).map ((acc ++ [n]) ++ ·)) := by
                        show T = _
                        rw [HS2]
                        show Option.map (acc ++ ·) (Option.map (n :: ·) (W.numsL (L.drop e))) = _
                        cases W.numsL (L.drop e) <;> simp
                      clear HS2
                      have hmx : max (e : Int) ((a : Int) + 1) = (e : Int) := by omega
                      go_wp2_with (first | (go_at_call 72; refine (digits_p10 tok hlen c _ htk n45b _).mono ?_; rintro e' w' ⟨rfl, rfl⟩; rw [HP.out]) | (at_builtin; refine wpList_append_own _ rfl _ _ 47 rfl w.heap.size 3 i0 (.int .i64 0) 1 8 Tryz.underlying47 hi hz0 hz1 hz2 rfl (by decide) _ _ _ rfl (hown.alloc _) ⟨w'.heap.size, 0, none⟩ 1 1 [iV n] rfl rfl ?c2 ?c3 ?c4 ?c5 ?c6 ?_))
                      case c2 => exact one_new w' _ _
                      case c3 => intro u hu; simp at hu; subst hu; rfl
                      case c4 => unfold maxLen; omega
                      case c5 => omega
                      case c6 => have := hbl.size; simp; omega
                      intro v' w5 hown5 hg5 _
                      have hb5 : Below w.heap.size w w5 := Below.grown (hbl.alloc hbl.size _) hg5 (by have := hbl.size; simp; omega) (fun q hq => (hown.lt q hq).1)
                      go_wp2
                      go_roundw
                      case rel => exact ⟨e, acc ++ [n], by omega, by simp; omega, by go_num, by rw [List.map_append, List.length_append]; exact hown5, hb5, HN.out⟩
                      case measure => simp [intOf]; omega
            · have hcnd : ((c == 48) && ((L.drop (a + 1)).head? == some 120)) = false := by rw [List.drop_eq_nil_of_le (by omega), hc48]; rfl
              rw [hcnd, cond_false] at hst
              have n45 : ¬ c.toNat = 45 := by omega
              have n45b : ((c.toNat : Int) == 45) = false := by rw [c48]; rfl
              have e48 : ((c.toNat : Int) == 48) = true := by rw [c48]; rfl
              go_wp2
              go_loopw [8] (fun ve wx => ∃ e : Nat, Hid (W.Run W.isD L (a + 1) e) ∧ a + 1 ≤ e ∧ e ≤ L.length ∧ ve = .int .i64 e ∧ wx = wr) (fun ve _ => L.length - (intOf ve).toNat)
              case atStart => exact ⟨a + 1, W.Run.start _ L (a + 1) (by omega), by omega, by omega, by go_num, rfl⟩
              case round =>
                obtain ⟨e, hrun, he1, he2, rfl, rfl⟩ := hrel
                have hel : ¬ e < L.length := by omega
                have hdone := hrun.out.done (fun h => by omega)
                obtain ⟨tok, htok⟩ : ∃ tok, ((L.drop a).take (e - a)) = tok := ⟨_, rfl⟩
                have hx : (⟨L.toArray⟩ : ByteArray).extract a e = ⟨tok.toArray⟩ := by rw [ba_extract, htok]
                have hlen : tok.length ≤ 1000 := by rw [← htok]; simp; omega
                have hei : (e : Int) ≤ (L.length : Int) := by omega
                have htk : Hid (tok = c :: (L.drop (a + 1)).takeWhile W.isD) := by
                  show tok = _
                  rw [hdone.1, ← htok, dg_drop L a hlt, hc, show e - a = (e - (a + 1)) + 1 by omega, List.take_succ_cons]
                rw [← htk.out, hdone.2] at hst
                obtain ⟨p, hp⟩ : ∃ p, W.fin false tok (W.dgs 10 0 tok) = p := ⟨_, rfl⟩
                have hdr : W.dgR 10 tok = p := by
                  rw [W.dgR, htk.out, if_neg (by simp; intro h; rw [h] at n45; exact absurd rfl n45), ← htk.out, hp]
                rw [hdr] at hst
                have HS2 := hTa.out.trans (congrArg (Option.map (acc ++ ·)) hst)
                have HP : Hid (_ = p) := hp
                obtain ⟨n, bb⟩ := p
                clear hTa hst hdr hp htok hdone
                cases bb
                · have HN : Hid (T = none) := HS2
                  clear HS2
                  go_wp2_with (go_at_call 72; refine (digits_p10 tok hlen c _ htk n45b _).mono ?_; rintro e' w' ⟨rfl, rfl⟩; rw [HP.out])
                  go_ret
                  exact ⟨_, rfl, by rw [HN.out]; exact World.ownsRow_nil _ _ _ _, hbl⟩
                · have HN : Hid (T = (W.numsL (L.drop e)).map ((acc ++ [n]) ++ ·)) := by
                    show T = _
                    rw [HS2]
                    show Option.map (acc ++ ·) (Option.map (n :: ·) (W.numsL (L.drop e))) = _
                    cases W.numsL (L.drop e) <;> simp
                  clear HS2
                  have hmx : max (e : Int) ((a : Int) + 1) = (e : Int) := by omega
                  go_wp2_with (first | (go_at_call 72; refine (digits_p10 tok hlen c _ htk n45b _).mono ?_; rintro e' w' ⟨rfl, rfl⟩; rw [HP.out]) | (at_builtin; refine wpList_append_own _ rfl _ _ 47 rfl w.heap.size 3 i0 (.int .i64 0) 1 8 Tryz.underlying47 hi hz0 hz1 hz2 rfl (by decide) _ _ _ rfl (hown.alloc _) ⟨w'.heap.size, 0, none⟩ 1 1 [iV n] rfl rfl ?c2 ?c3 ?c4 ?c5 ?c6 ?_))
                  case c2 => exact one_new w' _ _
                  case c3 => intro u hu; simp at hu; subst hu; rfl
                  case c4 => unfold maxLen; omega
                  case c5 => omega
                  case c6 => have := hbl.size; simp; omega
                  intro v' w5 hown5 hg5 _
                  have hb5 : Below w.heap.size w w5 := Below.grown (hbl.alloc hbl.size _) hg5 (by have := hbl.size; simp; omega) (fun q hq => (hown.lt q hq).1)
                  go_wp2
                  go_roundw
                  case rel => exact ⟨e, acc ++ [n], by omega, by simp; omega, by go_num, by rw [List.map_append, List.length_append]; exact hown5, hb5, HN.out⟩
                  case measure => simp [intOf]; omega
    · have hTe := hTa.out
      rw [List.drop_eq_nil_of_le (by omega), W.numsL_nil] at hTe
      have HTe : Hid (T = some acc) := by show T = _; rw [hTe]; simp
      clear hTa hTe
      go_wp2
      go_ret
      exact ⟨_, rfl, by rw [HTe.out]; exact hown, hbl⟩
end Go.Proofs.YtmihcicepgjogaaGreatDoor
