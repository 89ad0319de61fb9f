/- Texts in one: AsmZg, AsmZ4, AsmL, AsmLa. -/
import Derived.OwnWalk
import Derived.WalkSpells
import Derived.Test.YtmihcicepgjogaaGreatDoorJ27
/- read of what Print writes. -/
namespace Go.Proofs.YtmihcicepgjogaaGreatDoor
open Go.ChangeShapes Go.WideShapes Go.ChangeAt Go.RowKit
set_option linter.unusedVariables false
set_option linter.unusedSimpArgs false

set_option maxRecDepth 1000000 in
set_option maxHeartbeats 3200000 in
theorem read_seq (A : Nat → Addr) (i : W.I) (Rs : Nat → List UInt8) (js : Nat → W.I) (txt hdn hda nml rest F : List UInt8) (fnd : Bool) (w : World) (hS : Sg A w) (hlen : txt.length ≤ 1000) (hlen2 : hdn.length ≤ 1000) (hlen3 : hda.length ≤ 1000)
    (HC : Hid (Lib.cut txt [32] = (hdn, rest, fnd))) (H1 : Hid (Lib.trimSuffix hdn [46, 114, 108] = hda)) (H2 : Hid (Lib.hasSuffix hdn [46, 114, 108] = i.rl)) (H3 : Hid (Lib.trimSuffix hda [46, 97, 113] = nml)) (H4 : Hid (Lib.hasSuffix hda [46, 97, 113] = i.aq)) (H5 : Hid (max 0 (W.fidx nml 0 70) = i.op)) (H6 : Hid (W.form i.op = F)) (HO : Hid (W.okForm F = true)) (HE : Rs 0 = rest) (HJ : js 0 = ⟨i.op, 0, 0, 0, 0, 0, i.aq, i.rl⟩) (HL : js F.length = i)
    (HB : Hid (∀ pos (h : pos < F.length), W.btw F[pos].toNat = true → Lib.trimPrefix (Rs pos) [F[pos]] = Rs (pos + 1) ∧ js (pos + 1) = js pos))
    (HN : Hid (∀ pos (h : pos < F.length), W.btw F[pos].toNat = false → ∃ P n, P ++ Rs (pos + 1) = Rs pos ∧ W.pend (Rs pos) = (P.length : Int) ∧ js (pos + 1) = W.putI (js pos) F[pos].toNat n ∧ ∀ w : World, Calls Tryz.prog 69 #[.string ⟨P.toArray⟩] w fun e w' => e = .returned (.int .i64 n) ∧ Below w.heap.size w w')) :
    Calls Tryz.prog 35 #[.string ⟨txt.toArray⟩] w fun e w' => e = .returned (inV i) ∧ Below w.heap.size w w' := by
  have HS : Hid (Sg A w) := hS
  obtain ⟨mx, hmx⟩ := hS.maxl
  have HM : Hid (∀ o p, ((w.alloc o).alloc p).cell? ⟨5, 0, none⟩ = some (.int .i64 mx)) := (fun o p => ((((Below.refl w.heap.size w).alloc (Nat.le_refl _) o).alloc (by simp) p).cell (World.block_lt_of_cell? _ _ hmx)).trans hmx : ∀ o p, _)
  clear hS hmx
  go_enter Tryz.func35, Tryz.ntmps35
  go_wp2_with (first
    | (go_at_call 63; refine (Tryz.strings_Cut _ _ mx _ (by show txt.toArray.size < _; simp; omega) (HM.out _ _)).mono ?_; rintro e w' ⟨rfl, nd, rfl⟩; rw [show Lib.cut _ _ = (hdn, rest, fnd) from HC.out])
    | (go_at_call_of 64 (Value.string ⟨hdn.toArray⟩); refine (Tryz.strings_CutSuffix _ _ _ (by show hdn.toArray.size ≤ _; simp; omega)).mono ?_; rintro e w' ⟨rfl, rfl⟩; rw [show Lib.trimSuffix _ _ = hda from H1.out, show Lib.hasSuffix _ _ = i.rl from H2.out])
    | (go_at_call_of 64 (Value.string ⟨hda.toArray⟩); refine (Tryz.strings_CutSuffix _ _ _ (by show hda.toArray.size ≤ _; simp; omega)).mono ?_; rintro e w' ⟨rfl, rfl⟩; rw [show Lib.trimSuffix _ _ = nml from H3.out, show Lib.hasSuffix _ _ = i.aq from H4.out])
    | (go_at_call 65; refine (op_any _ _).mono ?_; rintro e w3 ⟨rfl, hm⟩; have T3 : Hid (Rx A _ w w3) := (Rx.start HS.out _ nd i.aq i.rl).call hm; clear hm; rw [H5.out]; obtain ⟨z0, z1, z2, z3, z4, z5, z6, z7⟩ := T3.out.inst; have fz3 := T3.out.froz; have lt3 := T3.out.lt)
    | (go_at_call 55; refine (form_any _ _).mono ?_; rintro e wn ⟨rfl, hm⟩; have T4 : Hid (Rx A _ w wn) := (T3.out.setop i.op).call hm; clear hm; rw [H6.out]))
  have hlT := T4.out.lt
  clear z0 z1 z2 z3 z4 z5 z6 z7 fz3
  go_loopg [5] F.length (fun gf vr wx => ∃ (pos : Nat), vr = .string ⟨(Rs pos).toArray⟩ ∧ wx.heap[wn.heap.size]? = some (.stringIter ⟨F.toArray⟩ pos) ∧ Rx A (js pos) w wx ∧ F.length ≤ pos + gf ∧ pos ≤ F.length)
  case atStart => exact ⟨0, by rw [HE], World.iter_heap wn _ 0, (HJ ▸ T4.out).call ((Below.refl _ _).alloc (Nat.le_refl _) _), by omega, by omega⟩
  case round =>
    obtain ⟨pos, rfl, hit, hT, hfu, hpl'⟩ := hrel
    clear T4 HE HJ
    by_cases hp : pos < F.length
    · obtain ⟨g', rfl⟩ : ∃ g', gk = g' + 1 := ⟨gk - 1, by omega⟩
      have hcok : W.okC F[pos] = true := by
        have := HO.out
        simp [W.okForm] at this
        exact this.1 _ (List.getElem_mem hp)
      have hasc := okC_lo _ hcok
      have hnx : ∀ ty, (Instr.next (.pointer (some ⟨wn.heap.size, 0, none⟩)) true ty).run Tryz.prog wr = _ := fun ty => Lib.run_next_ascii_at wr wn.heap.size ⟨F.toArray⟩ pos ty hit hp hasc
      have hit2 := Lib.iterAt_heap wr wn.heap.size ⟨F.toArray⟩ pos (pos + 1) hit
      have hT2 := hT.iter hit (by omega) (pos + 1)
      have hB := HB.out pos hp
      have hN := HN.out pos hp
      have hcp := okC_part F[pos] hcok
      obtain ⟨c, hc⟩ : ∃ c, F[pos] = c := ⟨_, rfl⟩
      have hc' : ((⟨F.toArray⟩ : ByteArray)[pos]'hp) = c := hc
      rw [hc] at hcok hasc hcp hB hN
      rw [hc'] at hnx
      obtain ⟨R, hR⟩ : ∃ R, Rs pos = R := ⟨_, rfl⟩
      obtain ⟨R', hR'⟩ : ∃ R', Rs (pos + 1) = R' := ⟨_, rfl⟩
      obtain ⟨j, hj⟩ : ∃ j, js pos = j := ⟨_, rfl⟩
      obtain ⟨j', hj'⟩ : ∃ j', js (pos + 1) = j' := ⟨_, rfl⟩
      rw [hR, hR', hj, hj'] at hN
      rw [hR, hR', hj, hj'] at hB
      rw [hR]
      obtain ⟨W1, hW⟩ : ∃ W1, wr.iterAt wn.heap.size ⟨F.toArray⟩ (pos + 1) = W1 := ⟨_, rfl⟩
      rw [hW] at hnx hit2 hT2
      have HT2 : Hid (Rx A j w W1) := hj ▸ hT2
      have HI2 : Hid (W1.heap[wn.heap.size]? = some (.stringIter ⟨F.toArray⟩ (pos + 1))) := hit2
      have hen := enc_lo c hasc
      clear hT2 hit2 hT hit
      cases hb : W.btw c.toNat
      · have hcc := hcp hb
        obtain ⟨P, n, hPR, hPe, hjn, hNm⟩ := hN hb
        have HPe : Hid (W.pend R = (P.length : Int)) := hPe
        have HNm : Hid (∀ w : World, Calls Tryz.prog 69 #[.string ⟨P.toArray⟩] w fun e w' => e = .returned (.int .i64 n) ∧ Below w.heap.size w w') := hNm
        have HA : Hid (j' = W.putI j c.toNat n) := hjn
        clear hB hN hPe hNm hjn
        have hle : (P.length : Int) ≤ (R.length : Int) := by rw [← hPR]; simp; omega
        have hp0 : (0 : Int) ≤ (P.length : Int) := by omega
        have hx1 : (⟨R.toArray⟩ : ByteArray).extract 0 P.length = ⟨P.toArray⟩ := by
          rw [ba_extract, ← hPR]
          simp
        have hx2 : (⟨R.toArray⟩ : ByteArray).extract P.length R.length = ⟨R'.toArray⟩ := by
          rw [ba_extract, ← hPR]
          simp
        go_wp2_with (first
          | (go_at_call 57; refine (between_any c.toNat _).mono ?_; rintro e wa ⟨rfl, hm⟩; rw [hb]; have T3 : Hid (Rx A j w wa) := HT2.out.call hm; have I3 : Hid (wa.heap[wn.heap.size]? = some (.stringIter ⟨F.toArray⟩ (pos + 1))) := (hm.block _ (Array.getElem?_eq_some_iff.1 HI2.out).1).trans HI2.out; clear hm)
          | (go_at_call 67; refine (partEnd_any _ _).mono ?_; rintro e wb ⟨rfl, hm⟩; rw [HPe.out]; have T4 : Hid (Rx A j w wb) := T3.out.call hm; have I4 : Hid (wb.heap[wn.heap.size]? = some (.stringIter ⟨F.toArray⟩ (pos + 1))) := (hm.block _ (Array.getElem?_eq_some_iff.1 I3.out).1).trans I3.out; clear hm)
          | (go_at_call 69; refine (HNm.out _).mono ?_; rintro e wc ⟨rfl, hm⟩; have T5 : Hid (Rx A j w wc) := T4.out.call hm; have I5 : Hid (wc.heap[wn.heap.size]? = some (.stringIter ⟨F.toArray⟩ (pos + 1))) := (hm.block _ (Array.getElem?_eq_some_iff.1 I4.out).1).trans I4.out; clear hm)
          | (go_at_call 68; refine (put_any (w.heap.size + 1) j c.toNat hcc n _ T5.out.inst T5.out.froz).mono ?_; rintro e wd ⟨rfl, hi6, hf6, hm, ho6⟩; have T6 : Hid (Rx A (W.putI j c.toNat n) w wd) := T5.out.put hi6 hf6 hm; have I6 : Hid (wd.heap[wn.heap.size]? = some (.stringIter ⟨F.toArray⟩ (pos + 1))) := (ho6 _ (by omega)).trans I5.out; clear hi6 hf6 hm ho6))
        go_roundg g'
        case measure => omega
        case rel => exact ⟨pos + 1, by rw [hR'], I6.out, by rw [hj', HA.out]; exact T6.out, by omega, by omega⟩
      · obtain ⟨hTr, hjj⟩ := hB hb
        have HTr : Hid (Lib.trimPrefix R [c] = R') := hTr
        clear hB hN hTr
        go_wp2_with (first
          | (go_at_call 57; refine (between_any c.toNat _).mono ?_; rintro e wa ⟨rfl, hm⟩; rw [hb]; have T3 : Hid (Rx A j w wa) := HT2.out.call hm; have I3 : Hid (wa.heap[wn.heap.size]? = some (.stringIter ⟨F.toArray⟩ (pos + 1))) := (hm.block _ (Array.getElem?_eq_some_iff.1 HI2.out).1).trans HI2.out; clear hm; have lt3' := T3.out.lt)
          | (go_at_call 66; refine (Tryz.strings_TrimPrefix _ _ _).mono ?_; rintro e w' ⟨rfl, rfl⟩; rw [show Lib.trimPrefix _ _ = R' from HTr.out]))
        go_roundg g'
        case measure => omega
        case rel => exact ⟨pos + 1, by rw [hR'], I3.out, by rw [hj', hjj]; exact T3.out, by omega, by omega⟩
    · have hnx : ∀ ty, (Instr.next (.pointer (some ⟨wn.heap.size, 0, none⟩)) true ty).run Tryz.prog wr = _ := fun ty => Lib.run_next_end_at wr wn.heap.size ⟨F.toArray⟩ pos ty hit hp
      have hpe : pos = F.length := by omega
      have hT : Rx A i w wr := by rw [← HL, ← hpe]; exact hT
      have HTe : Hid (Rx A i w wr) := hT
      have hltw := hT.lt
      obtain ⟨z0, z1, z2, z3, z4, z5, z6, z7⟩ := hT.inst
      obtain ⟨v0, v1, v2, v3, v4, v5, v6, v7, r0, r1, r2, r3, r4, r5, r6, r7, r8⟩ := hT.room.eight
      clear hT
      go_wp2
      refine bodyPost_ret (v := inV i) ?_ rfl ⟨rfl, ?_⟩
      · simp [results, Tryz.results35, go_sem, inV, r0, r1, r2, r3, r4, r5, r6, r7]
      · exact (((((((((HTe.out.bel.setCell (Nat.le_refl _) _).setCell (Nat.le_refl _) _).setCell (Nat.le_refl _) _).setCell (Nat.le_refl _) _).setCell (Nat.le_refl _) _).setCell (Nat.le_refl _) _).setCell (Nat.le_refl _) _).setCell (Nat.le_refl _) _))
end Go.Proofs.YtmihcicepgjogaaGreatDoor

/- Parse of texts that are none. -/
namespace Go.Proofs.YtmihcicepgjogaaGreatDoor
open Go.ChangeShapes Go.WideShapes Go.ChangeAt Go.RowKit
set_option linter.unusedVariables false
set_option linter.unusedSimpArgs false

set_option maxRecDepth 1000000 in
set_option maxHeartbeats 3200000 in
/-- Parse of a text that is read as something that is written otherwise. -/
theorem parse_diff (A : Nat → Addr) (i : W.I) (T L : List UInt8) (hne : (L == T) = false) (he : W.encE i = 0) (hL : W.textL i = L) (HRd : Hid (∀ w : World, Sg A w → Calls Tryz.prog 35 #[.string ⟨T.toArray⟩] w fun e w' => e = .returned (inV i) ∧ Below w.heap.size w w')) (w : World) (hS : Sg A w) : Calls Tryz.prog 12 #[.string ⟨T.toArray⟩] w fun e w' => e = .returned (.tuple #[inV ⟨0, 0, 0, 0, 0, 0, false, false⟩, errV A 6]) ∧ Below w.heap.size w w' := by
  have HPr : Hid (∀ w : World, Sg A w → Calls Tryz.prog 9 #[inV i] w fun e w' => e = .returned (.tuple #[.string ⟨L.toArray⟩, .nilIface]) ∧ Below w.heap.size w w') := fun w h => hL ▸ print_ok A i _ w h he rfl
  have HS : Hid (Sg A w) := hS
  clear hS he hL
  go_enter Tryz.func12, Tryz.ntmps12
  go_wp2_with (first
    | (go_at_call 35; refine (HRd.out _ (HS.out.below ((Below.refl _ _).alloc (Nat.le_refl _) _))).mono ?_; rintro e w1 ⟨rfl, hm⟩; have R1 : Hid (Room w.heap.size 8 w1) := ⟨_, _, (hm.block _ (by simp)).trans (heap_alloc_last w _), rfl⟩; have B1 : Hid (Below w.heap.size w w1) := ((Below.refl _ _).alloc (Nat.le_refl _) _).trans (hm.mono (by simp)); have lt1 : w.heap.size < w1.heap.size := (by have := hm.size; simp at this; omega); clear hm; unfold inV)
    | (go_at_call 9; refine (HPr.out _ (HS.out.below (B1.out.alloc B1.out.size _))).mono ?_; rintro e w2 ⟨rfl, hm⟩; have B2 : Hid (Below w.heap.size w w2) := (B1.out.alloc B1.out.size _).trans (hm.mono (by simp; omega)); have lt2 : w1.heap.size < w2.heap.size := (by have := hm.size; simp at this; omega); obtain ⟨v0, v1, v2, v3, v4, v5, v6, v7, r0, r1, r2, r3, r4, r5, r6, r7, r8⟩ := ((R1.out.below ((Below.refl _ _).alloc (Nat.le_refl _) _) lt1).below hm (by simp; omega)).eight; clear hm; have c5 : w2.cell? ⟨0, 0, none⟩ = some _ := (HS.out.below B2.out).sent.cell 5 (by omega); have g5 := World.block_lt_of_cell? _ _ (HS.out.sent.cell 5 (by omega))))
  go_region
  all_goals
    go_wp2
    refine bodyPost_ret (v := .tuple #[inV ⟨0, 0, 0, 0, 0, 0, false, false⟩, errV A 6]) ?_ rfl ⟨rfl, ?_⟩
    · simp [results, Tryz.results12, go_sem, inV, errV, r0, r1, r2, r3, r4, r5, r6, r7]
    · exact (((((((((B2.out.setCell (Nat.le_refl _) _).setCell (Nat.le_refl _) _).setCell (Nat.le_refl _) _).setCell (Nat.le_refl _) _).setCell (Nat.le_refl _) _).setCell (Nat.le_refl _) _).setCell (Nat.le_refl _) _).setCell (Nat.le_refl _) _)).drew

def exI : W.I := ⟨19, 1, 0, 0, 0, 5, false, false⟩
def exT : List UInt8 := [97, 100, 100, 105, 32, 120, 49, 44, 120, 48, 44, 53]
def exR (k : Nat) : List UInt8 := [[120, 49, 44, 120, 48, 44, 53], [44, 120, 48, 44, 53], [120, 48, 44, 53], [120, 48, 44, 53], [44, 53], [53], [53], []].getD k []
def exJ (k : Nat) : W.I := [⟨19, 0, 0, 0, 0, 0, false, false⟩, ⟨19, 1, 0, 0, 0, 0, false, false⟩, ⟨19, 1, 0, 0, 0, 0, false, false⟩, ⟨19, 1, 0, 0, 0, 0, false, false⟩, ⟨19, 1, 0, 0, 0, 0, false, false⟩, ⟨19, 1, 0, 0, 0, 0, false, false⟩, ⟨19, 1, 0, 0, 0, 0, false, false⟩, exI].getD k exI
theorem plain_of (l : List UInt8) (h : (l.all fun c => decide (c.toNat < 128) && !W.btw c.toNat) = true) : plainL l := fun c hc => by
  have := List.all_eq_true.1 h c hc
  simpa using this
theorem ex_read (A : Nat → Addr) (w : World) (hS : Sg A w) : Calls Tryz.prog 35 #[.string ⟨exT.toArray⟩] w fun e w' => e = .returned (inV exI) ∧ Below w.heap.size w w' := by
  have d1 : W.regL 1 = [120, 49] := by rw [W.regL, Lib.decDigits_one (by omega)]; rfl
  have d0 : W.regL 0 = [120, 48] := by rw [W.regL, Lib.decDigits_one (by omega)]; rfl
  have d5 : Lib.itoa 5 = [53] := by rw [Lib.itoa, if_neg (by omega)]; rw [Lib.decDigits_one (by decide)]; rfl
  refine read_seq A exI exR exJ exT [97, 100, 100, 105] [97, 100, 100, 105] [97, 100, 100, 105] _ [100, 44, 32, 49, 44, 32, 105] true w hS (by decide) (by decide) (by decide) (cut_at [97, 100, 100, 105] _ (by decide)) (by show Lib.trimSuffix _ _ = _; decide) (by show Lib.hasSuffix _ _ = false; decide) (by show Lib.trimSuffix _ _ = _; decide) (by show Lib.hasSuffix _ _ = false; decide) (by show max 0 (W.fidx _ 0 70) = 19; decide +kernel) (by show W.form 19 = _; decide +kernel) (by show W.okForm _ = true; decide) rfl rfl rfl ?_ ?_
  · intro pos h hb
    match pos, h with
    | 0, _ => exact absurd (show W.btw (100 : UInt8).toNat = true from hb) (by decide)
    | 1, _ => exact ⟨(show Lib.trimPrefix (exR 1) [44] = exR 2 from by decide), rfl⟩
    | 2, _ => exact ⟨(show Lib.trimPrefix (exR 2) [32] = exR 3 from by decide), rfl⟩
    | 3, _ => exact absurd (show W.btw (49 : UInt8).toNat = true from hb) (by decide)
    | 4, _ => exact ⟨(show Lib.trimPrefix (exR 4) [44] = exR 5 from by decide), rfl⟩
    | 5, _ => exact ⟨(show Lib.trimPrefix (exR 5) [32] = exR 6 from by decide), rfl⟩
    | 6, _ => exact absurd (show W.btw (105 : UInt8).toNat = true from hb) (by decide)
  · intro pos h hb
    match pos, h with
    | 0, _ => exact ⟨[120, 49], 1, rfl, pend_at [120, 49] 44 _ (plain_of _ (by decide)) (by decide) (by decide), (show exJ 1 = W.putI (exJ 0) (100 : UInt8).toNat 1 from rfl), fun w => d1 ▸ number_reg 1 (by omega) w⟩
    | 1, _ => exact absurd (show W.btw (44 : UInt8).toNat = false from hb) (by decide)
    | 2, _ => exact absurd (show W.btw (32 : UInt8).toNat = false from hb) (by decide)
    | 3, _ => exact ⟨[120, 48], 0, rfl, pend_at [120, 48] 44 _ (plain_of _ (by decide)) (by decide) (by decide), (show exJ 4 = W.putI (exJ 3) (49 : UInt8).toNat 0 from rfl), fun w => d0 ▸ number_reg 0 (by omega) w⟩
    | 4, _ => exact absurd (show W.btw (44 : UInt8).toNat = false from hb) (by decide)
    | 5, _ => exact absurd (show W.btw (32 : UInt8).toNat = false from hb) (by decide)
    | 6, _ => exact ⟨[53], 5, rfl, pend_end [53] (plain_of _ (by decide)), (show exJ 7 = W.putI (exJ 6) (105 : UInt8).toNat 5 from rfl), fun w => d5 ▸ number_dec 5 (by omega) (by omega) w⟩
theorem ex_text : W.textL exI = [97, 100, 100, 105, 32, 120, 49, 44, 32, 120, 48, 44, 32, 53] := by
  have d1 : W.regL 1 = [120, 49] := by rw [W.regL, Lib.decDigits_one (by omega)]; rfl
  have d0 : W.regL 0 = [120, 48] := by rw [W.regL, Lib.decDigits_one (by omega)]; rfl
  have d5 : Lib.itoa 5 = [53] := by rw [Lib.itoa, if_neg (by omega)]; rw [Lib.decDigits_one (by decide)]; rfl
  have hf : W.form exI.op = [100, 44, 32, 49, 44, 32, 105] := by decide +kernel
  have hn : W.nm exI.op = [97, 100, 100, 105] := by decide +kernel
  have e : W.restL exI [100, 44, 32, 49, 44, 32, 105] = W.partL exI 100 ++ ([44] ++ ([32] ++ (W.partL exI 49 ++ ([44] ++ ([32] ++ (W.partL exI 105 ++ [])))))) := rfl
  have hw : wrap32 exI.imm = 5 := by show wrap32 5 = 5; simp only [wrap32]; omega
  rw [W.textL, hf, hn, e, W.partL_100, W.partL_49, W.partL_105, hw, d5, show exI.rd.toNat = 1 from rfl, show exI.rs1.toNat = 0 from rfl, d1, d0]
  rfl
/-- The chapter's text that is none. -/
theorem parse_ex (A : Nat → Addr) (w : World) (hS : Sg A w) : Calls Tryz.prog 12 #[.string ⟨exT.toArray⟩] w fun e w' => e = .returned (.tuple #[inV ⟨0, 0, 0, 0, 0, 0, false, false⟩, errV A 6]) ∧ Below w.heap.size w w' :=
  parse_diff A exI exT _ (by decide) (by decide +kernel) ex_text (fun w h => ex_read A w h) w hS
end Go.Proofs.YtmihcicepgjogaaGreatDoor

/- A word as a line; lines held against each other. -/
namespace Go.Proofs.YtmihcicepgjogaaGreatDoor
open Go.ChangeShapes Go.WideShapes Go.ChangeAt Go.RowKit
set_option linter.unusedVariables false
set_option linter.unusedSimpArgs false

theorem line_any (A : Nat → Addr) (x : Int) (x0 : 0 ≤ x) (x1 : x < 4294967296) (w : World) (hS : Sg A w) : Calls Tryz.prog 40 #[.int .u32 x] w fun e w' => e = .returned (.string ⟨(W.lineL x).toArray⟩) ∧ Below w.heap.size w w' := by
  unfold W.lineL
  cases hb : W.decB x
  · obtain ⟨n, rfl⟩ := Int.eq_ofNat_of_zero_le x0
    exact line_no A n (by omega) _ w hS rfl hb
  · exact line_is A x _ w hS (W.inR_of (W.encE_zero (W.enc_dec x0 x1 hb).1).2.2.1) rfl hb
/-- Parse of a line: the instruction, where the word is one. -/
theorem parse_line (A : Nat → Addr) (x : Int) (x0 : 0 ≤ x) (x1 : x < 4294967296) (hb : W.decB x = true) (w : World) (hS : Sg A w) : Calls Tryz.prog 12 #[.string ⟨(W.lineL x).toArray⟩] w fun e w' => e = .returned (.tuple #[inV (W.decI x), .nilIface]) ∧ Below w.heap.size w w' := by
  have he := (W.enc_dec x0 x1 hb).1
  have hm : 0 ≤ (W.decI x).imm ∧ (W.decI x).imm < 4294967296 := by
    show 0 ≤ (bif W.hasImm (W.shp (W.dec x)) then W.immS (W.shp (W.dec x)) x else 0) ∧ (bif W.hasImm (W.shp (W.dec x)) then W.immS (W.shp (W.dec x)) x else 0) < 4294967296
    cases W.hasImm (W.shp (W.dec x))
    · rw [cond_false]; decide
    · unfold W.immS
      cases decide (0 < (W.shp (W.dec x)).size)
      · exact W.imm_lt _ _
      · exact W.bitsOf_lt _ _ _
  have := parse_ok A (W.decI x) hm.1 hm.2 he w hS
  rw [W.lineL, hb]
  exact this
/-- Parse of a line: ErrWord, where the word is none. -/
theorem parse_line_no (A : Nat → Addr) (x : Int) (x0 : 0 ≤ x) (hb : W.decB x = false) (w : World) (hS : Sg A w) : Calls Tryz.prog 12 #[.string ⟨(W.lineL x).toArray⟩] w fun e w' => e = .returned (.tuple #[inV ⟨0, 0, 0, 0, 0, 0, false, false⟩, errV A 6]) ∧ Below w.heap.size w w' := by
  rw [W.lineL, hb]
  exact parse_word A x.toNat w hS
end Go.Proofs.YtmihcicepgjogaaGreatDoor

/- Lines: how words are told. -/
namespace Go.Proofs.YtmihcicepgjogaaGreatDoor
open Go.ChangeShapes Go.WideShapes Go.ChangeAt Go.RowKit
set_option linter.unusedVariables false
set_option linter.unusedSimpArgs false

theorem gbelow5 {a b : World} {r : Option Nat} (h : Below a.heap.size a b) : a.grownBy b r := ⟨h.os, h.tape, h.output, h.size, fun k hk _ => h.block k hk⟩
theorem infoStr : (Tryz.prog.info? 9).map (fun i => (i.zero, i.size, i.bytes)) = some (some (.string ⟨#[]⟩), 1, 16) := by kernel_rfl
theorem infoU32 : (Tryz.prog.info? 22).map (fun i => (i.zero, i.size, i.bytes)) = some (some (.int .u32 0), 1, 4) := by kernel_rfl
theorem addr0 (g n : Nat) : (⟨g, 0, none⟩ : Addr).add n = ⟨g, n, none⟩ := by
  unfold Addr.add
  split <;> simp
theorem one_new (w : World) (t : TypeId) (a : Value) : ∀ j u, [a][j]? = some u → (w.alloc (.cells #[a] t)).cell? ((⟨w.heap.size, 0, none⟩ : Addr).add j) = some u := by
  intro j u h
  match j, h with
  | 0, h => simp at h; subst h; simp [go_sem, Addr.add]
/-- The first k of a row of values. -/
def rowOf (f : Nat → Value) (k : Nat) : List Value := (List.range k).map f
theorem rowOf_succ (f : Nat → Value) (k : Nat) : rowOf f (k + 1) = rowOf f k ++ [f k] := by simp [rowOf, List.range_succ]
theorem rowOf_get (f : Nat → Value) (k j : Nat) (h : j < k) : (rowOf f k)[j]? = some (f j) := by simp [rowOf, h]
def lineV (X : Nat → Int) (j : Nat) : Value := .string ⟨(W.lineL (X j)).toArray⟩

set_option maxHeartbeats 1600000 in
theorem lines_any (A : Nat → Addr) (b off n cap : Nat) (X : Nat → Int) (w : World) (hS : Sg A w) (hn : n ≤ 1000) (hbB : b < w.heap.size) (hX : ∀ j, j < n → 0 ≤ X j ∧ X j < 4294967296)
    (hc : ∀ j, j < n → w.cell? ⟨b, off + j, none⟩ = some (.int .u32 (X j))) :
    Calls Tryz.prog 16 #[.slice (some ⟨b, off, none⟩) n cap] w fun e w' => e = .returned (.slice (some ⟨w.heap.size, 0, none⟩) n n) ∧ Below w.heap.size w w' ∧ (∀ j, j < n → w'.cell? ⟨w.heap.size, j, none⟩ = some (lineV X j)) ∧ w.heap.size < w'.heap.size := by
  obtain ⟨i0, hi, hz0, hz1, hz2⟩ := info_parts infoStr
  have HS : Hid (Sg A w) := hS
  clear hS
  go_enter Tryz.func16, Tryz.ntmps16
  go_wp2_with (at_make; refine wpList_make_own _ rfl _ _ 41 rfl w.heap.size 9 i0 (.string ⟨#[]⟩) 1 Tryz.underlying41 hi hz0 hz1 .i64 .i64 _ n rfl rfl rfl (by rw [hz2]; omega) (by unfold maxLen; omega) (Nat.le_refl _) ?_; intro w0 hown0 hg0)
  have hb0 : Below w.heap.size w w0 := (Below.refl _ _).grown hg0 (Nat.le_refl _) (fun k hk => by cases hk)
  go_loopw [3, 11] (fun v i wr => ∃ k : Nat, k ≤ n ∧ i = .int .i64 k ∧ v = .slice (some ⟨w.heap.size, 0, none⟩) k n ∧ wr.ownsRow w.heap.size 9 1 (.slice (some ⟨w.heap.size, 0, none⟩) k n) k (rowOf (lineV X) k) ∧ Below w.heap.size w wr) (fun _ i _ => n - (intOf i).toNat)
  case atStart => exact ⟨0, by omega, rfl, rfl, hown0, hb0⟩
  case round =>
    obtain ⟨k, hk, rfl, rfl, hown, hbl⟩ := hrel
    clear hown0 hg0 hb0
    by_cases hlt : k < n
    · have g0 : wr.cell? ⟨b, off + k, none⟩ = some (.int .u32 (X k)) := (hbl.cell (by exact hbB)).trans (hc k hlt)
      obtain ⟨v0, v1⟩ := hX k hlt
      have Hw : Hid (wr.ownsRow w.heap.size 9 1 (.slice (some ⟨w.heap.size, 0, none⟩) k n) k (rowOf (lineV X) k)) := hown
      clear hc hX hown
      go_wp2_with (first
        | (go_at_call 40; refine (line_any A (X k) v0 v1 _ (HS.out.below hbl)).mono ?_; rintro e w2 ⟨rfl, hb2⟩)
        | (at_builtin; refine wpList_append_fits _ rfl _ _ 41 rfl w.heap.size 9 i0 1 Tryz.underlying41 hi hz1 w.heap.size k n (rowOf (lineV X) k) rfl ?c1 ⟨w2.heap.size, 0, none⟩ 1 1 [.string ⟨(W.lineL (X k)).toArray⟩] rfl rfl ?c2 ?c3 ?c4 ?_))
      case c1 => exact (Hw.out.kept (gbelow5 (r := none) hb2) (Or.inr (by simp [Value.ownBlock]))).alloc _
      case c2 => exact one_new w2 _ _
      case c3 => intro u hu; simp at hu; subst hu; rfl
      case c4 => omega
      intro w3 hown3 hg3
      have hb3 : Below w.heap.size w w3 := Below.grown ((hbl.trans (hb2.mono hbl.size)).alloc (by have := hb2.size; have := hbl.size; omega) _) hg3 (by have := hb2.size; have := hbl.size; simp; omega) (fun q hq => by cases hq; omega)
      have X3 : Hid (w3.ownsRow w.heap.size 9 1 (.slice (some ⟨w.heap.size, 0, none⟩) (k + 1) n) (k + 1) (rowOf (lineV X) (k + 1)) ∧ Below w.heap.size w w3) := by
        refine ⟨?_, hb3⟩
        rw [rowOf_succ]
        exact hown3
      clear hown3 hg3 hb3 hb2 Hw
      go_wp2
      go_roundw
      case rel => exact ⟨k + 1, by omega, by go_num, rfl, X3.out.1, X3.out.2⟩
      case measure => simp [intOf]; omega
    · obtain rfl : k = n := by omega
      go_wp2
      go_ret
      refine ⟨rfl, hbl, fun j hj => ?_, (hown.lt w.heap.size rfl).2⟩
      rw [hown.cellAt j (by omega)]
      exact rowOf_get _ _ _ hj
end Go.Proofs.YtmihcicepgjogaaGreatDoor
