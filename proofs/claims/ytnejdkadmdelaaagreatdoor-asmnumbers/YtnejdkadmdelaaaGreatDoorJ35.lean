/- Texts in one: AsmZ, AsmZ2, AsmZ3, AsmZg. -/
import Derived.Test.YtnejdkadmdelaaaGreatDoorJ34
/- read of what Print writes. -/
namespace Go.Proofs.YtnejdkadmdelaaaGreatDoor
open Go.ChangeShapes Go.WideShapes Go.ChangeAt Go.RowKit
set_option linter.unusedVariables false
set_option linter.unusedSimpArgs false

set_option maxRecDepth 1000000 in
set_option maxHeartbeats 3200000 in
theorem read_text (A : Nat → Addr) (i : W.I) (txt hdn hda nml rest F : List UInt8) (fnd : Bool) (w : World) (hS : Sg A w) (hlen : txt.length ≤ 1000) (hlen2 : hdn.length ≤ 1000) (hlen3 : hda.length ≤ 1000)
    (HC : Hid (Lib.cut txt [32] = (hdn, rest, fnd))) (H1 : Hid (Lib.trimSuffix hdn [46, 114, 108] = hda)) (H2 : Hid (Lib.hasSuffix hdn [46, 114, 108] = i.rl)) (H3 : Hid (Lib.trimSuffix hda [46, 97, 113] = nml)) (H4 : Hid (Lib.hasSuffix hda [46, 97, 113] = i.aq)) (H5 : Hid (max 0 (W.fidx nml 0 70) = i.op)) (H6 : Hid (W.form i.op = F)) (HR : Hid (W.InR i)) (HO : Hid (W.okForm F = true)) (HQ : Hid (∀ pos (h : pos < F.length), W.btw F[pos].toNat = false → F.drop (pos + 1) = [] ∨ ∃ c t, F.drop (pos + 1) = c :: t ∧ W.btw c.toNat = true)) (HP : W.putAll i ⟨i.op, 0, 0, 0, 0, 0, i.aq, i.rl⟩ F = i) (HE : 0 < F.length → W.restL i F = rest) :
    Calls Tryz.prog 35 #[.string ⟨txt.toArray⟩] w fun e w' => e = .returned (inV i) ∧ Below w.heap.size w w' := by
  have HS : Hid (Sg A w) := hS
  obtain ⟨mx, hmx⟩ := hS.maxl
  have HM : Hid (∀ o p, ((w.alloc o).alloc p).cell? ⟨5, 0, none⟩ = some (.int .i64 mx)) := (fun o p => ((((Below.refl w.heap.size w).alloc (Nat.le_refl _) o).alloc (by simp) p).cell (World.block_lt_of_cell? _ _ hmx)).trans hmx : ∀ o p, _)
  clear hS hmx
  go_enter Tryz.func35, Tryz.ntmps35
  go_wp2_with (first
    | (go_at_call 63; refine (Tryz.strings_Cut _ _ mx _ (by show txt.toArray.size < _; simp; omega) (HM.out _ _)).mono ?_; rintro e w' ⟨rfl, nd, rfl⟩; rw [show Lib.cut _ _ = (hdn, rest, fnd) from HC.out])
    | (go_at_call_of 64 (Value.string ⟨hdn.toArray⟩); refine (Tryz.strings_CutSuffix _ _ _ (by show hdn.toArray.size ≤ _; simp; omega)).mono ?_; rintro e w' ⟨rfl, rfl⟩; rw [show Lib.trimSuffix _ _ = hda from H1.out, show Lib.hasSuffix _ _ = i.rl from H2.out])
    | (go_at_call_of 64 (Value.string ⟨hda.toArray⟩); refine (Tryz.strings_CutSuffix _ _ _ (by show hda.toArray.size ≤ _; simp; omega)).mono ?_; rintro e w' ⟨rfl, rfl⟩; rw [show Lib.trimSuffix _ _ = nml from H3.out, show Lib.hasSuffix _ _ = i.aq from H4.out])
    | (go_at_call 65; refine (op_any _ _).mono ?_; rintro e w3 ⟨rfl, hm⟩; have T3 : Hid (Rx A _ w w3) := (Rx.start HS.out _ nd i.aq i.rl).call hm; clear hm; rw [H5.out]; obtain ⟨z0, z1, z2, z3, z4, z5, z6, z7⟩ := T3.out.inst; have fz3 := T3.out.froz; have lt3 := T3.out.lt)
    | (go_at_call 55; refine (form_any _ _).mono ?_; rintro e wn ⟨rfl, hm⟩; have T4 : Hid (Rx A _ w wn) := (T3.out.setop i.op).call hm; clear hm; rw [H6.out]))
  have hlT := T4.out.lt
  clear z0 z1 z2 z3 z4 z5 z6 z7 fz3
  go_loopg [5] F.length (fun gf vr wx => ∃ (pos : Nat) (j : W.I) (R : List UInt8), vr = .string ⟨R.toArray⟩ ∧ (pos < F.length → W.restL i (F.drop pos) = R) ∧ wx.heap[wn.heap.size]? = some (.stringIter ⟨F.toArray⟩ pos) ∧ Rx A j w wx ∧ W.putAll i j (F.drop pos) = i ∧ F.length ≤ pos + gf)
  case atStart => exact ⟨0, _, rest, rfl, fun h => by simpa using HE h, World.iter_heap wn _ 0, T4.out.call ((Below.refl _ _).alloc (Nat.le_refl _) _), by simpa using HP, by omega⟩
  case round =>
    obtain ⟨pos, j, R, rfl, hR, hit, hT, hA, hfu⟩ := hrel
    clear T4 HE HP
    by_cases hp : pos < F.length
    · obtain ⟨g', rfl⟩ : ∃ g', gk = g' + 1 := ⟨gk - 1, by omega⟩
      have hR := hR hp
      have hcok : W.okC F[pos] = true := by
        have := HO.out
        simp [W.okForm] at this
        exact this.1 _ (List.getElem_mem hp)
      have hasc := okC_lo _ hcok
      have hnx : ∀ ty, (Instr.next (.pointer (some ⟨wn.heap.size, 0, none⟩)) true ty).run Tryz.prog wr = _ := fun ty => Lib.run_next_ascii_at wr wn.heap.size ⟨F.toArray⟩ pos ty hit hp hasc
      have hit2 := Lib.iterAt_heap wr wn.heap.size ⟨F.toArray⟩ pos (pos + 1) hit
      have hT2 := hT.iter hit (by omega) (pos + 1)
      have hsq := HQ.out pos hp
      rw [rest_cons i F pos hp] at hR
      rw [List.drop_eq_getElem_cons hp] at hA
      have hcp := okC_part F[pos] hcok
      obtain ⟨c, hc⟩ : ∃ c, F[pos] = c := ⟨_, rfl⟩
      have hc' : ((⟨F.toArray⟩ : ByteArray)[pos]'hp) = c := hc
      rw [hc] at hA hR hcok hasc hcp hsq
      rw [hc'] at hnx
      obtain ⟨R', hR'⟩ : ∃ R', W.restL i (F.drop (pos + 1)) = R' := ⟨_, rfl⟩
      rw [hR'] at hR
      obtain ⟨W1, hW⟩ : ∃ W1, wr.iterAt wn.heap.size ⟨F.toArray⟩ (pos + 1) = W1 := ⟨_, rfl⟩
      rw [hW] at hnx hit2 hT2
      have HT2 : Hid (Rx A j w W1) := hT2
      have HI2 : Hid (W1.heap[wn.heap.size]? = some (.stringIter ⟨F.toArray⟩ (pos + 1))) := hit2
      have hen := enc_lo c hasc
      clear hT2 hit2 hT hit
      cases hb : W.btw c.toNat
      · rw [hb, cond_false] at hR
        have hcc := hcp hb
        obtain ⟨P, hP⟩ : ∃ P, W.partL i c.toNat = P := ⟨_, rfl⟩
        have hpl : plainL P := hP ▸ part_plain i c.toNat hcc
        rw [hP] at hR
        have HPe : Hid (W.pend R = (P.length : Int)) := by
          have : W.pend R = (P.length : Int) := by
            rw [← hR]
            rcases hsq hb with he | ⟨c', t', he, hb'⟩
            · have e : R' = [] := by rw [← hR', he]; rfl
              rw [e, List.append_nil]
              exact pend_end P hpl
            · have hm' : W.okC c' = true := by
                have := HO.out
                simp [W.okForm] at this
                exact this.1 _ (List.mem_of_mem_drop (by rw [he]; simp))
              have e : ∃ t, R' = c' :: t := by rw [← hR', he]; simp [W.restL, hb']
              obtain ⟨t, e⟩ := e
              rw [e]
              exact pend_at P c' t hpl (okC_lo _ hm') hb'
          exact this
        have hle : (P.length : Int) ≤ (R.length : Int) := by rw [← hR]; simp; omega
        have hp0 : (0 : Int) ≤ (P.length : Int) := by omega
        have hx1 : (⟨R.toArray⟩ : ByteArray).extract 0 P.length = ⟨P.toArray⟩ := by
          rw [ba_extract, ← hR]
          simp
        have hx2 : (⟨R.toArray⟩ : ByteArray).extract P.length R.length = ⟨R'.toArray⟩ := by
          rw [ba_extract, ← hR]
          simp
        have HNm : Hid (∀ w : World, Calls Tryz.prog 69 #[.string ⟨P.toArray⟩] w fun e w' => e = .returned (.int .i64 (W.partV i c.toNat)) ∧ Below w.heap.size w w') := (fun w => hP ▸ number_part i HR.out c.toNat hcc w : ∀ w : World, _)
        have HA : Hid (W.putAll i (W.putI j c.toNat (W.partV i c.toNat)) (F.drop (pos + 1)) = i) := by
          have h := hA
          simp only [W.putAll, hb, cond_false] at h
          exact h
        generalize W.partV i c.toNat = n at HNm HA
        clear hA hsq hpl
        go_wp2_with (first
          | (go_at_call 57; refine (between_any c.toNat _).mono ?_; rintro e wa ⟨rfl, hm⟩; rw [hb]; have T3 : Hid (Rx A j w wa) := HT2.out.call hm; have I3 : Hid (wa.heap[wn.heap.size]? = some (.stringIter ⟨F.toArray⟩ (pos + 1))) := (hm.block _ (Array.getElem?_eq_some_iff.1 HI2.out).1).trans HI2.out; clear hm)
          | (go_at_call 67; refine (partEnd_any _ _).mono ?_; rintro e wb ⟨rfl, hm⟩; rw [HPe.out]; have T4 : Hid (Rx A j w wb) := T3.out.call hm; have I4 : Hid (wb.heap[wn.heap.size]? = some (.stringIter ⟨F.toArray⟩ (pos + 1))) := (hm.block _ (Array.getElem?_eq_some_iff.1 I3.out).1).trans I3.out; clear hm)
          | (go_at_call 69; refine (HNm.out _).mono ?_; rintro e wc ⟨rfl, hm⟩; have T5 : Hid (Rx A j w wc) := T4.out.call hm; have I5 : Hid (wc.heap[wn.heap.size]? = some (.stringIter ⟨F.toArray⟩ (pos + 1))) := (hm.block _ (Array.getElem?_eq_some_iff.1 I4.out).1).trans I4.out; clear hm)
          | (go_at_call 68; refine (put_any (w.heap.size + 1) j c.toNat hcc n _ T5.out.inst T5.out.froz).mono ?_; rintro e wd ⟨rfl, hi6, hf6, hm, ho6⟩; have T6 : Hid (Rx A (W.putI j c.toNat n) w wd) := T5.out.put hi6 hf6 hm; have I6 : Hid (wd.heap[wn.heap.size]? = some (.stringIter ⟨F.toArray⟩ (pos + 1))) := (ho6 _ (by omega)).trans I5.out; clear hi6 hf6 hm ho6))
        go_roundg g'
        case measure => omega
        case rel => exact ⟨pos + 1, W.putI j c.toNat n, R', rfl, fun _ => hR', I6.out, T6.out, HA.out, by omega⟩
      · rw [hb, cond_true] at hR
        have HTr : Hid (Lib.trimPrefix R [c] = R') := by
          have : Lib.trimPrefix R [c] = R' := by rw [← hR]; simp [Lib.trimPrefix, Lib.hasPrefix, List.isPrefixOf]
          exact this
        go_wp2_with (first
          | (go_at_call 57; refine (between_any c.toNat _).mono ?_; rintro e wa ⟨rfl, hm⟩; rw [hb]; have T3 : Hid (Rx A j w wa) := HT2.out.call hm; have I3 : Hid (wa.heap[wn.heap.size]? = some (.stringIter ⟨F.toArray⟩ (pos + 1))) := (hm.block _ (Array.getElem?_eq_some_iff.1 HI2.out).1).trans HI2.out; clear hm; have lt3' := T3.out.lt)
          | (go_at_call 66; refine (Tryz.strings_TrimPrefix _ _ _).mono ?_; rintro e w' ⟨rfl, rfl⟩; rw [show Lib.trimPrefix _ _ = R' from HTr.out]))
        go_roundg g'
        case measure => omega
        case rel => exact ⟨pos + 1, j, R', rfl, fun _ => hR', I3.out, T3.out, by have h := hA; simp only [W.putAll, hb, cond_true] at h; exact h, by omega⟩
    · have hnx : ∀ ty, (Instr.next (.pointer (some ⟨wn.heap.size, 0, none⟩)) true ty).run Tryz.prog wr = _ := fun ty => Lib.run_next_end_at wr wn.heap.size ⟨F.toArray⟩ pos ty hit hp
      rw [List.drop_eq_nil_of_le (by omega)] at hA
      have hji : j = i := hA
      subst hji
      have HTe : Hid (Rx A j w wr) := hT
      have hltw := hT.lt
      obtain ⟨z0, z1, z2, z3, z4, z5, z6, z7⟩ := hT.inst
      obtain ⟨v0, v1, v2, v3, v4, v5, v6, v7, r0, r1, r2, r3, r4, r5, r6, r7, r8⟩ := hT.room.eight
      clear hT
      go_wp2
      refine bodyPost_ret (v := inV j) ?_ rfl ⟨rfl, ?_⟩
      · simp [results, Tryz.results35, go_sem, inV, r0, r1, r2, r3, r4, r5, r6, r7]
      · exact (((((((((HTe.out.bel.setCell (Nat.le_refl _) _).setCell (Nat.le_refl _) _).setCell (Nat.le_refl _) _).setCell (Nat.le_refl _) _).setCell (Nat.le_refl _) _).setCell (Nat.le_refl _) _).setCell (Nat.le_refl _) _).setCell (Nat.le_refl _) _))
end Go.Proofs.YtnejdkadmdelaaaGreatDoor

/- read and Parse of a text that Print writes. -/
namespace Go.Proofs.YtnejdkadmdelaaaGreatDoor
open Go.ChangeShapes Go.WideShapes Go.ChangeAt Go.RowKit
set_option linter.unusedVariables false
set_option linter.unusedSimpArgs false

namespace W
/-- Behind a part stands a letter between parts, or nothing. -/
def okSeq : List UInt8 → Bool
  | [] => true
  | [_] => true
  | a :: b :: r => (btw a.toNat || btw b.toNat) && okSeq (b :: r)
theorem seqsOk : ((List.range 70).all fun k => okSeq (form ((k : Nat) : Int))) = true := by decide +kernel
theorem okSeq_at : ∀ (F : List UInt8), okSeq F = true → ∀ pos (h : pos < F.length), btw F[pos].toNat = false → F.drop (pos + 1) = [] ∨ ∃ c t, F.drop (pos + 1) = c :: t ∧ btw c.toNat = true
  | [], _, pos, h, _ => absurd h (by simp)
  | [a], _, pos, h, hb => by
    left
    simp at h
    subst h
    rfl
  | a :: b :: r, hs, 0, h, hb => by
    right
    rw [okSeq, Bool.and_eq_true, Bool.or_eq_true] at hs
    have hb' : btw a.toNat = false := hb
    rcases hs.1 with h1 | h1
    · rw [hb'] at h1; cases h1
    · exact ⟨b, r, rfl, h1⟩
  | a :: b :: r, hs, pos + 1, h, hb => by
    rw [okSeq, Bool.and_eq_true] at hs
    exact okSeq_at (b :: r) hs.2 pos (by simpa using h) (by simpa using hb)
theorem head_at (k : Nat) (k1 : 1 ≤ k) (k2 : k ≤ 69) (aq rl : Bool) : (∀ c ∈ nameAt k ++ (bif aq then [46, 97, 113] else []) ++ (bif rl then [46, 114, 108] else []), c ≠ 32) ∧ Lib.trimSuffix (nameAt k ++ (bif aq then [46, 97, 113] else []) ++ (bif rl then [46, 114, 108] else [])) [46, 114, 108] = nameAt k ++ (bif aq then [46, 97, 113] else []) ∧ Lib.hasSuffix (nameAt k ++ (bif aq then [46, 97, 113] else []) ++ (bif rl then [46, 114, 108] else [])) [46, 114, 108] = rl ∧ Lib.trimSuffix (nameAt k ++ (bif aq then [46, 97, 113] else [])) [46, 97, 113] = nameAt k ∧ Lib.hasSuffix (nameAt k ++ (bif aq then [46, 97, 113] else [])) [46, 97, 113] = aq ∧ fidx (nameAt k) 0 70 = (k : Int) := by
  have h := List.all_eq_true.1 headsOk k (List.mem_range.2 (by omega))
  have hk0 : (k == 0) = false := by simp; omega
  rw [hk0, Bool.false_or, headOk] at h
  have h := List.all_eq_true.1 (List.all_eq_true.1 h aq (by cases aq <;> simp)) rl (by cases rl <;> simp)
  simp only [Bool.and_eq_true, beq_iff_eq, Bool.not_eq_true'] at h
  obtain ⟨⟨⟨⟨⟨a, b⟩, c⟩, d⟩, e⟩, f⟩ := h
  refine ⟨fun x hx hx2 => ?_, b, c, d, e, f⟩
  rw [hx2] at hx
  rw [← List.contains_iff_mem, a] at hx
  cases hx
end W

theorem read_ok (A : Nat → Addr) (i : W.I) (m0 : 0 ≤ i.imm) (m1 : i.imm < 4294967296) (he : W.encE i = 0) (hlen : (W.textL i).length ≤ 1000) (w : World) (hS : Sg A w) : Calls Tryz.prog 35 #[.string ⟨(W.textL i).toArray⟩] w fun e w' => e = .returned (inV i) ∧ Below w.heap.size w w' := by
  obtain ⟨h1, h2, h3, h4⟩ := W.encE_zero he
  obtain ⟨k, ho, k1, k2⟩ := W.known_nat h1
  have hr := W.inR_of h3
  obtain ⟨a, b, c, d, e, f⟩ := W.head_at k k1 k2 i.aq i.rl
  have hnm : W.nm i.op = W.nameAt k := by rw [W.nm, h1, ho]; rfl
  have hsq := List.all_eq_true.1 W.seqsOk k (List.mem_range.2 (by omega))
  rw [← ho] at hsq
  have hnl := nm_len i.op
  rw [hnm] at hnl
  have hq : ∀ x : Bool, (bif x then ([46, 97, 113] : List UInt8) else []).length ≤ 3 := fun x => by cases x <;> decide
  have hq2 : ∀ x : Bool, (bif x then ([46, 114, 108] : List UInt8) else []).length ≤ 3 := fun x => by cases x <;> decide
  have hq1 := hq i.aq
  have hq3 := hq2 i.rl
  have htx : W.textL i = (W.nameAt k ++ (bif i.aq then [46, 97, 113] else []) ++ (bif i.rl then [46, 114, 108] else [])) ++ (W.spL (W.form i.op) ++ W.restL i (W.form i.op)) := by
    rw [W.textL, hnm, W.aqL, W.rlL]
    simp
  have hcut : ∃ fnd, Lib.cut (W.textL i) [32] = (W.nameAt k ++ (bif i.aq then [46, 97, 113] else []) ++ (bif i.rl then [46, 114, 108] else []), W.restL i (W.form i.op), fnd) := by
    rw [htx]
    cases hF : W.form i.op with
    | nil => exact ⟨false, by simpa [W.spL, W.restL] using cut_no _ a⟩
    | cons x r => exact ⟨true, cut_at _ _ a⟩
  obtain ⟨fnd, hcut⟩ := hcut
  exact read_text A i (W.textL i) _ _ _ _ _ fnd w hS hlen (by simp; omega) (by simp; omega) hcut b c d e (by show max 0 (W.fidx (W.nameAt k) 0 70) = i.op; rw [f, ho]; omega) rfl hr (W.form_ok i.op) (W.okSeq_at _ hsq) (W.put_form i m0 m1 he) (fun _ => rfl)
end Go.Proofs.YtnejdkadmdelaaaGreatDoor

/- Parse of a text that Print writes. -/
namespace Go.Proofs.YtnejdkadmdelaaaGreatDoor
open Go.ChangeShapes Go.WideShapes Go.ChangeAt Go.RowKit
set_option linter.unusedVariables false
set_option linter.unusedSimpArgs false

theorem rest_len (i : W.I) (hr : W.InR i) : ∀ F : List UInt8, F.all W.okC = true → (W.restL i F).length ≤ 22 * F.length
  | [], _ => by simp [W.restL]
  | c :: r, h => by
    rw [List.all_cons, Bool.and_eq_true] at h
    have ih := rest_len i hr r h.2
    have e : W.restL i (c :: r) = (bif W.btw c.toNat then [c] else W.partL i c.toNat) ++ W.restL i r := rfl
    rw [e, List.length_append]
    cases hb : W.btw c.toNat
    · have := part_len i hr c.toNat (okC_part c h.1 hb)
      simp only [cond_false, List.length_cons]
      omega
    · simp only [cond_true, List.length_cons, List.length_nil]
      omega
theorem text_len (i : W.I) (hr : W.InR i) : (W.textL i).length ≤ 1000 := by
  have h1 := nm_len i.op
  have hok := W.form_ok i.op
  rw [W.okForm, Bool.and_eq_true, decide_eq_true_eq] at hok
  have h2 := rest_len i hr (W.form i.op) hok.1
  have h3 : (W.aqL i).length ≤ 3 := by unfold W.aqL; cases i.aq <;> decide
  have h4 : (W.rlL i).length ≤ 3 := by unfold W.rlL; cases i.rl <;> decide
  have h5 : (W.spL (W.form i.op)).length ≤ 1 := by unfold W.spL; cases (W.form i.op).isEmpty <;> decide
  have h6 := hok.2
  simp only [W.textL, List.length_append]
  omega

set_option maxRecDepth 1000000 in
set_option maxHeartbeats 3200000 in
theorem parse_ok (A : Nat → Addr) (i : W.I) (m0 : 0 ≤ i.imm) (m1 : i.imm < 4294967296) (he : W.encE i = 0) (w : World) (hS : Sg A w) : Calls Tryz.prog 12 #[.string ⟨(W.textL i).toArray⟩] w fun e w' => e = .returned (.tuple #[inV i, .nilIface]) ∧ Below w.heap.size w w' := by
  have HRd : Hid (∀ w : World, Sg A w → Calls Tryz.prog 35 #[.string ⟨(W.textL i).toArray⟩] w fun e w' => e = .returned (inV i) ∧ Below w.heap.size w w') := fun w h => read_ok A i m0 m1 he (text_len i (W.inR_of (W.encE_zero he).2.2.1)) w h
  have HPr : Hid (∀ w : World, Sg A w → Calls Tryz.prog 9 #[inV i] w fun e w' => e = .returned (.tuple #[.string ⟨(W.textL i).toArray⟩, .nilIface]) ∧ Below w.heap.size w w') := fun w h => print_ok A i _ w h he rfl
  have HS : Hid (Sg A w) := hS
  generalize W.textL i = T at HRd HPr
  clear hS he m0 m1
  go_enter Tryz.func12, Tryz.ntmps12
  go_wp2_with (first
    | (go_at_call 35; refine (HRd.out _ (HS.out.below ((Below.refl _ _).alloc (Nat.le_refl _) _))).mono ?_; rintro e w1 ⟨rfl, hm⟩; have R1 : Hid (Room w.heap.size 8 w1) := ⟨_, _, (hm.block _ (by simp)).trans (heap_alloc_last w _), rfl⟩; have B1 : Hid (Below w.heap.size w w1) := ((Below.refl _ _).alloc (Nat.le_refl _) _).trans (hm.mono (by simp)); have lt1 : w.heap.size < w1.heap.size := (by have := hm.size; simp at this; omega); clear hm; unfold inV)
    | (go_at_call 9; refine (HPr.out _ (HS.out.below (B1.out.alloc B1.out.size _))).mono ?_; rintro e w2 ⟨rfl, hm⟩; obtain ⟨z0, z1, z2, z3, z4, z5, z6, z7⟩ := (InAt.start w1 i _).below hm; have B2 : Hid (Below w.heap.size w w2) := (B1.out.alloc B1.out.size _).trans (hm.mono (by simp; omega)); have lt2 : w1.heap.size < w2.heap.size := (by have := hm.size; simp at this; omega); obtain ⟨v0, v1, v2, v3, v4, v5, v6, v7, r0, r1, r2, r3, r4, r5, r6, r7, r8⟩ := ((R1.out.below ((Below.refl _ _).alloc (Nat.le_refl _) _) lt1).below hm (by simp; omega)).eight; clear hm))
  refine bodyPost_ret (v := .tuple #[inV i, .nilIface]) ?_ rfl ⟨rfl, ?_⟩
  · simp [results, Tryz.results12, go_sem, inV, r0, r1, r2, r3, r4, r5, r6, r7]
  · exact (((((((((B2.out.setCell (Nat.le_refl _) _).setCell (Nat.le_refl _) _).setCell (Nat.le_refl _) _).setCell (Nat.le_refl _) _).setCell (Nat.le_refl _) _).setCell (Nat.le_refl _) _).setCell (Nat.le_refl _) _).setCell (Nat.le_refl _) _))

set_option maxRecDepth 1000000 in
set_option maxHeartbeats 3200000 in
/-- Parse of a text that is read as something without a word. -/
theorem parse_none (A : Nat → Addr) (i : W.I) (T : List UInt8) (n : Nat) (v : Int) (he : Hid (W.encE i = n + 1)) (hv : Hid (W.encV i = v)) (HRd : Hid (∀ w : World, Sg A w → Calls Tryz.prog 35 #[.string ⟨T.toArray⟩] w fun e w' => e = .returned (inV i) ∧ Below w.heap.size w w')) (w : World) (hS : Sg A w) : Calls Tryz.prog 12 #[.string ⟨T.toArray⟩] w fun e w' => e = .returned (.tuple #[inV ⟨0, 0, 0, 0, 0, 0, false, false⟩, errV A 6]) ∧ Below w.heap.size w w' := by
  have HPr : Hid (∀ w : World, Sg A w → Calls Tryz.prog 9 #[inV i] w fun e w' => e = .returned (.tuple #[.string ⟨#[]⟩, .iface 194 (.pointer (some (A n)))]) ∧ Below w.heap.size w w') := fun w h => print_no A i v n w h he hv
  have HS : Hid (Sg A w) := hS
  clear hS he hv
  go_enter Tryz.func12, Tryz.ntmps12
  go_wp2_with (first
    | (go_at_call 35; refine (HRd.out _ (HS.out.below ((Below.refl _ _).alloc (Nat.le_refl _) _))).mono ?_; rintro e w1 ⟨rfl, hm⟩; have R1 : Hid (Room w.heap.size 8 w1) := ⟨_, _, (hm.block _ (by simp)).trans (heap_alloc_last w _), rfl⟩; have B1 : Hid (Below w.heap.size w w1) := ((Below.refl _ _).alloc (Nat.le_refl _) _).trans (hm.mono (by simp)); have lt1 : w.heap.size < w1.heap.size := (by have := hm.size; simp at this; omega); clear hm; unfold inV)
    | (go_at_call 9; refine (HPr.out _ (HS.out.below (B1.out.alloc B1.out.size _))).mono ?_; rintro e w2 ⟨rfl, hm⟩; have B2 : Hid (Below w.heap.size w w2) := (B1.out.alloc B1.out.size _).trans (hm.mono (by simp; omega)); have lt2 : w1.heap.size < w2.heap.size := (by have := hm.size; simp at this; omega); obtain ⟨v0, v1, v2, v3, v4, v5, v6, v7, r0, r1, r2, r3, r4, r5, r6, r7, r8⟩ := ((R1.out.below ((Below.refl _ _).alloc (Nat.le_refl _) _) lt1).below hm (by simp; omega)).eight; clear hm; have c5 : w2.cell? ⟨0, 0, none⟩ = some _ := (HS.out.below B2.out).sent.cell 5 (by omega); have g5 := World.block_lt_of_cell? _ _ (HS.out.sent.cell 5 (by omega))))
  first
  | go_region
  | go_region_with (fail)
  all_goals
    go_wp2
    refine bodyPost_ret (v := .tuple #[inV ⟨0, 0, 0, 0, 0, 0, false, false⟩, errV A 6]) ?_ rfl ⟨rfl, ?_⟩
    · simp [results, Tryz.results12, go_sem, inV, errV, r0, r1, r2, r3, r4, r5, r6, r7]
    · exact (((((((((B2.out.setCell (Nat.le_refl _) _).setCell (Nat.le_refl _) _).setCell (Nat.le_refl _) _).setCell (Nat.le_refl _) _).setCell (Nat.le_refl _) _).setCell (Nat.le_refl _) _).setCell (Nat.le_refl _) _).setCell (Nat.le_refl _) _)).drew

/-- Parse of a word that is no instruction, as a line. -/
theorem parse_word (A : Nat → Addr) (x : Nat) (w : World) (hS : Sg A w) : Calls Tryz.prog 12 #[.string ⟨([46, 119, 111, 114, 100, 32] ++ (48 :: 120 :: W.hexL x 8)).toArray⟩] w fun e w' => e = .returned (.tuple #[inV ⟨0, 0, 0, 0, 0, 0, false, false⟩, errV A 6]) ∧ Below w.heap.size w w' := by
  have hl : (W.hexL x 8).length = 8 := by simp [W.hexL]
  have hc : Lib.cut ([46, 119, 111, 114, 100, 32] ++ (48 :: 120 :: W.hexL x 8)) [32] = ([46, 119, 111, 114, 100], 48 :: 120 :: W.hexL x 8, true) := cut_at [46, 119, 111, 114, 100] (48 :: 120 :: W.hexL x 8) (by decide)
  refine parse_none A ⟨0, 0, 0, 0, 0, 0, false, false⟩ _ 0 0 (by show W.encE _ = 0 + 1; decide) (by show W.encV _ = 0; decide) (fun w h => ?_) w hS
  exact read_text A ⟨0, 0, 0, 0, 0, 0, false, false⟩ _ _ [46, 119, 111, 114, 100] [46, 119, 111, 114, 100] _ [] true w h (by simp; omega) (by decide) (by decide) hc (by show Lib.trimSuffix _ _ = _; decide) (by show Lib.hasSuffix _ _ = false; decide) (by show Lib.trimSuffix _ _ = _; decide) (by show Lib.hasSuffix _ _ = false; decide) (by show max 0 (W.fidx _ 0 70) = 0; decide +kernel) (by show W.form 0 = []; decide +kernel) ⟨by decide, by decide, by decide, by decide, by decide, by decide, by decide, by decide⟩ (by show W.okForm [] = true; decide) (fun pos h => absurd h (by simp)) rfl (fun h => absurd h (by simp))
end Go.Proofs.YtnejdkadmdelaaaGreatDoor

/- read of what Print writes. -/
namespace Go.Proofs.YtnejdkadmdelaaaGreatDoor
open Go.ChangeShapes Go.WideShapes Go.ChangeAt Go.RowKit
set_option linter.unusedVariables false
set_option linter.unusedSimpArgs false

set_option maxRecDepth 1000000 in
set_option maxHeartbeats 3200000 in
theorem read_seq (A : Nat → Addr) (i : W.I) (Rs : Nat → List UInt8) (js : Nat → W.I) (txt hdn hda nml rest F : List UInt8) (fnd : Bool) (w : World) (hS : Sg A w) (hlen : txt.length ≤ 1000) (hlen2 : hdn.length ≤ 1000) (hlen3 : hda.length ≤ 1000)
    (HC : Hid (Lib.cut txt [32] = (hdn, rest, fnd))) (H1 : Hid (Lib.trimSuffix hdn [46, 114, 108] = hda)) (H2 : Hid (Lib.hasSuffix hdn [46, 114, 108] = i.rl)) (H3 : Hid (Lib.trimSuffix hda [46, 97, 113] = nml)) (H4 : Hid (Lib.hasSuffix hda [46, 97, 113] = i.aq)) (H5 : Hid (max 0 (W.fidx nml 0 70) = i.op)) (H6 : Hid (W.form i.op = F)) (HO : Hid (W.okForm F = true)) (HE : Rs 0 = rest) (HJ : js 0 = ⟨i.op, 0, 0, 0, 0, 0, i.aq, i.rl⟩) (HL : js F.length = i)
    (HB : Hid (∀ pos (h : pos < F.length), W.btw F[pos].toNat = true → Lib.trimPrefix (Rs pos) [F[pos]] = Rs (pos + 1) ∧ js (pos + 1) = js pos))
    (HN : Hid (∀ pos (h : pos < F.length), W.btw F[pos].toNat = false → ∃ P n, P ++ Rs (pos + 1) = Rs pos ∧ W.pend (Rs pos) = (P.length : Int) ∧ js (pos + 1) = W.putI (js pos) F[pos].toNat n ∧ ∀ w : World, Calls Tryz.prog 69 #[.string ⟨P.toArray⟩] w fun e w' => e = .returned (.int .i64 n) ∧ Below w.heap.size w w')) :
    Calls Tryz.prog 35 #[.string ⟨txt.toArray⟩] w fun e w' => e = .returned (inV i) ∧ Below w.heap.size w w' := by
  have HS : Hid (Sg A w) := hS
  obtain ⟨mx, hmx⟩ := hS.maxl
  have HM : Hid (∀ o p, ((w.alloc o).alloc p).cell? ⟨5, 0, none⟩ = some (.int .i64 mx)) := (fun o p => ((((Below.refl w.heap.size w).alloc (Nat.le_refl _) o).alloc (by simp) p).cell (World.block_lt_of_cell? _ _ hmx)).trans hmx : ∀ o p, _)
  clear hS hmx
  go_enter Tryz.func35, Tryz.ntmps35
  go_wp2_with (first
    | (go_at_call 63; refine (Tryz.strings_Cut _ _ mx _ (by show txt.toArray.size < _; simp; omega) (HM.out _ _)).mono ?_; rintro e w' ⟨rfl, nd, rfl⟩; rw [show Lib.cut _ _ = (hdn, rest, fnd) from HC.out])
    | (go_at_call_of 64 (Value.string ⟨hdn.toArray⟩); refine (Tryz.strings_CutSuffix _ _ _ (by show hdn.toArray.size ≤ _; simp; omega)).mono ?_; rintro e w' ⟨rfl, rfl⟩; rw [show Lib.trimSuffix _ _ = hda from H1.out, show Lib.hasSuffix _ _ = i.rl from H2.out])
    | (go_at_call_of 64 (Value.string ⟨hda.toArray⟩); refine (Tryz.strings_CutSuffix _ _ _ (by show hda.toArray.size ≤ _; simp; omega)).mono ?_; rintro e w' ⟨rfl, rfl⟩; rw [show Lib.trimSuffix _ _ = nml from H3.out, show Lib.hasSuffix _ _ = i.aq from H4.out])
    | (go_at_call 65; refine (op_any _ _).mono ?_; rintro e w3 ⟨rfl, hm⟩; have T3 : Hid (Rx A _ w w3) := (Rx.start HS.out _ nd i.aq i.rl).call hm; clear hm; rw [H5.out]; obtain ⟨z0, z1, z2, z3, z4, z5, z6, z7⟩ := T3.out.inst; have fz3 := T3.out.froz; have lt3 := T3.out.lt)
    | (go_at_call 55; refine (form_any _ _).mono ?_; rintro e wn ⟨rfl, hm⟩; have T4 : Hid (Rx A _ w wn) := (T3.out.setop i.op).call hm; clear hm; rw [H6.out]))
  have hlT := T4.out.lt
  clear z0 z1 z2 z3 z4 z5 z6 z7 fz3
  go_loopg [5] F.length (fun gf vr wx => ∃ (pos : Nat), vr = .string ⟨(Rs pos).toArray⟩ ∧ wx.heap[wn.heap.size]? = some (.stringIter ⟨F.toArray⟩ pos) ∧ Rx A (js pos) w wx ∧ F.length ≤ pos + gf ∧ pos ≤ F.length)
  case atStart => exact ⟨0, by rw [HE], World.iter_heap wn _ 0, (HJ ▸ T4.out).call ((Below.refl _ _).alloc (Nat.le_refl _) _), by omega, by omega⟩
  case round =>
    obtain ⟨pos, rfl, hit, hT, hfu, hpl'⟩ := hrel
    clear T4 HE HJ
    by_cases hp : pos < F.length
    · obtain ⟨g', rfl⟩ : ∃ g', gk = g' + 1 := ⟨gk - 1, by omega⟩
      have hcok : W.okC F[pos] = true := by
        have := HO.out
        simp [W.okForm] at this
        exact this.1 _ (List.getElem_mem hp)
      have hasc := okC_lo _ hcok
      have hnx : ∀ ty, (Instr.next (.pointer (some ⟨wn.heap.size, 0, none⟩)) true ty).run Tryz.prog wr = _ := fun ty => Lib.run_next_ascii_at wr wn.heap.size ⟨F.toArray⟩ pos ty hit hp hasc
      have hit2 := Lib.iterAt_heap wr wn.heap.size ⟨F.toArray⟩ pos (pos + 1) hit
      have hT2 := hT.iter hit (by omega) (pos + 1)
      have hB := HB.out pos hp
      have hN := HN.out pos hp
      have hcp := okC_part F[pos] hcok
      obtain ⟨c, hc⟩ : ∃ c, F[pos] = c := ⟨_, rfl⟩
      have hc' : ((⟨F.toArray⟩ : ByteArray)[pos]'hp) = c := hc
      rw [hc] at hcok hasc hcp hB hN
      rw [hc'] at hnx
      obtain ⟨R, hR⟩ : ∃ R, Rs pos = R := ⟨_, rfl⟩
      obtain ⟨R', hR'⟩ : ∃ R', Rs (pos + 1) = R' := ⟨_, rfl⟩
      obtain ⟨j, hj⟩ : ∃ j, js pos = j := ⟨_, rfl⟩
      obtain ⟨j', hj'⟩ : ∃ j', js (pos + 1) = j' := ⟨_, rfl⟩
      rw [hR, hR', hj, hj'] at hN
      rw [hR, hR', hj, hj'] at hB
      rw [hR]
      obtain ⟨W1, hW⟩ : ∃ W1, wr.iterAt wn.heap.size ⟨F.toArray⟩ (pos + 1) = W1 := ⟨_, rfl⟩
      rw [hW] at hnx hit2 hT2
      have HT2 : Hid (Rx A j w W1) := hj ▸ hT2
      have HI2 : Hid (W1.heap[wn.heap.size]? = some (.stringIter ⟨F.toArray⟩ (pos + 1))) := hit2
      have hen := enc_lo c hasc
      clear hT2 hit2 hT hit
      cases hb : W.btw c.toNat
      · have hcc := hcp hb
        obtain ⟨P, n, hPR, hPe, hjn, hNm⟩ := hN hb
        have HPe : Hid (W.pend R = (P.length : Int)) := hPe
        have HNm : Hid (∀ w : World, Calls Tryz.prog 69 #[.string ⟨P.toArray⟩] w fun e w' => e = .returned (.int .i64 n) ∧ Below w.heap.size w w') := hNm
        have HA : Hid (j' = W.putI j c.toNat n) := hjn
        clear hB hN hPe hNm hjn
        have hle : (P.length : Int) ≤ (R.length : Int) := by rw [← hPR]; simp; omega
        have hp0 : (0 : Int) ≤ (P.length : Int) := by omega
        have hx1 : (⟨R.toArray⟩ : ByteArray).extract 0 P.length = ⟨P.toArray⟩ := by
          rw [ba_extract, ← hPR]
          simp
        have hx2 : (⟨R.toArray⟩ : ByteArray).extract P.length R.length = ⟨R'.toArray⟩ := by
          rw [ba_extract, ← hPR]
          simp
        go_wp2_with (first
          | (go_at_call 57; refine (between_any c.toNat _).mono ?_; rintro e wa ⟨rfl, hm⟩; rw [hb]; have T3 : Hid (Rx A j w wa) := HT2.out.call hm; have I3 : Hid (wa.heap[wn.heap.size]? = some (.stringIter ⟨F.toArray⟩ (pos + 1))) := (hm.block _ (Array.getElem?_eq_some_iff.1 HI2.out).1).trans HI2.out; clear hm)
          | (go_at_call 67; refine (partEnd_any _ _).mono ?_; rintro e wb ⟨rfl, hm⟩; rw [HPe.out]; have T4 : Hid (Rx A j w wb) := T3.out.call hm; have I4 : Hid (wb.heap[wn.heap.size]? = some (.stringIter ⟨F.toArray⟩ (pos + 1))) := (hm.block _ (Array.getElem?_eq_some_iff.1 I3.out).1).trans I3.out; clear hm)
          | (go_at_call 69; refine (HNm.out _).mono ?_; rintro e wc ⟨rfl, hm⟩; have T5 : Hid (Rx A j w wc) := T4.out.call hm; have I5 : Hid (wc.heap[wn.heap.size]? = some (.stringIter ⟨F.toArray⟩ (pos + 1))) := (hm.block _ (Array.getElem?_eq_some_iff.1 I4.out).1).trans I4.out; clear hm)
          | (go_at_call 68; refine (put_any (w.heap.size + 1) j c.toNat hcc n _ T5.out.inst T5.out.froz).mono ?_; rintro e wd ⟨rfl, hi6, hf6, hm, ho6⟩; have T6 : Hid (Rx A (W.putI j c.toNat n) w wd) := T5.out.put hi6 hf6 hm; have I6 : Hid (wd.heap[wn.heap.size]? = some (.stringIter ⟨F.toArray⟩ (pos + 1))) := (ho6 _ (by omega)).trans I5.out; clear hi6 hf6 hm ho6))
        go_roundg g'
        case measure => omega
        case rel => exact ⟨pos + 1, by rw [hR'], I6.out, by rw [hj', HA.out]; exact T6.out, by omega, by omega⟩
      · obtain ⟨hTr, hjj⟩ := hB hb
        have HTr : Hid (Lib.trimPrefix R [c] = R') := hTr
        clear hB hN hTr
        go_wp2_with (first
          | (go_at_call 57; refine (between_any c.toNat _).mono ?_; rintro e wa ⟨rfl, hm⟩; rw [hb]; have T3 : Hid (Rx A j w wa) := HT2.out.call hm; have I3 : Hid (wa.heap[wn.heap.size]? = some (.stringIter ⟨F.toArray⟩ (pos + 1))) := (hm.block _ (Array.getElem?_eq_some_iff.1 HI2.out).1).trans HI2.out; clear hm; have lt3' := T3.out.lt)
          | (go_at_call 66; refine (Tryz.strings_TrimPrefix _ _ _).mono ?_; rintro e w' ⟨rfl, rfl⟩; rw [show Lib.trimPrefix _ _ = R' from HTr.out]))
        go_roundg g'
        case measure => omega
        case rel => exact ⟨pos + 1, by rw [hR'], I3.out, by rw [hj', hjj]; exact T3.out, by omega, by omega⟩
    · have hnx : ∀ ty, (Instr.next (.pointer (some ⟨wn.heap.size, 0, none⟩)) true ty).run Tryz.prog wr = _ := fun ty => Lib.run_next_end_at wr wn.heap.size ⟨F.toArray⟩ pos ty hit hp
      have hpe : pos = F.length := by omega
      have hT : Rx A i w wr := by rw [← HL, ← hpe]; exact hT
      have HTe : Hid (Rx A i w wr) := hT
      have hltw := hT.lt
      obtain ⟨z0, z1, z2, z3, z4, z5, z6, z7⟩ := hT.inst
      obtain ⟨v0, v1, v2, v3, v4, v5, v6, v7, r0, r1, r2, r3, r4, r5, r6, r7, r8⟩ := hT.room.eight
      clear hT
      go_wp2
      refine bodyPost_ret (v := inV i) ?_ rfl ⟨rfl, ?_⟩
      · simp [results, Tryz.results35, go_sem, inV, r0, r1, r2, r3, r4, r5, r6, r7]
      · exact (((((((((HTe.out.bel.setCell (Nat.le_refl _) _).setCell (Nat.le_refl _) _).setCell (Nat.le_refl _) _).setCell (Nat.le_refl _) _).setCell (Nat.le_refl _) _).setCell (Nat.le_refl _) _).setCell (Nat.le_refl _) _).setCell (Nat.le_refl _) _))
end Go.Proofs.YtnejdkadmdelaaaGreatDoor
