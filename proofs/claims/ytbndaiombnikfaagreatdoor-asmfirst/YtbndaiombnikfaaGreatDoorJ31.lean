/- Texts in one: AsmK8a, AsmKn, AsmZ, AsmZ2. -/
import Derived.Test.YtbndaiombnikfaaGreatDoorJ24
import Derived.Test.YtbndaiombnikfaaGreatDoorJ25
import Derived.Test.YtbndaiombnikfaaGreatDoorJ26
import Derived.Test.YtbndaiombnikfaaGreatDoorJ27
import Derived.Test.YtbndaiombnikfaaGreatDoorJ28
import Derived.Test.YtbndaiombnikfaaGreatDoorJ29
import Derived.Test.YtbndaiombnikfaaGreatDoorJ30
/- Numbers read, of whatever text that begins with 0: some number (w8a). -/
namespace Go.Proofs.YtbndaiombnikfaaGreatDoor
open Go.ChangeShapes Go.WideShapes Go.ChangeAt Go.RowKit
set_option linter.unusedVariables false
set_option linter.unusedSimpArgs false

set_option maxRecDepth 1000000 in
set_option maxHeartbeats 12800000 in
theorem pu_w8a (q t : ByteArray) (hne : q.size ≠ 0) (hmax : q.size ≤ 1000) (h0 : (((q[0]'(Nat.pos_of_ne_zero hne)).toNat : Int) == 48) = true) (h3 : q.size < 3) (hT : q.extract 1 q.size = t) (w : World)
    (HU : Hid (∀ w : World, Calls Tryz.prog 152 #[.string q] w fun e w' => SomeB e ∧ w = w')) : Calls Tryz.prog 142 #[.string q, .int .i64 0, .int .i64 64] w fun e w' => ∃ n er, e = .returned (.tuple #[.int .u64 n, er]) ∧ Er er ∧ Below w.heap.size w w' := by
  have hemp : q.toList.isEmpty = false := by
    rw [← decide_eq_emptyBytes]
    exact decide_eq_false (fun h => hne (by rw [h]; rfl))
  have i0 : (0 : Int) < (q.size : Int) := by omega
  have hmt : t.size ≤ 1000 := by rw [← hT]; simp; omega
  have j3 : (q.size : Int) < 3 := by omega
  have hcv := Lib.run_convert_string_bytes (P := Tryz.prog) w 9 54 5 t (u := .string) Tryz.underlying9 Tryz.underlying54 Tryz.underlying5
  have hB : ∀ j, j < t.size → (Lib.bytesWorld w 5 t).cell? ⟨w.heap.size, j, none⟩ = some (.int .u8 (t.data.toList.getD j 0).toNat) := fun j hj => Lib.bytesWorld_cell w 5 t j hj
  have hbw := bytesWorld_below w 5 t
  obtain ⟨W1, hW1⟩ : ∃ W1, W1 = Lib.bytesWorld w 5 t := ⟨_, rfl⟩
  rw [← hW1] at hcv hB hbw
  clear hW1
  have hmv : IntKind.u64.wrap (IntKind.u64.wrap 18446744073709551616 - 1) = 18446744073709551615 := by
    rw [IntKind.wrap_u64, IntKind.wrap_u64]
    decide
  go_enter Tryz.func142, Tryz.ntmps142
  go_wp2_with (go_at_call 151; refine (Tryz.internal_strconv_lower _ _).mono ?_; rintro e w' ⟨rfl, rfl⟩)
  go_loop [12, 13, 101] (fun vu vn vi => ∃ (k : Nat) (a : Int) (u : Bool), vu = .bool u ∧ vn = .int .u64 a ∧ vi = .int .i64 k ∧ k ≤ t.size)
    (fun _ _ vi => t.size - (intOf vi).toNat)
  case atStart => exact ⟨0, 0, false, rfl, rfl, rfl, by omega⟩
  case round =>
    obtain ⟨k, a, u, rfl, rfl, rfl, hk⟩ := hrel
    by_cases hkn : k < t.size
    · have hc := hB k hkn
      generalize t.data.toList.getD k 0 = c at hc
      clear hB
      go_wp2_with (go_at_call 151; refine (Tryz.internal_strconv_lower _ _).mono ?_; rintro e w' ⟨rfl, rfl⟩)
      all_goals first
        | exact ⟨⟨k + 1, _, _, rfl, rfl, by go_num, by omega⟩, by simp [intOf]; omega⟩
        | (refine bodyPost_ret (v := .tuple #[.int .u64 0, .iface 177 (.int .i64 2)]) ?_ rfl ⟨_, _, rfl, Or.inr (Or.inr rfl), hbw⟩; (simp [results, Tryz.results142, go_sem]; done))
        | (refine bodyPost_ret (v := .tuple #[.int .u64 18446744073709551615, .iface 177 (.int .i64 1)]) ?_ rfl ⟨_, _, rfl, Or.inr (Or.inl rfl), hbw⟩; (simp [results, Tryz.results142, go_sem]; done))
    · have hkk : k = t.size := by omega
      subst hkk
      clear hB
      cases u
      · go_wp2
        exact bodyPost_ret (v := .tuple #[.int .u64 a, .nilIface]) (by simp [results, Tryz.results142, go_sem]) rfl ⟨_, _, rfl, Or.inl rfl, hbw⟩
      · go_wp2_with (go_at_call 152; refine (HU.out _).mono ?_; rintro e w' ⟨⟨r, rfl⟩, rfl⟩)
        all_goals first
          | (refine bodyPost_ret (v := .tuple #[.int .u64 a, .nilIface]) ?_ rfl ⟨_, _, rfl, Or.inl rfl, hbw⟩; (simp [results, Tryz.results142, go_sem]; done))
          | (refine bodyPost_ret (v := .tuple #[.int .u64 0, .iface 177 (.int .i64 2)]) ?_ rfl ⟨_, _, rfl, Or.inr (Or.inr rfl), hbw⟩; (simp [results, Tryz.results142, go_sem]; done))
end Go.Proofs.YtbndaiombnikfaaGreatDoor

/- Any text's number: some number. -/
namespace Go.Proofs.YtbndaiombnikfaaGreatDoor
open Go.ChangeShapes Go.WideShapes Go.ChangeAt Go.RowKit
set_option linter.unusedVariables false
set_option linter.unusedSimpArgs false

theorem byte_bool (x : Int) (k : Int) : (x == k) = true ∨ (x == k) = false := by cases (x == k) <;> simp

theorem uok_any (t : ByteArray) (hmax : t.size ≤ 1000) (hne : t.size ≠ 0) (h45 : (((t[0]'(Nat.pos_of_ne_zero hne)).toNat : Int) == 45) = false) (h43 : (((t[0]'(Nat.pos_of_ne_zero hne)).toNat : Int) == 43) = false) (w : World) : Calls Tryz.prog 152 #[.string t] w fun e w' => SomeB e ∧ w = w' := by
  by_cases h2 : 2 ≤ t.size
  · rcases byte_bool ((t[0]'(Nat.pos_of_ne_zero hne)).toNat : Int) 48 with c0 | c0
    · cases hb : (bits .or .u8 ((t[1]'(Nat.lt_of_lt_of_le (by decide) h2)).toNat : Int) 32 == 98)
      · cases ho : (bits .or .u8 ((t[1]'(Nat.lt_of_lt_of_le (by decide) h2)).toNat : Int) 32 == 111)
        · cases hx : (bits .or .u8 ((t[1]'(Nat.lt_of_lt_of_le (by decide) h2)).toNat : Int) 32 == 120)
          · exact uok_n t hmax hne h45 h43 h2 c0 hb ho hx w
          · exact uok_x t hmax hne h45 h43 h2 c0 hb ho hx w
        · have e : bits .or .u8 ((t[1]'(Nat.lt_of_lt_of_le (by decide) h2)).toNat : Int) 32 = 111 := by simpa using ho
          exact uok_o t hmax hne h45 h43 h2 c0 hb ho (by rw [e]; rfl) w
      · have e : bits .or .u8 ((t[1]'(Nat.lt_of_lt_of_le (by decide) h2)).toNat : Int) 32 = 98 := by simpa using hb
        exact uok_b t hmax hne h45 h43 h2 c0 hb (by rw [e]; rfl) (by rw [e]; rfl) w
    · exact uok_not t hmax hne h45 h43 h2 c0 w
  · exact uok_one t hmax hne h45 h43 (by omega) w

/-- ParseUint of whatever text. -/
theorem pu_any : PuAny := by
  intro t hmax w
  by_cases hne : t.size = 0
  · have e : t = ⟨#[]⟩ := by
      apply ByteArray.ext
      exact Array.eq_empty_of_size_eq_zero hne
    subst e
    refine (Tryz.internal_strconv_ParseUint_empty _ _ _).mono ?_
    rintro e w' ⟨rfl, rfl⟩
    exact ⟨_, _, rfl, Or.inr (Or.inr rfl), Below.refl _ _⟩
  · rcases byte_bool ((t[0]'(Nat.pos_of_ne_zero hne)).toNat : Int) 45 with g1 | g1
    · exact pu_sg t hne hmax 45 (Or.inr rfl) (by simpa using g1) w
    rcases byte_bool ((t[0]'(Nat.pos_of_ne_zero hne)).toNat : Int) 43 with g2 | g2
    · exact pu_sg t hne hmax 43 (Or.inl rfl) (by simpa using g2) w
    have HU : Hid (∀ w : World, Calls Tryz.prog 152 #[.string t] w fun e w' => SomeB e ∧ w = w') := uok_any t hmax hne g1 g2
    rcases byte_bool ((t[0]'(Nat.pos_of_ne_zero hne)).toNat : Int) 48 with h0 | h0
    · by_cases h3 : 3 ≤ t.size
      · rcases byte_bool (bits .or .u8 ((t[1]'(Nat.lt_of_lt_of_le (by decide) h3)).toNat : Int) 32) 98 with hb | hb
        · exact pu_w2 t _ hne hmax h0 h3 hb rfl w HU
        · rcases byte_bool (bits .or .u8 ((t[1]'(Nat.lt_of_lt_of_le (by decide) h3)).toNat : Int) 32) 111 with ho | ho
          · exact pu_w8o t _ hne hmax h0 h3 hb ho rfl w HU
          · rcases byte_bool (bits .or .u8 ((t[1]'(Nat.lt_of_lt_of_le (by decide) h3)).toNat : Int) 32) 120 with hx | hx
            · exact pu_w16 t _ hne hmax h0 h3 hb ho hx rfl w HU
            · exact pu_w8b t _ hne hmax h0 h3 hb ho hx rfl w HU
      · exact pu_w8a t _ hne hmax h0 (by omega) rfl w HU
    · exact pu_w10 t hne hmax h0 w HU

/-- ParseInt of whatever text comes to some number. -/
def PiAny : Prop := ∀ (t : ByteArray), t.size ≤ 1000 → ∀ w : World, Calls Tryz.prog 124 #[.string t, .int .i64 0, .int .i64 64] w fun e w' => ∃ n er, e = .returned (.tuple #[.int .i64 n, er]) ∧ Er er ∧ Below w.heap.size w w'
theorem pi_any : PiAny := by
  have hU := pu_any
  intro t hmax w
  by_cases hne : t.size = 0
  · have e : t = ⟨#[]⟩ := by
      apply ByteArray.ext
      exact Array.eq_empty_of_size_eq_zero hne
    subst e
    refine (Tryz.internal_strconv_ParseInt_empty _ _ _).mono ?_
    rintro e w' ⟨rfl, rfl⟩
    exact ⟨_, _, rfl, Or.inr (Or.inr rfl), Below.refl _ _⟩
  · cases q1 : (((t[0]'(Nat.pos_of_ne_zero hne)).toNat : Int) == 43)
    · cases q2 : (((t[0]'(Nat.pos_of_ne_zero hne)).toNat : Int) == 45)
      · exact pi_w hU t t hne hmax false false q1 q2 (Or.inr (Or.inr ⟨rfl, rfl, rfl⟩)) w
      · exact pi_w hU t _ hne hmax false true q1 q2 (Or.inr (Or.inl ⟨rfl, rfl, rfl⟩)) w
    · exact pi_w hU t (t.extract 1 t.size) hne hmax true _ q1 rfl (Or.inl ⟨rfl, rfl⟩) w

theorem spi_w (A : Nat → Addr) (t : ByteArray) (hmax : t.size ≤ 1000) (w : World) (hS : Sg A w) : Calls Tryz.prog 101 #[.string t, .int .i64 0, .int .i64 64] w fun e w' => ∃ n er, e = .returned (.tuple #[.int .i64 n, er]) ∧ Below w.heap.size w w' := by
  have HP : Hid PiAny := pi_any
  have HS : Hid (Sg A w) := hS
  clear hS
  go_enter Tryz.func101, Tryz.ntmps101
  go_wp2_with fail
  refine (HP.out t hmax _).mono ?_
  rintro e w1 ⟨n, er, rfl, her, hb⟩
  have S1 := HS.out.below hb
  obtain ⟨te, pe, hsy⟩ := S1.esyn
  obtain ⟨tr, pr, hrn⟩ := S1.eran
  rcases her with rfl | rfl | rfl
  · go_wp2
    go_ret2
    exact ⟨_, _, rfl, hb⟩
  · have HR : Hid (w1.cell? ⟨14, 0, none⟩ = some (.iface tr pr)) := hrn
    clear hsy hrn
    go_wp2_with fail
    refine (Tryz.strconv_toError_range _ _ _ _ _ _ (by omega) HR.out (Or.inr ⟨_, _, rfl⟩)).mono ?_
    rintro e w2 ⟨N, rfl, _, _, hb2⟩
    go_wp2
    go_ret2
    exact ⟨_, _, rfl, hb.trans (hb2.mono hb.size)⟩
  · have HR : Hid (w1.cell? ⟨13, 0, none⟩ = some (.iface te pe)) := hsy
    clear hsy hrn
    go_wp2_with fail
    refine (Tryz.strconv_toError_syntax _ _ _ _ _ _ (by omega) HR.out (Or.inr ⟨_, _, rfl⟩)).mono ?_
    rintro e w2 ⟨N, rfl, _, _, hb2⟩
    go_wp2
    go_ret2
    exact ⟨_, _, rfl, hb.trans (hb2.mono hb.size)⟩

theorem number_w (A : Nat → Addr) (L : List UInt8) (hmax : L.length ≤ 1000) (w : World) (hS : Sg A w) : Calls Tryz.prog 69 #[.string ⟨L.toArray⟩] w fun e w' => ∃ n, e = .returned (.int .i64 n) ∧ Below w.heap.size w w' := by
  have HS : Hid (Sg A w) := hS
  have hl := Lib.trimPrefix_le L [120]
  obtain ⟨M, hM⟩ : ∃ M, Lib.trimPrefix L [120] = M := ⟨_, rfl⟩
  rw [hM] at hl
  have HM : Hid (Lib.trimPrefix L [120] = M) := hM
  clear hM hS
  go_enter Tryz.func69, Tryz.ntmps69
  go_wp2_with (first
    | (go_at_call 66; refine (Tryz.strings_TrimPrefix _ _ _).mono ?_; rintro e w' ⟨rfl, rfl⟩; rw [show Lib.trimPrefix _ _ = M from HM.out]))
  refine (spi_w A ⟨M.toArray⟩ (by show M.toArray.size ≤ 1000; simp; omega) _ HS.out).mono ?_
  rintro e w1 ⟨n, er, rfl, hm⟩
  go_wp2
  go_ret
  exact ⟨_, rfl, hm⟩
end Go.Proofs.YtbndaiombnikfaaGreatDoor

/- read of what Print writes. -/
namespace Go.Proofs.YtbndaiombnikfaaGreatDoor
open Go.ChangeShapes Go.WideShapes Go.ChangeAt Go.RowKit
set_option linter.unusedVariables false
set_option linter.unusedSimpArgs false

set_option maxRecDepth 1000000 in
set_option maxHeartbeats 3200000 in
theorem read_text (A : Nat → Addr) (i : W.I) (txt hdn hda nml rest F : List UInt8) (fnd : Bool) (w : World) (hS : Sg A w) (hlen : txt.length ≤ 1000) (hlen2 : hdn.length ≤ 1000) (hlen3 : hda.length ≤ 1000)
    (HC : Hid (Lib.cut txt [32] = (hdn, rest, fnd))) (H1 : Hid (Lib.trimSuffix hdn [46, 114, 108] = hda)) (H2 : Hid (Lib.hasSuffix hdn [46, 114, 108] = i.rl)) (H3 : Hid (Lib.trimSuffix hda [46, 97, 113] = nml)) (H4 : Hid (Lib.hasSuffix hda [46, 97, 113] = i.aq)) (H5 : Hid (max 0 (W.fidx nml 0 70) = i.op)) (H6 : Hid (W.form i.op = F)) (HR : Hid (W.InR i)) (HO : Hid (W.okForm F = true)) (HQ : Hid (∀ pos (h : pos < F.length), W.btw F[pos].toNat = false → F.drop (pos + 1) = [] ∨ ∃ c t, F.drop (pos + 1) = c :: t ∧ W.btw c.toNat = true)) (HP : W.putAll i ⟨i.op, 0, 0, 0, 0, 0, i.aq, i.rl⟩ F = i) (HE : 0 < F.length → W.restL i F = rest) :
    Calls Tryz.prog 35 #[.string ⟨txt.toArray⟩] w fun e w' => e = .returned (inV i) ∧ Below w.heap.size w w' := by
  have HS : Hid (Sg A w) := hS
  obtain ⟨mx, hmx⟩ := hS.maxl
  have HM : Hid (∀ o p, ((w.alloc o).alloc p).cell? ⟨5, 0, none⟩ = some (.int .i64 mx)) := (fun o p => ((((Below.refl w.heap.size w).alloc (Nat.le_refl _) o).alloc (by simp) p).cell (World.block_lt_of_cell? _ _ hmx)).trans hmx : ∀ o p, _)
  clear hS hmx
  go_enter Tryz.func35, Tryz.ntmps35
  go_wp2_with (first
    | (go_at_call 63; refine (Tryz.strings_Cut _ _ mx _ (by show txt.toArray.size < _; simp; omega) (HM.out _ _)).mono ?_; rintro e w' ⟨rfl, nd, rfl⟩; rw [show Lib.cut _ _ = (hdn, rest, fnd) from HC.out])
    | (go_at_call_of 64 (Value.string ⟨hdn.toArray⟩); refine (Tryz.strings_CutSuffix _ _ _ (by show hdn.toArray.size ≤ _; simp; omega)).mono ?_; rintro e w' ⟨rfl, rfl⟩; rw [show Lib.trimSuffix _ _ = hda from H1.out, show Lib.hasSuffix _ _ = i.rl from H2.out])
    | (go_at_call_of 64 (Value.string ⟨hda.toArray⟩); refine (Tryz.strings_CutSuffix _ _ _ (by show hda.toArray.size ≤ _; simp; omega)).mono ?_; rintro e w' ⟨rfl, rfl⟩; rw [show Lib.trimSuffix _ _ = nml from H3.out, show Lib.hasSuffix _ _ = i.aq from H4.out])
    | (go_at_call 65; refine (op_any _ _).mono ?_; rintro e w3 ⟨rfl, hm⟩; have T3 : Hid (Rx A _ w w3) := (Rx.start HS.out _ nd i.aq i.rl).call hm; clear hm; rw [H5.out]; obtain ⟨z0, z1, z2, z3, z4, z5, z6, z7⟩ := T3.out.inst; have fz3 := T3.out.froz; have lt3 := T3.out.lt)
    | (go_at_call 55; refine (form_any _ _).mono ?_; rintro e wn ⟨rfl, hm⟩; have T4 : Hid (Rx A _ w wn) := (T3.out.setop i.op).call hm; clear hm; rw [H6.out]))
  have hlT := T4.out.lt
  clear z0 z1 z2 z3 z4 z5 z6 z7 fz3
  go_loopg [5] F.length (fun gf vr wx => ∃ (pos : Nat) (j : W.I) (R : List UInt8), vr = .string ⟨R.toArray⟩ ∧ (pos < F.length → W.restL i (F.drop pos) = R) ∧ wx.heap[wn.heap.size]? = some (.stringIter ⟨F.toArray⟩ pos) ∧ Rx A j w wx ∧ W.putAll i j (F.drop pos) = i ∧ F.length ≤ pos + gf)
  case atStart => exact ⟨0, _, rest, rfl, fun h => by simpa using HE h, World.iter_heap wn _ 0, T4.out.call ((Below.refl _ _).alloc (Nat.le_refl _) _), by simpa using HP, by omega⟩
  case round =>
    obtain ⟨pos, j, R, rfl, hR, hit, hT, hA, hfu⟩ := hrel
    clear T4 HE HP
    by_cases hp : pos < F.length
    · obtain ⟨g', rfl⟩ : ∃ g', gk = g' + 1 := ⟨gk - 1, by omega⟩
      have hR := hR hp
      have hcok : W.okC F[pos] = true := by
        have := HO.out
        simp [W.okForm] at this
        exact this.1 _ (List.getElem_mem hp)
      have hasc := okC_lo _ hcok
      have hnx : ∀ ty, (Instr.next (.pointer (some ⟨wn.heap.size, 0, none⟩)) true ty).run Tryz.prog wr = _ := fun ty => Lib.run_next_ascii_at wr wn.heap.size ⟨F.toArray⟩ pos ty hit hp hasc
      have hit2 := Lib.iterAt_heap wr wn.heap.size ⟨F.toArray⟩ pos (pos + 1) hit
      have hT2 := hT.iter hit (by omega) (pos + 1)
      have hsq := HQ.out pos hp
      rw [rest_cons i F pos hp] at hR
      rw [List.drop_eq_getElem_cons hp] at hA
      have hcp := okC_part F[pos] hcok
      obtain ⟨c, hc⟩ : ∃ c, F[pos] = c := ⟨_, rfl⟩
      have hc' : ((⟨F.toArray⟩ : ByteArray)[pos]'hp) = c := hc
      rw [hc] at hA hR hcok hasc hcp hsq
      rw [hc'] at hnx
      obtain ⟨R', hR'⟩ : ∃ R', W.restL i (F.drop (pos + 1)) = R' := ⟨_, rfl⟩
      rw [hR'] at hR
      obtain ⟨W1, hW⟩ : ∃ W1, wr.iterAt wn.heap.size ⟨F.toArray⟩ (pos + 1) = W1 := ⟨_, rfl⟩
      rw [hW] at hnx hit2 hT2
      have HT2 : Hid (Rx A j w W1) := hT2
      have HI2 : Hid (W1.heap[wn.heap.size]? = some (.stringIter ⟨F.toArray⟩ (pos + 1))) := hit2
      have hen := enc_lo c hasc
      clear hT2 hit2 hT hit
      cases hb : W.btw c.toNat
      · rw [hb, cond_false] at hR
        have hcc := hcp hb
        obtain ⟨P, hP⟩ : ∃ P, W.partL i c.toNat = P := ⟨_, rfl⟩
        have hpl : plainL P := hP ▸ part_plain i c.toNat hcc
        rw [hP] at hR
        have HPe : Hid (W.pend R = (P.length : Int)) := by
          have : W.pend R = (P.length : Int) := by
            rw [← hR]
            rcases hsq hb with he | ⟨c', t', he, hb'⟩
            · have e : R' = [] := by rw [← hR', he]; rfl
              rw [e, List.append_nil]
              exact pend_end P hpl
            · have hm' : W.okC c' = true := by
                have := HO.out
                simp [W.okForm] at this
                exact this.1 _ (List.mem_of_mem_drop (by rw [he]; simp))
              have e : ∃ t, R' = c' :: t := by rw [← hR', he]; simp [W.restL, hb']
              obtain ⟨t, e⟩ := e
              rw [e]
              exact pend_at P c' t hpl (okC_lo _ hm') hb'
          exact this
        have hle : (P.length : Int) ≤ (R.length : Int) := by rw [← hR]; simp; omega
        have hp0 : (0 : Int) ≤ (P.length : Int) := by omega
        have hx1 : (⟨R.toArray⟩ : ByteArray).extract 0 P.length = ⟨P.toArray⟩ := by
          rw [ba_extract, ← hR]
          simp
        have hx2 : (⟨R.toArray⟩ : ByteArray).extract P.length R.length = ⟨R'.toArray⟩ := by
          rw [ba_extract, ← hR]
          simp
        have HNm : Hid (∀ w : World, Calls Tryz.prog 69 #[.string ⟨P.toArray⟩] w fun e w' => e = .returned (.int .i64 (W.partV i c.toNat)) ∧ Below w.heap.size w w') := (fun w => hP ▸ number_part i HR.out c.toNat hcc w : ∀ w : World, _)
        have HA : Hid (W.putAll i (W.putI j c.toNat (W.partV i c.toNat)) (F.drop (pos + 1)) = i) := by
          have h := hA
          simp only [W.putAll, hb, cond_false] at h
          exact h
        generalize W.partV i c.toNat = n at HNm HA
        clear hA hsq hpl
        go_wp2_with (first
          | (go_at_call 57; refine (between_any c.toNat _).mono ?_; rintro e wa ⟨rfl, hm⟩; rw [hb]; have T3 : Hid (Rx A j w wa) := HT2.out.call hm; have I3 : Hid (wa.heap[wn.heap.size]? = some (.stringIter ⟨F.toArray⟩ (pos + 1))) := (hm.block _ (Array.getElem?_eq_some_iff.1 HI2.out).1).trans HI2.out; clear hm)
          | (go_at_call 67; refine (partEnd_any _ _).mono ?_; rintro e wb ⟨rfl, hm⟩; rw [HPe.out]; have T4 : Hid (Rx A j w wb) := T3.out.call hm; have I4 : Hid (wb.heap[wn.heap.size]? = some (.stringIter ⟨F.toArray⟩ (pos + 1))) := (hm.block _ (Array.getElem?_eq_some_iff.1 I3.out).1).trans I3.out; clear hm)
          | (go_at_call 69; refine (HNm.out _).mono ?_; rintro e wc ⟨rfl, hm⟩; have T5 : Hid (Rx A j w wc) := T4.out.call hm; have I5 : Hid (wc.heap[wn.heap.size]? = some (.stringIter ⟨F.toArray⟩ (pos + 1))) := (hm.block _ (Array.getElem?_eq_some_iff.1 I4.out).1).trans I4.out; clear hm)
          | (go_at_call 68; refine (put_any (w.heap.size + 1) j c.toNat hcc n _ T5.out.inst T5.out.froz).mono ?_; rintro e wd ⟨rfl, hi6, hf6, hm, ho6⟩; have T6 : Hid (Rx A (W.putI j c.toNat n) w wd) := T5.out.put hi6 hf6 hm; have I6 : Hid (wd.heap[wn.heap.size]? = some (.stringIter ⟨F.toArray⟩ (pos + 1))) := (ho6 _ (by omega)).trans I5.out; clear hi6 hf6 hm ho6))
        go_roundg g'
        case measure => omega
        case rel => exact ⟨pos + 1, W.putI j c.toNat n, R', rfl, fun _ => hR', I6.out, T6.out, HA.out, by omega⟩
      · rw [hb, cond_true] at hR
        have HTr : Hid (Lib.trimPrefix R [c] = R') := by
          have : Lib.trimPrefix R [c] = R' := by rw [← hR]; simp [Lib.trimPrefix, Lib.hasPrefix, List.isPrefixOf]
          exact this
        go_wp2_with (first
          | (go_at_call 57; refine (between_any c.toNat _).mono ?_; rintro e wa ⟨rfl, hm⟩; rw [hb]; have T3 : Hid (Rx A j w wa) := HT2.out.call hm; have I3 : Hid (wa.heap[wn.heap.size]? = some (.stringIter ⟨F.toArray⟩ (pos + 1))) := (hm.block _ (Array.getElem?_eq_some_iff.1 HI2.out).1).trans HI2.out; clear hm; have lt3' := T3.out.lt)
          | (go_at_call 66; refine (Tryz.strings_TrimPrefix _ _ _).mono ?_; rintro e w' ⟨rfl, rfl⟩; rw [show Lib.trimPrefix _ _ = R' from HTr.out]))
        go_roundg g'
        case measure => omega
        case rel => exact ⟨pos + 1, j, R', rfl, fun _ => hR', I3.out, T3.out, by have h := hA; simp only [W.putAll, hb, cond_true] at h; exact h, by omega⟩
    · have hnx : ∀ ty, (Instr.next (.pointer (some ⟨wn.heap.size, 0, none⟩)) true ty).run Tryz.prog wr = _ := fun ty => Lib.run_next_end_at wr wn.heap.size ⟨F.toArray⟩ pos ty hit hp
      rw [List.drop_eq_nil_of_le (by omega)] at hA
      have hji : j = i := hA
      subst hji
      have HTe : Hid (Rx A j w wr) := hT
      have hltw := hT.lt
      obtain ⟨z0, z1, z2, z3, z4, z5, z6, z7⟩ := hT.inst
      obtain ⟨v0, v1, v2, v3, v4, v5, v6, v7, r0, r1, r2, r3, r4, r5, r6, r7, r8⟩ := hT.room.eight
      clear hT
      go_wp2
      refine bodyPost_ret (v := inV j) ?_ rfl ⟨rfl, ?_⟩
      · simp [results, Tryz.results35, go_sem, inV, r0, r1, r2, r3, r4, r5, r6, r7]
      · exact (((((((((HTe.out.bel.setCell (Nat.le_refl _) _).setCell (Nat.le_refl _) _).setCell (Nat.le_refl _) _).setCell (Nat.le_refl _) _).setCell (Nat.le_refl _) _).setCell (Nat.le_refl _) _).setCell (Nat.le_refl _) _).setCell (Nat.le_refl _) _))
end Go.Proofs.YtbndaiombnikfaaGreatDoor

/- read and Parse of a text that Print writes. -/
namespace Go.Proofs.YtbndaiombnikfaaGreatDoor
open Go.ChangeShapes Go.WideShapes Go.ChangeAt Go.RowKit
set_option linter.unusedVariables false
set_option linter.unusedSimpArgs false

namespace W
/-- Behind a part stands a letter between parts, or nothing. -/
def okSeq : List UInt8 → Bool
  | [] => true
  | [_] => true
  | a :: b :: r => (btw a.toNat || btw b.toNat) && okSeq (b :: r)
theorem seqsOk : ((List.range 70).all fun k => okSeq (form ((k : Nat) : Int))) = true := by decide +kernel
theorem okSeq_at : ∀ (F : List UInt8), okSeq F = true → ∀ pos (h : pos < F.length), btw F[pos].toNat = false → F.drop (pos + 1) = [] ∨ ∃ c t, F.drop (pos + 1) = c :: t ∧ btw c.toNat = true
  | [], _, pos, h, _ => absurd h (by simp)
  | [a], _, pos, h, hb => by
    left
    simp at h
    subst h
    rfl
  | a :: b :: r, hs, 0, h, hb => by
    right
    rw [okSeq, Bool.and_eq_true, Bool.or_eq_true] at hs
    have hb' : btw a.toNat = false := hb
    rcases hs.1 with h1 | h1
    · rw [hb'] at h1; cases h1
    · exact ⟨b, r, rfl, h1⟩
  | a :: b :: r, hs, pos + 1, h, hb => by
    rw [okSeq, Bool.and_eq_true] at hs
    exact okSeq_at (b :: r) hs.2 pos (by simpa using h) (by simpa using hb)
theorem head_at (k : Nat) (k1 : 1 ≤ k) (k2 : k ≤ 69) (aq rl : Bool) : (∀ c ∈ nameAt k ++ (bif aq then [46, 97, 113] else []) ++ (bif rl then [46, 114, 108] else []), c ≠ 32) ∧ Lib.trimSuffix (nameAt k ++ (bif aq then [46, 97, 113] else []) ++ (bif rl then [46, 114, 108] else [])) [46, 114, 108] = nameAt k ++ (bif aq then [46, 97, 113] else []) ∧ Lib.hasSuffix (nameAt k ++ (bif aq then [46, 97, 113] else []) ++ (bif rl then [46, 114, 108] else [])) [46, 114, 108] = rl ∧ Lib.trimSuffix (nameAt k ++ (bif aq then [46, 97, 113] else [])) [46, 97, 113] = nameAt k ∧ Lib.hasSuffix (nameAt k ++ (bif aq then [46, 97, 113] else [])) [46, 97, 113] = aq ∧ fidx (nameAt k) 0 70 = (k : Int) := by
  have h := List.all_eq_true.1 headsOk k (List.mem_range.2 (by omega))
  have hk0 : (k == 0) = false := by simp; omega
  rw [hk0, Bool.false_or, headOk] at h
  have h := List.all_eq_true.1 (List.all_eq_true.1 h aq (by cases aq <;> simp)) rl (by cases rl <;> simp)
  simp only [Bool.and_eq_true, beq_iff_eq, Bool.not_eq_true'] at h
  obtain ⟨⟨⟨⟨⟨a, b⟩, c⟩, d⟩, e⟩, f⟩ := h
  refine ⟨fun x hx hx2 => ?_, b, c, d, e, f⟩
  rw [hx2] at hx
  rw [← List.contains_iff_mem, a] at hx
  cases hx
end W

theorem read_ok (A : Nat → Addr) (i : W.I) (m0 : 0 ≤ i.imm) (m1 : i.imm < 4294967296) (he : W.encE i = 0) (hlen : (W.textL i).length ≤ 1000) (w : World) (hS : Sg A w) : Calls Tryz.prog 35 #[.string ⟨(W.textL i).toArray⟩] w fun e w' => e = .returned (inV i) ∧ Below w.heap.size w w' := by
  obtain ⟨h1, h2, h3, h4⟩ := W.encE_zero he
  obtain ⟨k, ho, k1, k2⟩ := W.known_nat h1
  have hr := W.inR_of h3
  obtain ⟨a, b, c, d, e, f⟩ := W.head_at k k1 k2 i.aq i.rl
  have hnm : W.nm i.op = W.nameAt k := by rw [W.nm, h1, ho]; rfl
  have hsq := List.all_eq_true.1 W.seqsOk k (List.mem_range.2 (by omega))
  rw [← ho] at hsq
  have hnl := nm_len i.op
  rw [hnm] at hnl
  have hq : ∀ x : Bool, (bif x then ([46, 97, 113] : List UInt8) else []).length ≤ 3 := fun x => by cases x <;> decide
  have hq2 : ∀ x : Bool, (bif x then ([46, 114, 108] : List UInt8) else []).length ≤ 3 := fun x => by cases x <;> decide
  have hq1 := hq i.aq
  have hq3 := hq2 i.rl
  have htx : W.textL i = (W.nameAt k ++ (bif i.aq then [46, 97, 113] else []) ++ (bif i.rl then [46, 114, 108] else [])) ++ (W.spL (W.form i.op) ++ W.restL i (W.form i.op)) := by
    rw [W.textL, hnm, W.aqL, W.rlL]
    simp
  have hcut : ∃ fnd, Lib.cut (W.textL i) [32] = (W.nameAt k ++ (bif i.aq then [46, 97, 113] else []) ++ (bif i.rl then [46, 114, 108] else []), W.restL i (W.form i.op), fnd) := by
    rw [htx]
    cases hF : W.form i.op with
    | nil => exact ⟨false, by simpa [W.spL, W.restL] using cut_no _ a⟩
    | cons x r => exact ⟨true, cut_at _ _ a⟩
  obtain ⟨fnd, hcut⟩ := hcut
  exact read_text A i (W.textL i) _ _ _ _ _ fnd w hS hlen (by simp; omega) (by simp; omega) hcut b c d e (by show max 0 (W.fidx (W.nameAt k) 0 70) = i.op; rw [f, ho]; omega) rfl hr (W.form_ok i.op) (W.okSeq_at _ hsq) (W.put_form i m0 m1 he) (fun _ => rfl)
end Go.Proofs.YtbndaiombnikfaaGreatDoor
