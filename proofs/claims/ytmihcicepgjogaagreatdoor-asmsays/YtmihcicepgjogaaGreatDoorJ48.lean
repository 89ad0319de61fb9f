/- Texts in one: AsmK8a, AsmKn, AsmKr. -/
import Derived.Test.YtmihcicepgjogaaGreatDoorJ27
import Derived.Test.YtmihcicepgjogaaGreatDoorJ28
import Derived.Test.YtmihcicepgjogaaGreatDoorJ41
import Derived.Test.YtmihcicepgjogaaGreatDoorJ42
import Derived.Test.YtmihcicepgjogaaGreatDoorJ43
import Derived.Test.YtmihcicepgjogaaGreatDoorJ44
import Derived.Test.YtmihcicepgjogaaGreatDoorJ45
import Derived.Test.YtmihcicepgjogaaGreatDoorJ46
import Derived.Test.YtmihcicepgjogaaGreatDoorJ47
/- Numbers read, of whatever text that begins with 0: some number (w8a). -/
namespace Go.Proofs.YtmihcicepgjogaaGreatDoor
open Go.ChangeShapes Go.WideShapes Go.ChangeAt Go.RowKit
set_option linter.unusedVariables false
set_option linter.unusedSimpArgs false

set_option maxRecDepth 1000000 in
set_option maxHeartbeats 12800000 in
theorem pu_w8a (q t : ByteArray) (hne : q.size ≠ 0) (hmax : q.size ≤ 1000) (h0 : (((q[0]'(Nat.pos_of_ne_zero hne)).toNat : Int) == 48) = true) (h3 : q.size < 3) (hT : q.extract 1 q.size = t) (w : World)
    (HU : Hid (∀ w : World, Calls Tryz.prog 152 #[.string q] w fun e w' => SomeB e ∧ w = w')) : Calls Tryz.prog 142 #[.string q, .int .i64 0, .int .i64 64] w fun e w' => ∃ n er, e = .returned (.tuple #[.int .u64 n, er]) ∧ Er er ∧ Below w.heap.size w w' := by
  have hemp : q.toList.isEmpty = false := by
    rw [← decide_eq_emptyBytes]
    exact decide_eq_false (fun h => hne (by rw [h]; rfl))
  have i0 : (0 : Int) < (q.size : Int) := by omega
  have hmt : t.size ≤ 1000 := by rw [← hT]; simp; omega
  have j3 : (q.size : Int) < 3 := by omega
  have hcv := Lib.run_convert_string_bytes (P := Tryz.prog) w 9 54 5 t (u := .string) Tryz.underlying9 Tryz.underlying54 Tryz.underlying5
  have hB : ∀ j, j < t.size → (Lib.bytesWorld w 5 t).cell? ⟨w.heap.size, j, none⟩ = some (.int .u8 (t.data.toList.getD j 0).toNat) := fun j hj => Lib.bytesWorld_cell w 5 t j hj
  have hbw := bytesWorld_below w 5 t
  obtain ⟨W1, hW1⟩ : ∃ W1, W1 = Lib.bytesWorld w 5 t := ⟨_, rfl⟩
  rw [← hW1] at hcv hB hbw
  clear hW1
  have hmv : IntKind.u64.wrap (IntKind.u64.wrap 18446744073709551616 - 1) = 18446744073709551615 := by
    rw [IntKind.wrap_u64, IntKind.wrap_u64]
    decide
  go_enter Tryz.func142, Tryz.ntmps142
  go_wp2_with (go_at_call 151; refine (Tryz.internal_strconv_lower _ _).mono ?_; rintro e w' ⟨rfl, rfl⟩)
  go_loop [12, 13, 101] (fun vu vn vi => ∃ (k : Nat) (a : Int) (u : Bool), vu = .bool u ∧ vn = .int .u64 a ∧ vi = .int .i64 k ∧ k ≤ t.size)
    (fun _ _ vi => t.size - (intOf vi).toNat)
  case atStart => exact ⟨0, 0, false, rfl, rfl, rfl, by omega⟩
  case round =>
    obtain ⟨k, a, u, rfl, rfl, rfl, hk⟩ := hrel
    by_cases hkn : k < t.size
    · have hc := hB k hkn
      generalize t.data.toList.getD k 0 = c at hc
      clear hB
      go_wp2_with (go_at_call 151; refine (Tryz.internal_strconv_lower _ _).mono ?_; rintro e w' ⟨rfl, rfl⟩)
      all_goals first
        | exact ⟨⟨k + 1, _, _, rfl, rfl, by go_num, by omega⟩, by simp [intOf]; omega⟩
        | (refine bodyPost_ret (v := .tuple #[.int .u64 0, .iface 177 (.int .i64 2)]) ?_ rfl ⟨_, _, rfl, Or.inr (Or.inr rfl), hbw⟩; (simp [results, Tryz.results142, go_sem]; done))
        | (refine bodyPost_ret (v := .tuple #[.int .u64 18446744073709551615, .iface 177 (.int .i64 1)]) ?_ rfl ⟨_, _, rfl, Or.inr (Or.inl rfl), hbw⟩; (simp [results, Tryz.results142, go_sem]; done))
    · have hkk : k = t.size := by omega
      subst hkk
      clear hB
      cases u
      · go_wp2
        exact bodyPost_ret (v := .tuple #[.int .u64 a, .nilIface]) (by simp [results, Tryz.results142, go_sem]) rfl ⟨_, _, rfl, Or.inl rfl, hbw⟩
      · go_wp2_with (go_at_call 152; refine (HU.out _).mono ?_; rintro e w' ⟨⟨r, rfl⟩, rfl⟩)
        all_goals first
          | (refine bodyPost_ret (v := .tuple #[.int .u64 a, .nilIface]) ?_ rfl ⟨_, _, rfl, Or.inl rfl, hbw⟩; (simp [results, Tryz.results142, go_sem]; done))
          | (refine bodyPost_ret (v := .tuple #[.int .u64 0, .iface 177 (.int .i64 2)]) ?_ rfl ⟨_, _, rfl, Or.inr (Or.inr rfl), hbw⟩; (simp [results, Tryz.results142, go_sem]; done))
end Go.Proofs.YtmihcicepgjogaaGreatDoor

/- Any text's number: some number. -/
namespace Go.Proofs.YtmihcicepgjogaaGreatDoor
open Go.ChangeShapes Go.WideShapes Go.ChangeAt Go.RowKit
set_option linter.unusedVariables false
set_option linter.unusedSimpArgs false

theorem byte_bool (x : Int) (k : Int) : (x == k) = true ∨ (x == k) = false := by cases (x == k) <;> simp

theorem uok_any (t : ByteArray) (hmax : t.size ≤ 1000) (hne : t.size ≠ 0) (h45 : (((t[0]'(Nat.pos_of_ne_zero hne)).toNat : Int) == 45) = false) (h43 : (((t[0]'(Nat.pos_of_ne_zero hne)).toNat : Int) == 43) = false) (w : World) : Calls Tryz.prog 152 #[.string t] w fun e w' => SomeB e ∧ w = w' := by
  by_cases h2 : 2 ≤ t.size
  · rcases byte_bool ((t[0]'(Nat.pos_of_ne_zero hne)).toNat : Int) 48 with c0 | c0
    · cases hb : (bits .or .u8 ((t[1]'(Nat.lt_of_lt_of_le (by decide) h2)).toNat : Int) 32 == 98)
      · cases ho : (bits .or .u8 ((t[1]'(Nat.lt_of_lt_of_le (by decide) h2)).toNat : Int) 32 == 111)
        · cases hx : (bits .or .u8 ((t[1]'(Nat.lt_of_lt_of_le (by decide) h2)).toNat : Int) 32 == 120)
          · exact uok_n t hmax hne h45 h43 h2 c0 hb ho hx w
          · exact uok_x t hmax hne h45 h43 h2 c0 hb ho hx w
        · have e : bits .or .u8 ((t[1]'(Nat.lt_of_lt_of_le (by decide) h2)).toNat : Int) 32 = 111 := by simpa using ho
          exact uok_o t hmax hne h45 h43 h2 c0 hb ho (by rw [e]; rfl) w
      · have e : bits .or .u8 ((t[1]'(Nat.lt_of_lt_of_le (by decide) h2)).toNat : Int) 32 = 98 := by simpa using hb
        exact uok_b t hmax hne h45 h43 h2 c0 hb (by rw [e]; rfl) (by rw [e]; rfl) w
    · exact uok_not t hmax hne h45 h43 h2 c0 w
  · exact uok_one t hmax hne h45 h43 (by omega) w

/-- ParseUint of whatever text. -/
theorem pu_any : PuAny := by
  intro t hmax w
  by_cases hne : t.size = 0
  · have e : t = ⟨#[]⟩ := by
      apply ByteArray.ext
      exact Array.eq_empty_of_size_eq_zero hne
    subst e
    refine (Tryz.internal_strconv_ParseUint_empty _ _ _).mono ?_
    rintro e w' ⟨rfl, rfl⟩
    exact ⟨_, _, rfl, Or.inr (Or.inr rfl), Below.refl _ _⟩
  · rcases byte_bool ((t[0]'(Nat.pos_of_ne_zero hne)).toNat : Int) 45 with g1 | g1
    · exact pu_sg t hne hmax 45 (Or.inr rfl) (by simpa using g1) w
    rcases byte_bool ((t[0]'(Nat.pos_of_ne_zero hne)).toNat : Int) 43 with g2 | g2
    · exact pu_sg t hne hmax 43 (Or.inl rfl) (by simpa using g2) w
    have HU : Hid (∀ w : World, Calls Tryz.prog 152 #[.string t] w fun e w' => SomeB e ∧ w = w') := uok_any t hmax hne g1 g2
    rcases byte_bool ((t[0]'(Nat.pos_of_ne_zero hne)).toNat : Int) 48 with h0 | h0
    · by_cases h3 : 3 ≤ t.size
      · rcases byte_bool (bits .or .u8 ((t[1]'(Nat.lt_of_lt_of_le (by decide) h3)).toNat : Int) 32) 98 with hb | hb
        · exact pu_w2 t _ hne hmax h0 h3 hb rfl w HU
        · rcases byte_bool (bits .or .u8 ((t[1]'(Nat.lt_of_lt_of_le (by decide) h3)).toNat : Int) 32) 111 with ho | ho
          · exact pu_w8o t _ hne hmax h0 h3 hb ho rfl w HU
          · rcases byte_bool (bits .or .u8 ((t[1]'(Nat.lt_of_lt_of_le (by decide) h3)).toNat : Int) 32) 120 with hx | hx
            · exact pu_w16 t _ hne hmax h0 h3 hb ho hx rfl w HU
            · exact pu_w8b t _ hne hmax h0 h3 hb ho hx rfl w HU
      · exact pu_w8a t _ hne hmax h0 (by omega) rfl w HU
    · exact pu_w10 t hne hmax h0 w HU

/-- ParseInt of whatever text comes to some number. -/
def PiAny : Prop := ∀ (t : ByteArray), t.size ≤ 1000 → ∀ w : World, Calls Tryz.prog 124 #[.string t, .int .i64 0, .int .i64 64] w fun e w' => ∃ n er, e = .returned (.tuple #[.int .i64 n, er]) ∧ Er er ∧ Below w.heap.size w w'
theorem pi_any : PiAny := by
  have hU := pu_any
  intro t hmax w
  by_cases hne : t.size = 0
  · have e : t = ⟨#[]⟩ := by
      apply ByteArray.ext
      exact Array.eq_empty_of_size_eq_zero hne
    subst e
    refine (Tryz.internal_strconv_ParseInt_empty _ _ _).mono ?_
    rintro e w' ⟨rfl, rfl⟩
    exact ⟨_, _, rfl, Or.inr (Or.inr rfl), Below.refl _ _⟩
  · cases q1 : (((t[0]'(Nat.pos_of_ne_zero hne)).toNat : Int) == 43)
    · cases q2 : (((t[0]'(Nat.pos_of_ne_zero hne)).toNat : Int) == 45)
      · exact pi_w hU t t hne hmax false false q1 q2 (Or.inr (Or.inr ⟨rfl, rfl, rfl⟩)) w
      · exact pi_w hU t _ hne hmax false true q1 q2 (Or.inr (Or.inl ⟨rfl, rfl, rfl⟩)) w
    · exact pi_w hU t (t.extract 1 t.size) hne hmax true _ q1 rfl (Or.inl ⟨rfl, rfl⟩) w

theorem spi_w (A : Nat → Addr) (t : ByteArray) (hmax : t.size ≤ 1000) (w : World) (hS : Sg A w) : Calls Tryz.prog 101 #[.string t, .int .i64 0, .int .i64 64] w fun e w' => ∃ n er, e = .returned (.tuple #[.int .i64 n, er]) ∧ Below w.heap.size w w' := by
  have HP : Hid PiAny := pi_any
  have HS : Hid (Sg A w) := hS
  clear hS
  go_enter Tryz.func101, Tryz.ntmps101
  go_wp2_with fail
  refine (HP.out t hmax _).mono ?_
  rintro e w1 ⟨n, er, rfl, her, hb⟩
  have S1 := HS.out.below hb
  obtain ⟨te, pe, hsy⟩ := S1.esyn
  obtain ⟨tr, pr, hrn⟩ := S1.eran
  rcases her with rfl | rfl | rfl
  · go_wp2
    go_ret2
    exact ⟨_, _, rfl, hb⟩
  · have HR : Hid (w1.cell? ⟨14, 0, none⟩ = some (.iface tr pr)) := hrn
    clear hsy hrn
    go_wp2_with fail
    refine (Tryz.strconv_toError_range _ _ _ _ _ _ (by omega) HR.out (Or.inr ⟨_, _, rfl⟩)).mono ?_
    rintro e w2 ⟨N, rfl, _, _, hb2⟩
    go_wp2
    go_ret2
    exact ⟨_, _, rfl, hb.trans (hb2.mono hb.size)⟩
  · have HR : Hid (w1.cell? ⟨13, 0, none⟩ = some (.iface te pe)) := hsy
    clear hsy hrn
    go_wp2_with fail
    refine (Tryz.strconv_toError_syntax _ _ _ _ _ _ (by omega) HR.out (Or.inr ⟨_, _, rfl⟩)).mono ?_
    rintro e w2 ⟨N, rfl, _, _, hb2⟩
    go_wp2
    go_ret2
    exact ⟨_, _, rfl, hb.trans (hb2.mono hb.size)⟩

theorem number_w (A : Nat → Addr) (L : List UInt8) (hmax : L.length ≤ 1000) (w : World) (hS : Sg A w) : Calls Tryz.prog 69 #[.string ⟨L.toArray⟩] w fun e w' => ∃ n, e = .returned (.int .i64 n) ∧ Below w.heap.size w w' := by
  have HS : Hid (Sg A w) := hS
  have hl := Lib.trimPrefix_le L [120]
  obtain ⟨M, hM⟩ : ∃ M, Lib.trimPrefix L [120] = M := ⟨_, rfl⟩
  rw [hM] at hl
  have HM : Hid (Lib.trimPrefix L [120] = M) := hM
  clear hM hS
  go_enter Tryz.func69, Tryz.ntmps69
  go_wp2_with (first
    | (go_at_call 66; refine (Tryz.strings_TrimPrefix _ _ _).mono ?_; rintro e w' ⟨rfl, rfl⟩; rw [show Lib.trimPrefix _ _ = M from HM.out]))
  refine (spi_w A ⟨M.toArray⟩ (by show M.toArray.size ≤ 1000; simp; omega) _ HS.out).mono ?_
  rintro e w1 ⟨n, er, rfl, hm⟩
  go_wp2
  go_ret
  exact ⟨_, rfl, hm⟩
end Go.Proofs.YtmihcicepgjogaaGreatDoor

/- read of whatever text: some instruction. -/
namespace Go.Proofs.YtmihcicepgjogaaGreatDoor
open Go.ChangeShapes Go.WideShapes Go.ChangeAt Go.RowKit
set_option linter.unusedVariables false
set_option linter.unusedSimpArgs false

theorem cut_le (s p : List UInt8) (a b : List UInt8) (c : Bool) (h : Lib.cut s p = (a, b, c)) : a.length ≤ s.length ∧ b.length ≤ s.length := by
  unfold Lib.cut at h
  split at h
  · cases h
    simp
    omega
  · cases h
    simp
theorem pend_in (L : List UInt8) : 0 ≤ W.pend L ∧ W.pend L ≤ L.length := by
  have := Lib.idxFunc_range W.btw true ⟨L.toArray⟩
  have hs : (⟨L.toArray⟩ : ByteArray).size = L.length := by show L.toArray.size = _; simp
  rw [hs] at this
  unfold W.pend
  cases hd : decide (0 ≤ Lib.idxFunc W.btw true ⟨L.toArray⟩)
  · rw [cond_false]; omega
  · rw [cond_true]; have : 0 ≤ Lib.idxFunc W.btw true ⟨L.toArray⟩ := of_decide_eq_true hd
    omega
theorem putI_imm (j : W.I) (c : Nat) (n : Int) (h : 0 ≤ j.imm ∧ j.imm < 4294967296) : 0 ≤ (W.putI j c n).imm ∧ (W.putI j c n).imm < 4294967296 := by
  unfold W.putI
  cases c == 100; case true => exact h
  cases c == 49; case true => exact h
  cases c == 50; case true => exact h
  cases c == 99; case true => exact h
  cases c == 105; case true => exact ⟨Int.emod_nonneg _ (by decide), Int.emod_lt_of_pos _ (by decide)⟩
  cases c == 117; case true => exact W.left_lt _ _
  cases c == 112; case true => exact W.left_lt _ _
  cases c == 115; case true => exact W.or_lt _ _
  exact h

set_option maxRecDepth 1000000 in
set_option maxHeartbeats 3200000 in
theorem read_w (A : Nat → Addr) (txt : List UInt8) (w : World) (hS : Sg A w) (hlen : txt.length ≤ 1000) :
    Calls Tryz.prog 35 #[.string ⟨txt.toArray⟩] w fun e w' => ∃ i, e = .returned (inV i) ∧ (0 ≤ i.imm ∧ i.imm < 4294967296) ∧ Below w.heap.size w w' := by
  obtain ⟨hdn, rest, fnd, hC⟩ : ∃ a b c, Lib.cut txt [32] = (a, b, c) := ⟨_, _, _, rfl⟩
  obtain ⟨hlen2, hlr⟩ := cut_le _ _ _ _ _ hC
  obtain ⟨hda, h1⟩ : ∃ a, Lib.trimSuffix hdn [46, 114, 108] = a := ⟨_, rfl⟩
  obtain ⟨rl, h2⟩ : ∃ a, Lib.hasSuffix hdn [46, 114, 108] = a := ⟨_, rfl⟩
  have hlen3 : hda.length ≤ hdn.length := by rw [← h1]; exact Lib.trimSuffix_le _ _
  obtain ⟨nml, h3⟩ : ∃ a, Lib.trimSuffix hda [46, 97, 113] = a := ⟨_, rfl⟩
  obtain ⟨aq, h4⟩ : ∃ a, Lib.hasSuffix hda [46, 97, 113] = a := ⟨_, rfl⟩
  obtain ⟨op, h5⟩ : ∃ a, max 0 (W.fidx nml 0 70) = a := ⟨_, rfl⟩
  obtain ⟨F, h6⟩ : ∃ a, W.form op = a := ⟨_, rfl⟩
  have HO : Hid (W.okForm F = true) := by
    have := W.form_ok op
    rw [h6] at this
    exact this
  have HC : Hid (Lib.cut txt [32] = (hdn, rest, fnd)) := hC
  have H1 : Hid (Lib.trimSuffix hdn [46, 114, 108] = hda) := h1
  have H2 : Hid (Lib.hasSuffix hdn [46, 114, 108] = rl) := h2
  have H3 : Hid (Lib.trimSuffix hda [46, 97, 113] = nml) := h3
  have H4 : Hid (Lib.hasSuffix hda [46, 97, 113] = aq) := h4
  have H5 : Hid (max 0 (W.fidx nml 0 70) = op) := h5
  have H6 : Hid (W.form op = F) := h6
  clear hC h1 h2 h3 h4 h5 h6
  have HS : Hid (Sg A w) := hS
  obtain ⟨mx, hmx⟩ := hS.maxl
  have HM : Hid (∀ o p, ((w.alloc o).alloc p).cell? ⟨5, 0, none⟩ = some (.int .i64 mx)) := (fun o p => ((((Below.refl w.heap.size w).alloc (Nat.le_refl _) o).alloc (by simp) p).cell (World.block_lt_of_cell? _ _ hmx)).trans hmx : ∀ o p, _)
  clear hS hmx
  go_enter Tryz.func35, Tryz.ntmps35
  go_wp2_with (first
    | (go_at_call 63; refine (Tryz.strings_Cut _ _ mx _ (by show txt.toArray.size < _; simp; omega) (HM.out _ _)).mono ?_; rintro e w' ⟨rfl, nd, rfl⟩; rw [show Lib.cut _ _ = (hdn, rest, fnd) from HC.out])
    | (go_at_call_of 64 (Value.string ⟨hdn.toArray⟩); refine (Tryz.strings_CutSuffix _ _ _ (by show hdn.toArray.size ≤ _; simp; omega)).mono ?_; rintro e w' ⟨rfl, rfl⟩; rw [show Lib.trimSuffix _ _ = hda from H1.out, show Lib.hasSuffix _ _ = rl from H2.out])
    | (go_at_call_of 64 (Value.string ⟨hda.toArray⟩); refine (Tryz.strings_CutSuffix _ _ _ (by show hda.toArray.size ≤ _; simp; omega)).mono ?_; rintro e w' ⟨rfl, rfl⟩; rw [show Lib.trimSuffix _ _ = nml from H3.out, show Lib.hasSuffix _ _ = aq from H4.out])
    | (go_at_call 65; refine (op_any _ _).mono ?_; rintro e w3 ⟨rfl, hm⟩; have T3 : Hid (Rx A _ w w3) := (Rx.start HS.out _ nd aq rl).call hm; clear hm; rw [H5.out]; obtain ⟨z0, z1, z2, z3, z4, z5, z6, z7⟩ := T3.out.inst; have fz3 := T3.out.froz; have lt3 := T3.out.lt)
    | (go_at_call 55; refine (form_any _ _).mono ?_; rintro e wn ⟨rfl, hm⟩; have T4 : Hid (Rx A _ w wn) := (T3.out.setop op).call hm; clear hm; rw [H6.out]))
  have hlT := T4.out.lt
  clear z0 z1 z2 z3 z4 z5 z6 z7 fz3
  go_loopg [5] F.length (fun gf vr wx => ∃ (pos : Nat) (R : List UInt8) (j : W.I), vr = .string ⟨R.toArray⟩ ∧ R.length ≤ 1000 ∧ wx.heap[wn.heap.size]? = some (.stringIter ⟨F.toArray⟩ pos) ∧ Rx A j w wx ∧ (0 ≤ j.imm ∧ j.imm < 4294967296) ∧ F.length ≤ pos + gf ∧ pos ≤ F.length)
  case atStart => exact ⟨0, rest, _, rfl, by omega, World.iter_heap wn _ 0, T4.out.call ((Below.refl _ _).alloc (Nat.le_refl _) _), ⟨Int.le_refl 0, by show (0 : Int) < 4294967296; decide⟩, by omega, by omega⟩
  case round =>
    obtain ⟨pos, R, j, rfl, hRl, hit, hT, hjm, hfu, hpl'⟩ := hrel
    clear T4
    by_cases hp : pos < F.length
    · obtain ⟨g', rfl⟩ : ∃ g', gk = g' + 1 := ⟨gk - 1, by omega⟩
      have hcok : W.okC F[pos] = true := by
        have := HO.out
        simp [W.okForm] at this
        exact this.1 _ (List.getElem_mem hp)
      have hasc := okC_lo _ hcok
      have hnx : ∀ ty, (Instr.next (.pointer (some ⟨wn.heap.size, 0, none⟩)) true ty).run Tryz.prog wr = _ := fun ty => Lib.run_next_ascii_at wr wn.heap.size ⟨F.toArray⟩ pos ty hit hp hasc
      have hit2 := Lib.iterAt_heap wr wn.heap.size ⟨F.toArray⟩ pos (pos + 1) hit
      have hT2 := hT.iter hit (by omega) (pos + 1)
      have hcp := okC_part F[pos] hcok
      obtain ⟨c, hc⟩ : ∃ c, F[pos] = c := ⟨_, rfl⟩
      have hc' : ((⟨F.toArray⟩ : ByteArray)[pos]'hp) = c := hc
      rw [hc] at hcok hasc hcp
      rw [hc'] at hnx
      obtain ⟨W1, hW⟩ : ∃ W1, wr.iterAt wn.heap.size ⟨F.toArray⟩ (pos + 1) = W1 := ⟨_, rfl⟩
      rw [hW] at hnx hit2 hT2
      have HT2 : Hid (Rx A j w W1) := hT2
      have HI2 : Hid (W1.heap[wn.heap.size]? = some (.stringIter ⟨F.toArray⟩ (pos + 1))) := hit2
      have hen := enc_lo c hasc
      have HJM : Hid (0 ≤ j.imm ∧ j.imm < 4294967296) := hjm
      clear hT2 hit2 hT hit hjm
      cases hb : W.btw c.toNat
      · have hcc := hcp hb
        obtain ⟨p0, p1⟩ := pend_in R
        obtain ⟨m, hm⟩ := Int.eq_ofNat_of_zero_le p0
        have hmR : m ≤ R.length := by omega
        obtain ⟨P, hP⟩ : ∃ P, R.take m = P := ⟨_, rfl⟩
        obtain ⟨R', hR'⟩ : ∃ P, R.drop m = P := ⟨_, rfl⟩
        have hPl : P.length = m := by rw [← hP]; simp; omega
        have hRl' : R'.length ≤ 1000 := by rw [← hR']; simp; omega
        have hPl' : P.length ≤ 1000 := by omega
        have HPe : Hid (W.pend R = (m : Int)) := hm
        have hle : (m : Int) ≤ (R.length : Int) := by omega
        have hp0 : (0 : Int) ≤ (m : Int) := by omega
        have hx1 : (⟨R.toArray⟩ : ByteArray).extract 0 m = ⟨P.toArray⟩ := by
          rw [ba_extract, ← hP]
          simp
        have hx2 : (⟨R.toArray⟩ : ByteArray).extract m R.length = ⟨R'.toArray⟩ := by
          rw [ba_extract, ← hR', List.take_of_length_le (by simp)]
        clear p0 p1 hm hP hR' hPl
        go_wp2_with (first
          | (go_at_call 57; refine (between_any c.toNat _).mono ?_; rintro e wa ⟨rfl, hm⟩; rw [hb]; have T3 : Hid (Rx A j w wa) := HT2.out.call hm; have I3 : Hid (wa.heap[wn.heap.size]? = some (.stringIter ⟨F.toArray⟩ (pos + 1))) := (hm.block _ (Array.getElem?_eq_some_iff.1 HI2.out).1).trans HI2.out; clear hm)
          | (go_at_call 67; refine (partEnd_any _ _).mono ?_; rintro e wb ⟨rfl, hm⟩; rw [HPe.out]; have T4 : Hid (Rx A j w wb) := T3.out.call hm; have I4 : Hid (wb.heap[wn.heap.size]? = some (.stringIter ⟨F.toArray⟩ (pos + 1))) := (hm.block _ (Array.getElem?_eq_some_iff.1 I3.out).1).trans I3.out; clear hm)
          | (go_at_call 69; refine (number_w A P hPl' _ T4.out.sg).mono ?_; rintro e wc ⟨n, rfl, hm⟩; have T5 : Hid (Rx A j w wc) := T4.out.call hm; have I5 : Hid (wc.heap[wn.heap.size]? = some (.stringIter ⟨F.toArray⟩ (pos + 1))) := (hm.block _ (Array.getElem?_eq_some_iff.1 I4.out).1).trans I4.out; clear hm)
          | (go_at_call 68; refine (put_any (w.heap.size + 1) j c.toNat hcc n _ T5.out.inst T5.out.froz).mono ?_; rintro e wd ⟨rfl, hi6, hf6, hm, ho6⟩; have T6 : Hid (Rx A (W.putI j c.toNat n) w wd) := T5.out.put hi6 hf6 hm; have I6 : Hid (wd.heap[wn.heap.size]? = some (.stringIter ⟨F.toArray⟩ (pos + 1))) := (ho6 _ (by omega)).trans I5.out; clear hi6 hf6 hm ho6))
        go_roundg g'
        case measure => omega
        case rel => exact ⟨pos + 1, R', _, rfl, hRl', I6.out, T6.out, putI_imm _ _ _ HJM.out, by omega, by omega⟩
      · obtain ⟨R', hTr⟩ : ∃ R', Lib.trimPrefix R [c] = R' := ⟨_, rfl⟩
        have hRl' : R'.length ≤ 1000 := by rw [← hTr]; exact Nat.le_trans (Lib.trimPrefix_le _ _) hRl
        have HTr : Hid (Lib.trimPrefix R [c] = R') := hTr
        clear hTr
        go_wp2_with (first
          | (go_at_call 57; refine (between_any c.toNat _).mono ?_; rintro e wa ⟨rfl, hm⟩; rw [hb]; have T3 : Hid (Rx A j w wa) := HT2.out.call hm; have I3 : Hid (wa.heap[wn.heap.size]? = some (.stringIter ⟨F.toArray⟩ (pos + 1))) := (hm.block _ (Array.getElem?_eq_some_iff.1 HI2.out).1).trans HI2.out; clear hm; have lt3' := T3.out.lt)
          | (go_at_call 66; refine (Tryz.strings_TrimPrefix _ _ _).mono ?_; rintro e w' ⟨rfl, rfl⟩; rw [show Lib.trimPrefix _ _ = R' from HTr.out]))
        go_roundg g'
        case measure => omega
        case rel => exact ⟨pos + 1, R', _, rfl, hRl', I3.out, T3.out, HJM.out, by omega, by omega⟩
    · have hnx : ∀ ty, (Instr.next (.pointer (some ⟨wn.heap.size, 0, none⟩)) true ty).run Tryz.prog wr = _ := fun ty => Lib.run_next_end_at wr wn.heap.size ⟨F.toArray⟩ pos ty hit hp
      have HTe : Hid (Rx A j w wr) := hT
      have HJM : Hid (0 ≤ j.imm ∧ j.imm < 4294967296) := hjm
      have hltw := hT.lt
      obtain ⟨z0, z1, z2, z3, z4, z5, z6, z7⟩ := hT.inst
      obtain ⟨v0, v1, v2, v3, v4, v5, v6, v7, r0, r1, r2, r3, r4, r5, r6, r7, r8⟩ := hT.room.eight
      clear hT hjm
      go_wp2
      refine bodyPost_ret (v := inV j) ?_ rfl ⟨j, rfl, HJM.out, ?_⟩
      · simp [results, Tryz.results35, go_sem, inV, r0, r1, r2, r3, r4, r5, r6, r7]
      · exact (((((((((HTe.out.bel.setCell (Nat.le_refl _) _).setCell (Nat.le_refl _) _).setCell (Nat.le_refl _) _).setCell (Nat.le_refl _) _).setCell (Nat.le_refl _) _).setCell (Nat.le_refl _) _).setCell (Nat.le_refl _) _).setCell (Nat.le_refl _) _))

set_option maxRecDepth 1000000 in
set_option maxHeartbeats 6400000 in
/-- Parse of whatever text: the text's own instruction, or ErrWord. -/
theorem parse_w (A : Nat → Addr) (txt : List UInt8) (hlen : txt.length ≤ 1000) (w : World) (hS : Sg A w) : Calls Tryz.prog 12 #[.string ⟨txt.toArray⟩] w fun e w' => ((∃ i, e = .returned (.tuple #[inV i, .nilIface]) ∧ W.encE i = 0 ∧ (0 ≤ i.imm ∧ i.imm < 4294967296) ∧ W.textL i = txt) ∨ e = .returned (.tuple #[inV ⟨0, 0, 0, 0, 0, 0, false, false⟩, errV A 6])) ∧ Below w.heap.size w w' := by
  have HS : Hid (Sg A w) := hS
  clear hS
  go_enter Tryz.func12, Tryz.ntmps12
  go_wp2_with fail
  refine (read_w A txt _ (HS.out.below ((Below.refl _ _).alloc (Nat.le_refl _) _)) hlen).mono ?_
  rintro e w1 ⟨i, rfl, him, hm⟩
  have R1 : Hid (Room w.heap.size 8 w1) := ⟨_, _, (hm.block _ (by simp)).trans (heap_alloc_last w _), rfl⟩
  have B1 : Hid (Below w.heap.size w w1) := ((Below.refl _ _).alloc (Nat.le_refl _) _).trans (hm.mono (by simp))
  have lt1 : w.heap.size < w1.heap.size := by have := hm.size; simp at this; omega
  clear hm
  have HIM : Hid (0 ≤ i.imm ∧ i.imm < 4294967296) := him
  clear him
  cases he : W.encE i with
  | zero =>
    by_cases ht : W.textL i = txt
    · have HPr : Hid (∀ w : World, Sg A w → Calls Tryz.prog 9 #[inV i] w fun e w' => e = .returned (.tuple #[.string ⟨txt.toArray⟩, .nilIface]) ∧ Below w.heap.size w w') := fun w h => ht ▸ print_ok A i _ w h he rfl
      have HE : Hid (W.encE i = 0) := he
      have HT : Hid (W.textL i = txt) := ht
      clear he ht
      unfold inV
      go_wp2_with (go_at_call 9; refine (HPr.out _ (HS.out.below (B1.out.alloc B1.out.size _))).mono ?_; rintro e w2 ⟨rfl, hm⟩; obtain ⟨z0, z1, z2, z3, z4, z5, z6, z7⟩ := (InAt.start w1 i _).below hm; have B2 : Hid (Below w.heap.size w w2) := (B1.out.alloc B1.out.size _).trans (hm.mono (by simp; omega)); have lt2 : w1.heap.size < w2.heap.size := (by have := hm.size; simp at this; omega); obtain ⟨v0, v1, v2, v3, v4, v5, v6, v7, r0, r1, r2, r3, r4, r5, r6, r7, r8⟩ := ((R1.out.below ((Below.refl _ _).alloc (Nat.le_refl _) _) lt1).below hm (by simp; omega)).eight; clear hm)
      refine bodyPost_ret (v := .tuple #[inV i, .nilIface]) ?_ rfl ⟨Or.inl ⟨i, rfl, HE.out, HIM.out, HT.out⟩, ?_⟩
      · simp [results, Tryz.results12, go_sem, inV, r0, r1, r2, r3, r4, r5, r6, r7]
      · exact (((((((((B2.out.setCell (Nat.le_refl _) _).setCell (Nat.le_refl _) _).setCell (Nat.le_refl _) _).setCell (Nat.le_refl _) _).setCell (Nat.le_refl _) _).setCell (Nat.le_refl _) _).setCell (Nat.le_refl _) _).setCell (Nat.le_refl _) _))
    · obtain ⟨L, hL⟩ : ∃ L, W.textL i = L := ⟨_, rfl⟩
      have hne : (L == txt) = false := by rw [← hL]; simpa using ht
      have HPr : Hid (∀ w : World, Sg A w → Calls Tryz.prog 9 #[inV i] w fun e w' => e = .returned (.tuple #[.string ⟨L.toArray⟩, .nilIface]) ∧ Below w.heap.size w w') := fun w h => hL ▸ print_ok A i _ w h he rfl
      clear he ht hL
      unfold inV
      go_wp2_with (go_at_call 9; refine (HPr.out _ (HS.out.below (B1.out.alloc B1.out.size _))).mono ?_; rintro e w2 ⟨rfl, hm⟩; have B2 : Hid (Below w.heap.size w w2) := (B1.out.alloc B1.out.size _).trans (hm.mono (by simp; omega)); have lt2 : w1.heap.size < w2.heap.size := (by have := hm.size; simp at this; omega); obtain ⟨v0, v1, v2, v3, v4, v5, v6, v7, r0, r1, r2, r3, r4, r5, r6, r7, r8⟩ := ((R1.out.below ((Below.refl _ _).alloc (Nat.le_refl _) _) lt1).below hm (by simp; omega)).eight; clear hm; have c5 : w2.cell? ⟨0, 0, none⟩ = some _ := (HS.out.below B2.out).sent.cell 5 (by omega); have g5 := World.block_lt_of_cell? _ _ (HS.out.sent.cell 5 (by omega)))
      go_region
      all_goals
        go_wp2
        refine bodyPost_ret (v := .tuple #[inV ⟨0, 0, 0, 0, 0, 0, false, false⟩, errV A 6]) ?_ rfl ⟨Or.inr rfl, ?_⟩
        · simp [results, Tryz.results12, go_sem, inV, errV, r0, r1, r2, r3, r4, r5, r6, r7]
        · exact (((((((((B2.out.setCell (Nat.le_refl _) _).setCell (Nat.le_refl _) _).setCell (Nat.le_refl _) _).setCell (Nat.le_refl _) _).setCell (Nat.le_refl _) _).setCell (Nat.le_refl _) _).setCell (Nat.le_refl _) _).setCell (Nat.le_refl _) _)).drew
  | succ n =>
    have HPr : Hid (∀ w : World, Sg A w → Calls Tryz.prog 9 #[inV i] w fun e w' => e = .returned (.tuple #[.string ⟨#[]⟩, .iface 194 (.pointer (some (A n)))]) ∧ Below w.heap.size w w') := fun w h => print_no A i _ n w h he rfl
    clear he
    unfold inV
    go_wp2_with (go_at_call 9; refine (HPr.out _ (HS.out.below (B1.out.alloc B1.out.size _))).mono ?_; rintro e w2 ⟨rfl, hm⟩; have B2 : Hid (Below w.heap.size w w2) := (B1.out.alloc B1.out.size _).trans (hm.mono (by simp; omega)); have lt2 : w1.heap.size < w2.heap.size := (by have := hm.size; simp at this; omega); obtain ⟨v0, v1, v2, v3, v4, v5, v6, v7, r0, r1, r2, r3, r4, r5, r6, r7, r8⟩ := ((R1.out.below ((Below.refl _ _).alloc (Nat.le_refl _) _) lt1).below hm (by simp; omega)).eight; clear hm; have c5 : w2.cell? ⟨0, 0, none⟩ = some _ := (HS.out.below B2.out).sent.cell 5 (by omega); have g5 := World.block_lt_of_cell? _ _ (HS.out.sent.cell 5 (by omega)))
    first
    | go_region
    | go_region_with (fail)
    all_goals
      go_wp2
      refine bodyPost_ret (v := .tuple #[inV ⟨0, 0, 0, 0, 0, 0, false, false⟩, errV A 6]) ?_ rfl ⟨Or.inr rfl, ?_⟩
      · simp [results, Tryz.results12, go_sem, inV, errV, r0, r1, r2, r3, r4, r5, r6, r7]
      · exact (((((((((B2.out.setCell (Nat.le_refl _) _).setCell (Nat.le_refl _) _).setCell (Nat.le_refl _) _).setCell (Nat.le_refl _) _).setCell (Nat.le_refl _) _).setCell (Nat.le_refl _) _).setCell (Nat.le_refl _) _).setCell (Nat.le_refl _) _)).drew
end Go.Proofs.YtmihcicepgjogaaGreatDoor
