/- wmo: Check of operations that can be, in an order that names each once, where each hart goes as its list does. -/
import Derived.Test.YtibohlbkkaghkaaDoorWmoR
import Derived.Test.YtibohlbkkaghkaaDoorSee14
namespace Go.Proofs.YtibohlbkkaghkaaDoor
open Go.ChangeShapes Go.WideShapes Go.ChangeAt Go.RowKit Go.Maps
set_option linter.unusedVariables false
set_option linter.unusedSimpArgs false

theorem wfault_any (z : Addr) (p : Int) (p0 : 1 ≤ p) (p1 : p ≤ 5000) (w : World) : Calls Tryd.prog 26 #[.iface 141 (.pointer (some z)), .int .i64 p] w fun e w' => e = .returned (.iface 78 (.pointer (some ⟨w.heap.size, 0, none⟩))) ∧ w' = w.alloc (.cells #[.int .i64 (p - 1), .iface 141 (.pointer (some z))] 80) := by
  go_enter Tryd.func26, Tryd.ntmps26
  go_wp2
  go_ret
  exact ⟨rfl, rfl⟩
/-- What Check is given, and what comes of it. -/
structure Ck (b K KC : Nat) (a : Nat → Option Addr) (n c : Nat → Nat) (x : Nat → Nat → W.Oz) (S : Nat → Nat → S3) (oa : Option Addr) (N : Nat) (r : Nat → Nat × Nat) (cb : Nat) (A : Nat → Addr) (w : World) : Prop where
  hf : Hf b K a n c x S w
  v : W.Vd K n x
  os : Os oa N r w
  or_ : W.Or K n x N r
  it : ∀ h, h < K → W.InT (W.plc r N h) (n h)
  fz : Fz cb w
  st : Sent A w
  nl : N ≤ 4096
  fr : ∀ p, p < N + 1 → W.rds (W.stp x S n (W.plc r N) K N p).o.k = true → ∀ k, k < (W.stp x S n (W.plc r N) K N p).o.sz.toNat → W.FrO (W.stp x S n (W.plc r N) K N) (N + 1) ((W.stp x S n (W.plc r N) K N p).fr k) ((W.stp x S n (W.plc r N) K N p).o.ad + k)
  lr : ∀ p, p < N + 1 → 0 ≤ (W.stp x S n (W.plc r N) K N p).lr ∧ (W.stp x S n (W.plc r N) K N p).lr < ((N + 1 : Nat) : Int)
  l4 : ∀ p, p < N + 1 → 0 < (W.stp x S n (W.plc r N) K N p).lr → (W.stp x S n (W.plc r N) K N (W.stp x S n (W.plc r N) K N p).lr.toNat).o.ad + 4 ≤ 4294967296
theorem W.stp_byt (x : Nat → Nat → W.Oz) (S : Nat → Nat → S3) (n : Nat → Nat) (pl : Nat → Nat → Int) (K N : Nat) (v : W.Vd K n x) (p : Nat) : W.Byt (W.stp x S n pl K N p).o := by
  unfold W.stp
  rw [W.fol_o]
  exact W.sts_byt x S n pl K (fun j hj i hi => W.byt_of _ ((v.s j hj).b i hi) ((v.s j hj).a0 i hi) ((v.s j hj).a1 i hi)) p
set_option maxRecDepth 10000 in
set_option maxHeartbeats 1600000 in
theorem check_ok (b K KC : Nat) (a : Nat → Option Addr) (n c : Nat → Nat) (x : Nat → Nat → W.Oz) (S : Nat → Nat → S3) (oa : Option Addr) (N oc : Nat) (r : Nat → Nat × Nat) (cb : Nat) (A : Nat → Addr) (w : World) (h : Ck b K KC a n c x S oa N r cb A w) (m1 : Nat) (m1h : m1 = N + 1) (m2 : Nat) (m2h : m2 = N + 1) (hok : ∀ p, p < m1 → W.okR (W.stp x S n (W.plc r N) K N) p) (hbad : m1 < N + 1 → ¬ W.okR (W.stp x S n (W.plc r N) K N) m1) (hok2 : ∀ p, p < m2 → W.okP (W.stp x S n (W.plc r N) K N) p) (hbad2 : m2 < N + 1 → ¬ W.okP (W.stp x S n (W.plc r N) K N) m2) :
    Calls Tryd.prog 14 #[.slice (some ⟨b, 0, none⟩) K KC, .slice oa N oc, fvZ cb] w fun e w' => e = .returned .nilIface ∧ Below w.heap.size w w' := by
  have HH : Hid (Calls _ _ _ _ _ ∧ _) := ⟨valid_any b K KC a n c x w h.hf.hs h.v, h⟩
  have nl := h.nl
  have HM : Hid (_ ∧ _ ∧ _ ∧ _) := ⟨hok, hbad, hok2, hbad2⟩
  clear hok hbad hok2 hbad2
  clear h
  generalize hFV : fvZ cb = FV at *
  go_enter Tryd.func14, Tryd.ntmps14
  go_wp2_with (fail)
  refine HH.out.1.mono ?_
  rintro e w1 ⟨rfl, b1⟩
  have hl := lay_any b K KC a n c x oa N oc r w1 (HH.out.2.hf.hs.below b1) HH.out.2.v (HH.out.2.os.below b1) HH.out.2.or_
  have HL : Hid (Calls _ _ _ _ _) := hl
  clear hl
  go_wp2_with (fail)
  refine HL.out.mono ?_
  rintro e w2 ⟨⟨PB, pb, rfl, hP⟩, b2⟩
  have B2 := b1.trans (b2.mono b1.size)
  have ht := turned_any b K KC a n c x w1.heap.size PB pb (W.plc r N) w2 (HH.out.2.hf.hs.below B2) HH.out.2.v hP HH.out.2.it
  have hs := stepsOf_any b K KC a n c x S w1.heap.size PB N pb (W.plc r N) w2 (HH.out.2.hf.below B2) HH.out.2.v hP (fun h i => W.plc_bd r N h i) nl
  have HT : Hid (Calls _ _ _ _ _ ∧ _ ∧ _) := ⟨ht, hs, B2⟩
  clear ht hs hP b1 b2 B2 HL
  go_wp2_with (fail)
  refine HT.out.1.mono ?_
  rintro e w3 ⟨rfl, rfl⟩
  go_wp2_with (fail)
  refine HT.out.2.1.mono ?_
  rintro e w4 ⟨⟨sb, rfl, hsb, hS⟩, b4⟩
  have B4 := HT.out.2.2.trans (b4.mono HT.out.2.2.size)
  have hmr := misread_any sb (N + 1) cb _ m1 (by omega) w4 hS (by omega) (HH.out.2.fz.below B4) (fun p _ => W.stp_byt x S n _ K N HH.out.2.v p) HH.out.2.fr HM.out.1 HM.out.2.1
  rw [hFV] at hmr
  have hpa := fun w' (hb : Below w4.heap.size w4 w') => parted_any sb (N + 1) _ m2 (by omega) w' (hS.below hb) (by omega) (fun p _ => W.stp_byt x S n _ K N HH.out.2.v p) HH.out.2.lr HH.out.2.l4 HM.out.2.2.1 HM.out.2.2.2
  have HX : Hid (Calls _ _ _ _ _ ∧ _ ∧ _) := ⟨hmr, hpa, B4⟩
  clear hmr hpa hS b4 B4 HT hsb
  have e1 : ¬ m1 < N + 1 := by omega
  have e2 : ¬ m2 < N + 1 := by omega
  rw [if_neg e1] at HX
  simp only [if_neg e2] at HX
  go_wp2_with (fail)
  refine HX.out.1.mono ?_
  rintro e w5 ⟨rfl, b5⟩
  go_wp2_with (fail)
  refine (HX.out.2.1 _ b5).mono ?_
  rintro e w6 ⟨rfl, b6⟩
  have B6 := HX.out.2.2.trans ((b5.trans (b6.mono b5.size)).mono HX.out.2.2.size)
  clear b5 b6 HX
  go_wp2
  go_ret
  exact ⟨rfl, B6⟩
set_option maxRecDepth 10000 in
set_option maxHeartbeats 1600000 in
theorem check_val (b K KC : Nat) (a : Nat → Option Addr) (n c : Nat → Nat) (x : Nat → Nat → W.Oz) (S : Nat → Nat → S3) (oa : Option Addr) (N oc : Nat) (r : Nat → Nat × Nat) (cb : Nat) (A : Nat → Addr) (w : World) (h : Ck b K KC a n c x S oa N r cb A w) (m1 : Nat) (m1h : 1 ≤ m1 ∧ m1 < N + 1) (m2 : Nat) (m2h : m2 ≤ N + 1) (hok : ∀ p, p < m1 → W.okR (W.stp x S n (W.plc r N) K N) p) (hbad : m1 < N + 1 → ¬ W.okR (W.stp x S n (W.plc r N) K N) m1) (hok2 : ∀ p, p < m2 → W.okP (W.stp x S n (W.plc r N) K N) p) (hbad2 : m2 < N + 1 → ¬ W.okP (W.stp x S n (W.plc r N) K N) m2) :
    Calls Tryd.prog 14 #[.slice (some ⟨b, 0, none⟩) K KC, .slice oa N oc, fvZ cb] w fun e w' => (∃ q, e = .returned (.iface 78 (.pointer (some ⟨q, 0, none⟩))) ∧ w'.heap[q]? = some (.cells #[.int .i64 ((m1 : Int) - 1), ptr A 1] 80)) ∧ Below w.heap.size w w' := by
  have HH : Hid (Calls _ _ _ _ _ ∧ _) := ⟨valid_any b K KC a n c x w h.hf.hs h.v, h⟩
  have nl := h.nl
  have HM : Hid (_ ∧ _ ∧ _ ∧ _) := ⟨hok, hbad, hok2, hbad2⟩
  clear hok hbad hok2 hbad2
  clear h
  generalize hFV : fvZ cb = FV at *
  go_enter Tryd.func14, Tryd.ntmps14
  go_wp2_with (fail)
  refine HH.out.1.mono ?_
  rintro e w1 ⟨rfl, b1⟩
  have hl := lay_any b K KC a n c x oa N oc r w1 (HH.out.2.hf.hs.below b1) HH.out.2.v (HH.out.2.os.below b1) HH.out.2.or_
  have HL : Hid (Calls _ _ _ _ _) := hl
  clear hl
  go_wp2_with (fail)
  refine HL.out.mono ?_
  rintro e w2 ⟨⟨PB, pb, rfl, hP⟩, b2⟩
  have B2 := b1.trans (b2.mono b1.size)
  have ht := turned_any b K KC a n c x w1.heap.size PB pb (W.plc r N) w2 (HH.out.2.hf.hs.below B2) HH.out.2.v hP HH.out.2.it
  have hs := stepsOf_any b K KC a n c x S w1.heap.size PB N pb (W.plc r N) w2 (HH.out.2.hf.below B2) HH.out.2.v hP (fun h i => W.plc_bd r N h i) nl
  have HT : Hid (Calls _ _ _ _ _ ∧ _ ∧ _) := ⟨ht, hs, B2⟩
  clear ht hs hP b1 b2 B2 HL
  go_wp2_with (fail)
  refine HT.out.1.mono ?_
  rintro e w3 ⟨rfl, rfl⟩
  go_wp2_with (fail)
  refine HT.out.2.1.mono ?_
  rintro e w4 ⟨⟨sb, rfl, hsb, hS⟩, b4⟩
  have B4 := HT.out.2.2.trans (b4.mono HT.out.2.2.size)
  have hmr := misread_any sb (N + 1) cb _ m1 (by omega) w4 hS (by omega) (HH.out.2.fz.below B4) (fun p _ => W.stp_byt x S n _ K N HH.out.2.v p) HH.out.2.fr HM.out.1 HM.out.2.1
  rw [hFV] at hmr
  have hpa := fun w' (hb : Below w4.heap.size w4 w') => parted_any sb (N + 1) _ m2 (by omega) w' (hS.below hb) (by omega) (fun p _ => W.stp_byt x S n _ K N HH.out.2.v p) HH.out.2.lr HH.out.2.l4 HM.out.2.2.1 HM.out.2.2.2
  have HX : Hid (Calls _ _ _ _ _ ∧ _ ∧ _) := ⟨hmr, hpa, B4⟩
  clear hmr hpa hS b4 B4 HT hsb
  rw [if_pos m1h.2] at HX
  have mp : (0 : Int) < (m1 : Int) := by omega
  go_wp2_with (fail)
  refine HX.out.1.mono ?_
  rintro e WX ⟨rfl, b5⟩
  have BX := HX.out.2.2.trans (b5.mono HX.out.2.2.size)
  clear b5 HX
  have sg := (HH.out.2.st.below BX).cell 1 (by decide)
  have fl := fun w' => wfault_any (A 1) (m1 : Int) (by omega) (by omega) w'
  have HQ : Hid (_ ∧ _) := ⟨fl, BX⟩
  clear fl BX
  go_wp2_with (fail)
  refine (HQ.out.1 _).mono ?_
  rintro e w7 ⟨rfl, rfl⟩
  have hl := heap_alloc_last WX (.cells #[.int .i64 ((m1 : Int) - 1), .iface 141 (.pointer (some (A 1)))] 80)
  have B7 := HQ.out.2.alloc HQ.out.2.size (.cells #[.int .i64 ((m1 : Int) - 1), .iface 141 (.pointer (some (A 1)))] 80)
  have HW : Hid (_ ∧ _) := ⟨hl, B7⟩
  clear hl B7 HQ
  go_wp2
  go_ret
  exact ⟨⟨_, rfl, HW.out.1⟩, HW.out.2⟩
set_option maxRecDepth 10000 in
set_option maxHeartbeats 1600000 in
theorem check_ord (b K KC : Nat) (a : Nat → Option Addr) (n c : Nat → Nat) (x : Nat → Nat → W.Oz) (S : Nat → Nat → S3) (oa : Option Addr) (N oc : Nat) (r : Nat → Nat × Nat) (cb : Nat) (A : Nat → Addr) (w : World) (h : Ck b K KC a n c x S oa N r cb A w) (m1 : Nat) (m1h : m1 = N + 1) (m2 : Nat) (m2h : 1 ≤ m2 ∧ m2 < N + 1) (hok : ∀ p, p < m1 → W.okR (W.stp x S n (W.plc r N) K N) p) (hbad : m1 < N + 1 → ¬ W.okR (W.stp x S n (W.plc r N) K N) m1) (hok2 : ∀ p, p < m2 → W.okP (W.stp x S n (W.plc r N) K N) p) (hbad2 : m2 < N + 1 → ¬ W.okP (W.stp x S n (W.plc r N) K N) m2) :
    Calls Tryd.prog 14 #[.slice (some ⟨b, 0, none⟩) K KC, .slice oa N oc, fvZ cb] w fun e w' => (∃ q, e = .returned (.iface 78 (.pointer (some ⟨q, 0, none⟩))) ∧ w'.heap[q]? = some (.cells #[.int .i64 ((m2 : Int) - 1), ptr A 0] 80)) ∧ Below w.heap.size w w' := by
  have HH : Hid (Calls _ _ _ _ _ ∧ _) := ⟨valid_any b K KC a n c x w h.hf.hs h.v, h⟩
  have nl := h.nl
  have HM : Hid (_ ∧ _ ∧ _ ∧ _) := ⟨hok, hbad, hok2, hbad2⟩
  clear hok hbad hok2 hbad2
  clear h
  generalize hFV : fvZ cb = FV at *
  go_enter Tryd.func14, Tryd.ntmps14
  go_wp2_with (fail)
  refine HH.out.1.mono ?_
  rintro e w1 ⟨rfl, b1⟩
  have hl := lay_any b K KC a n c x oa N oc r w1 (HH.out.2.hf.hs.below b1) HH.out.2.v (HH.out.2.os.below b1) HH.out.2.or_
  have HL : Hid (Calls _ _ _ _ _) := hl
  clear hl
  go_wp2_with (fail)
  refine HL.out.mono ?_
  rintro e w2 ⟨⟨PB, pb, rfl, hP⟩, b2⟩
  have B2 := b1.trans (b2.mono b1.size)
  have ht := turned_any b K KC a n c x w1.heap.size PB pb (W.plc r N) w2 (HH.out.2.hf.hs.below B2) HH.out.2.v hP HH.out.2.it
  have hs := stepsOf_any b K KC a n c x S w1.heap.size PB N pb (W.plc r N) w2 (HH.out.2.hf.below B2) HH.out.2.v hP (fun h i => W.plc_bd r N h i) nl
  have HT : Hid (Calls _ _ _ _ _ ∧ _ ∧ _) := ⟨ht, hs, B2⟩
  clear ht hs hP b1 b2 B2 HL
  go_wp2_with (fail)
  refine HT.out.1.mono ?_
  rintro e w3 ⟨rfl, rfl⟩
  go_wp2_with (fail)
  refine HT.out.2.1.mono ?_
  rintro e w4 ⟨⟨sb, rfl, hsb, hS⟩, b4⟩
  have B4 := HT.out.2.2.trans (b4.mono HT.out.2.2.size)
  have hmr := misread_any sb (N + 1) cb _ m1 (by omega) w4 hS (by omega) (HH.out.2.fz.below B4) (fun p _ => W.stp_byt x S n _ K N HH.out.2.v p) HH.out.2.fr HM.out.1 HM.out.2.1
  rw [hFV] at hmr
  have hpa := fun w' (hb : Below w4.heap.size w4 w') => parted_any sb (N + 1) _ m2 (by omega) w' (hS.below hb) (by omega) (fun p _ => W.stp_byt x S n _ K N HH.out.2.v p) HH.out.2.lr HH.out.2.l4 HM.out.2.2.1 HM.out.2.2.2
  have HX : Hid (Calls _ _ _ _ _ ∧ _ ∧ _) := ⟨hmr, hpa, B4⟩
  clear hmr hpa hS b4 B4 HT hsb
  have e1 : ¬ m1 < N + 1 := by omega
  rw [if_neg e1] at HX
  simp only [if_pos m2h.2] at HX
  have mp : (0 : Int) < (m2 : Int) := by omega
  go_wp2_with (fail)
  refine HX.out.1.mono ?_
  rintro e w5 ⟨rfl, b5⟩
  go_wp2_with (fail)
  refine (HX.out.2.1 _ b5).mono ?_
  rintro e WX ⟨rfl, b6⟩
  have BX := HX.out.2.2.trans ((b5.trans (b6.mono b5.size)).mono HX.out.2.2.size)
  clear b5 b6 HX
  have sg := (HH.out.2.st.below BX).cell 0 (by decide)
  have fl := fun w' => wfault_any (A 0) (m2 : Int) (by omega) (by omega) w'
  have HQ : Hid (_ ∧ _) := ⟨fl, BX⟩
  clear fl BX
  go_wp2_with (fail)
  refine (HQ.out.1 _).mono ?_
  rintro e w7 ⟨rfl, rfl⟩
  have hl := heap_alloc_last WX (.cells #[.int .i64 ((m2 : Int) - 1), .iface 141 (.pointer (some (A 0)))] 80)
  have B7 := HQ.out.2.alloc HQ.out.2.size (.cells #[.int .i64 ((m2 : Int) - 1), .iface 141 (.pointer (some (A 0)))] 80)
  have HW : Hid (_ ∧ _) := ⟨hl, B7⟩
  clear hl B7 HQ
  go_wp2
  go_ret
  exact ⟨⟨_, rfl, HW.out.1⟩, HW.out.2⟩
end Go.Proofs.YtibohlbkkaghkaaDoor
