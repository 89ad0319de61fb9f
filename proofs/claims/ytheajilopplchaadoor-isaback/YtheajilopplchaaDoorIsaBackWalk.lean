/- IsaBack, walked: it returns true, whatever the word and the instruction. -/
import Derived.Test.YtheajilopplchaaDoorFirst
import Derived.Test.YtheajilopplchaaDoorMath11
namespace Go.Proofs.YtheajilopplchaaDoor
open Go.ChangeShapes Go.WideShapes Go.ChangeAt Go.RowKit
set_option linter.unusedVariables false
set_option linter.unusedSimpArgs false

structure Wy (A : Nat → Addr) (i : W.I) (w wc : World) : Prop where
  bel : Below w.heap.size w wc
  lt : w.heap.size < wc.heap.size
  inst : InAt w.heap.size i wc
  sent : Sent A wc
theorem Wy.below {A : Nat → Addr} {i : W.I} {w a b : World} (h : Wy A i w a) (hm : Below a.heap.size a b) : Wy A i w b :=
  ⟨from2 h.bel hm, Nat.lt_of_lt_of_le h.lt hm.size, h.inst.below hm, h.sent.below hm⟩
theorem Wy.alloc {A : Nat → Addr} {i : W.I} {w a : World} (h : Wy A i w a) (o : Obj) : Wy A i w (a.alloc o) := h.below ((Below.refl _ _).alloc (Nat.le_refl _) _)
theorem Wy.start {A : Nat → Addr} {i : W.I} {w : World} (hS : Sent A w) (t : TypeId) : Wy A i w (w.alloc (.cells #[.int .i64 i.op, .int .i64 i.rd, .int .i64 i.rs1, .int .i64 i.rs2, .int .i64 i.csr, .int .u32 i.imm, .bool i.aq, .bool i.rl] t)) :=
  ⟨(Below.refl _ _).alloc (Nat.le_refl _) _, by simp, InAt.start w i t, hS.below ((Below.refl _ _).alloc (Nat.le_refl _) _)⟩

set_option maxRecDepth 100000 in
set_option maxHeartbeats 3200000 in
theorem isaback_tt (A : Nat → Addr) (x v : Int) (i d : W.I) (w : World) (hS : Sent A w) (hd : W.decB x = true) (dI : Hid (W.decI x = d)) (eE : Hid (W.encE d = 0)) (eV : Hid (W.encV d = x)) (HE : Hid (W.encE i = 0)) (hv : Hid (W.encV i = v)) (db : W.decB v = true) (DI : Hid (W.decI v = i)) :
    Calls Tryd.prog 4 #[.int .u32 x, inV i] w fun e w' => e = .returned (.bool true) ∧ Below w.heap.size w w' := by
  have sr := W.same_refl i
  have hW : Hid (∀ t, Wy A i w (w.alloc (.cells _ t))) := Wy.start hS
  clear hS
  unfold inV
  go_enter Tryd.func4, Tryd.ntmps4
  go_wp2_with (first
    | (go_at_call 9; refine (first_any A _ (hW.out _).sent).mono ?_; rintro e w1 ⟨rfl, hm⟩; have h1 : Hid (Wy A i w w1) := (hW.out _).below hm; clear hm)
    | (go_at_call_of 10 (Value.int IntKind.u32 x); refine (decode_any _ _).mono ?_; rintro e w2 ⟨rfl, hm⟩; have h2 : Hid (Wy A i w w2) := h1.out.below hm; clear hm; have hlt2 := h2.out.lt; rw [dI.out]; unfold inV)
    | (go_at_call_of 12 (Value.int IntKind.i64 d.op); refine (encode_any A d _ (h2.out.alloc _).sent).mono ?_; rintro e w3 ⟨rfl, hm⟩; have h3 : Hid (Wy A i w w3) := (h2.out.alloc _).below hm; clear hm; obtain ⟨z0, z1, z2, z3, z4, z5, z6, z7⟩ := h3.out.inst; rw [eE.out, eV.out, show errV A 0 = .nilIface from rfl])
    | (go_at_call_of 12 (Value.int IntKind.i64 i.op); refine (encode_any A i _ (h3.out).sent).mono ?_; rintro e w4 ⟨rfl, hm⟩; have h4 : Hid (Wy A i w w4) := (h3.out).below hm; clear hm; have hlt4 := h4.out.lt; rw [HE.out, hv.out, show errV A 0 = .nilIface from rfl])
    | (go_at_call_of 10 (Value.int IntKind.u32 v); refine (decode_any _ _).mono ?_; rintro e w5 ⟨rfl, hm⟩; have h5 : Hid (Wy A i w w5) := h4.out.below hm; clear hm; obtain ⟨s0, s1, s2, s3, s4, s5, s6, s7⟩ := h5.out.inst; have hlt5 := h5.out.lt; rw [DI.out]; unfold inV)
    | (go_at_call 14; refine (sameInst_any i i _).mono ?_; rintro e w6 ⟨rfl, hm⟩; have h6 : Hid (Wy A i w w6) := (h5.out.alloc _).below hm; clear hm))
  go_ret
  exact ⟨rfl, h6.out.bel⟩

set_option maxRecDepth 100000 in
set_option maxHeartbeats 3200000 in
theorem isaback_tf (A : Nat → Addr) (x v : Int) (i d : W.I) (w : World) (hS : Sent A w) (hd : W.decB x = true) (dI : Hid (W.decI x = d)) (eE : Hid (W.encE d = 0)) (eV : Hid (W.encV d = x)) (n : Nat) (HE : Hid (W.encE i = n + 1)) (hv : Hid (W.encV i = 0)) :
    Calls Tryd.prog 4 #[.int .u32 x, inV i] w fun e w' => e = .returned (.bool true) ∧ Below w.heap.size w w' := by
  have hW : Hid (∀ t, Wy A i w (w.alloc (.cells _ t))) := Wy.start hS
  clear hS
  unfold inV
  go_enter Tryd.func4, Tryd.ntmps4
  go_wp2_with (first
    | (go_at_call 9; refine (first_any A _ (hW.out _).sent).mono ?_; rintro e w1 ⟨rfl, hm⟩; have h1 : Hid (Wy A i w w1) := (hW.out _).below hm; clear hm)
    | (go_at_call_of 10 (Value.int IntKind.u32 x); refine (decode_any _ _).mono ?_; rintro e w2 ⟨rfl, hm⟩; have h2 : Hid (Wy A i w w2) := h1.out.below hm; clear hm; have hlt2 := h2.out.lt; rw [dI.out]; unfold inV)
    | (go_at_call_of 12 (Value.int IntKind.i64 d.op); refine (encode_any A d _ (h2.out.alloc _).sent).mono ?_; rintro e w3 ⟨rfl, hm⟩; have h3 : Hid (Wy A i w w3) := (h2.out.alloc _).below hm; clear hm; obtain ⟨z0, z1, z2, z3, z4, z5, z6, z7⟩ := h3.out.inst; rw [eE.out, eV.out, show errV A 0 = .nilIface from rfl])
    | (go_at_call_of 12 (Value.int IntKind.i64 i.op); refine (encode_any A i _ (h3.out).sent).mono ?_; rintro e w4 ⟨rfl, hm⟩; have h4 : Hid (Wy A i w w4) := (h3.out).below hm; clear hm; have hlt4 := h4.out.lt; rw [HE.out, hv.out, show errV A (n + 1) = .iface 113 (.pointer (some (A n))) from rfl]))
  go_ret
  exact ⟨rfl, h4.out.bel⟩

set_option maxRecDepth 100000 in
set_option maxHeartbeats 3200000 in
theorem isaback_ft (A : Nat → Addr) (x v : Int) (i d : W.I) (w : World) (hS : Sent A w) (hd : W.decB x = false) (dI : Hid (W.decI x = d)) (HE : Hid (W.encE i = 0)) (hv : Hid (W.encV i = v)) (db : W.decB v = true) (DI : Hid (W.decI v = i)) :
    Calls Tryd.prog 4 #[.int .u32 x, inV i] w fun e w' => e = .returned (.bool true) ∧ Below w.heap.size w w' := by
  have sr := W.same_refl i
  have hW : Hid (∀ t, Wy A i w (w.alloc (.cells _ t))) := Wy.start hS
  clear hS
  unfold inV
  go_enter Tryd.func4, Tryd.ntmps4
  go_wp2_with (first
    | (go_at_call 9; refine (first_any A _ (hW.out _).sent).mono ?_; rintro e w1 ⟨rfl, hm⟩; have h1 : Hid (Wy A i w w1) := (hW.out _).below hm; clear hm)
    | (go_at_call_of 10 (Value.int IntKind.u32 x); refine (decode_any _ _).mono ?_; rintro e w2 ⟨rfl, hm⟩; have h2 : Hid (Wy A i w w2) := h1.out.below hm; clear hm; obtain ⟨z0, z1, z2, z3, z4, z5, z6, z7⟩ := h2.out.inst; have hlt2 := h2.out.lt; rw [dI.out]; unfold inV)
    | (go_at_call_of 12 (Value.int IntKind.i64 i.op); refine (encode_any A i _ (h2.out.alloc _).sent).mono ?_; rintro e w4 ⟨rfl, hm⟩; have h4 : Hid (Wy A i w w4) := (h2.out.alloc _).below hm; clear hm; have hlt4 := h4.out.lt; rw [HE.out, hv.out, show errV A 0 = .nilIface from rfl])
    | (go_at_call_of 10 (Value.int IntKind.u32 v); refine (decode_any _ _).mono ?_; rintro e w5 ⟨rfl, hm⟩; have h5 : Hid (Wy A i w w5) := h4.out.below hm; clear hm; obtain ⟨s0, s1, s2, s3, s4, s5, s6, s7⟩ := h5.out.inst; have hlt5 := h5.out.lt; rw [DI.out]; unfold inV)
    | (go_at_call 14; refine (sameInst_any i i _).mono ?_; rintro e w6 ⟨rfl, hm⟩; have h6 : Hid (Wy A i w w6) := (h5.out.alloc _).below hm; clear hm))
  go_ret
  exact ⟨rfl, h6.out.bel⟩

set_option maxRecDepth 100000 in
set_option maxHeartbeats 3200000 in
theorem isaback_ff (A : Nat → Addr) (x v : Int) (i d : W.I) (w : World) (hS : Sent A w) (hd : W.decB x = false) (dI : Hid (W.decI x = d)) (n : Nat) (HE : Hid (W.encE i = n + 1)) (hv : Hid (W.encV i = 0)) :
    Calls Tryd.prog 4 #[.int .u32 x, inV i] w fun e w' => e = .returned (.bool true) ∧ Below w.heap.size w w' := by
  have hW : Hid (∀ t, Wy A i w (w.alloc (.cells _ t))) := Wy.start hS
  clear hS
  unfold inV
  go_enter Tryd.func4, Tryd.ntmps4
  go_wp2_with (first
    | (go_at_call 9; refine (first_any A _ (hW.out _).sent).mono ?_; rintro e w1 ⟨rfl, hm⟩; have h1 : Hid (Wy A i w w1) := (hW.out _).below hm; clear hm)
    | (go_at_call_of 10 (Value.int IntKind.u32 x); refine (decode_any _ _).mono ?_; rintro e w2 ⟨rfl, hm⟩; have h2 : Hid (Wy A i w w2) := h1.out.below hm; clear hm; obtain ⟨z0, z1, z2, z3, z4, z5, z6, z7⟩ := h2.out.inst; have hlt2 := h2.out.lt; rw [dI.out]; unfold inV)
    | (go_at_call_of 12 (Value.int IntKind.i64 i.op); refine (encode_any A i _ (h2.out.alloc _).sent).mono ?_; rintro e w4 ⟨rfl, hm⟩; have h4 : Hid (Wy A i w w4) := (h2.out.alloc _).below hm; clear hm; have hlt4 := h4.out.lt; rw [HE.out, hv.out, show errV A (n + 1) = .iface 113 (.pointer (some (A n))) from rfl]))
  go_ret
  exact ⟨rfl, h4.out.bel⟩

theorem isaback_walk (A : Nat → Addr) (x : Int) (i : W.I) (x0 : 0 ≤ x) (x1 : x < 4294967296) (hi : 0 ≤ i.imm ∧ i.imm < 4294967296) (w : World) (hS : Sent A w) :
    Calls Tryd.prog 4 #[.int .u32 x, inV i] w fun e w' => e = .returned (.bool true) ∧ Below w.heap.size w w' := by
  cases hd : W.decB x <;> by_cases he : W.encE i = 0
  · exact isaback_ft A x _ i _ w hS hd rfl he rfl (W.dec_enc he).1 (W.dec_enc he).2
  · obtain ⟨n, hn⟩ := Nat.exists_eq_succ_of_ne_zero he
    exact isaback_ff A x 0 i _ w hS hd rfl n hn (W.encV_none he)
  · exact isaback_tt A x _ i _ w hS hd rfl (W.enc_dec x0 x1 hd).1 (W.enc_dec x0 x1 hd).2 he rfl (W.dec_enc he).1 (W.dec_enc he).2
  · obtain ⟨n, hn⟩ := Nat.exists_eq_succ_of_ne_zero he
    exact isaback_tf A x 0 i _ w hS hd rfl (W.enc_dec x0 x1 hd).1 (W.enc_dec x0 x1 hd).2 n hn (W.encV_none he)
end Go.Proofs.YtheajilopplchaaDoor
