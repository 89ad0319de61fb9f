/- IsaSays, walked: it returns true, whatever the word and the instruction. -/
import Derived.Test.YthbcdlaejefkaaaDoorFirst
import Derived.Test.YthbcdlaejefkaaaDoorRefF
import Derived.Test.YthbcdlaejefkaaaDoorRefD
namespace Go.Proofs.YthbcdlaejefkaaaDoor
open Go.ChangeShapes Go.WideShapes Go.ChangeAt Go.RowKit
set_option linter.unusedVariables false
set_option linter.unusedSimpArgs false

structure Wq (A : Nat → Addr) (i : W.I) (w wc : World) : Prop where
  bel : Below w.heap.size w wc
  lt : w.heap.size < wc.heap.size
  inst : InAt w.heap.size i wc
  sent : Sent A wc
theorem Wq.below {A : Nat → Addr} {i : W.I} {w a b : World} (h : Wq A i w a) (hm : Below a.heap.size a b) : Wq A i w b :=
  ⟨from2 h.bel hm, Nat.lt_of_lt_of_le h.lt hm.size, h.inst.below hm, h.sent.below hm⟩
theorem Wq.alloc {A : Nat → Addr} {i : W.I} {w a : World} (h : Wq A i w a) (o : Obj) : Wq A i w (a.alloc o) := h.below ((Below.refl _ _).alloc (Nat.le_refl _) _)
theorem Wq.start {A : Nat → Addr} {i : W.I} {w : World} (hS : Sent A w) (t : TypeId) : Wq A i w (w.alloc (.cells #[.int .i64 i.op, .int .i64 i.rd, .int .i64 i.rs1, .int .i64 i.rs2, .int .i64 i.csr, .int .u32 i.imm, .bool i.aq, .bool i.rl] t)) :=
  ⟨(Below.refl _ _).alloc (Nat.le_refl _) _, by simp, InAt.start w i t, hS.below ((Below.refl _ _).alloc (Nat.le_refl _) _)⟩
/-- What was read lies in a block of its own. -/
structure Wx (d : W.I) (N : Nat) (wc : World) : Prop where
  lt : N < wc.heap.size
  inst : InAt N d wc
theorem Wx.below {d : W.I} {N : Nat} {a b : World} (h : Wx d N a) (hm : Below a.heap.size a b) : Wx d N b := ⟨Nat.lt_of_lt_of_le h.lt hm.size, h.inst.below hm⟩
theorem Wx.alloc {d : W.I} {N : Nat} {a : World} (h : Wx d N a) (o : Obj) : Wx d N (a.alloc o) := h.below ((Below.refl _ _).alloc (Nat.le_refl _) _)
theorem Wx.start (d : W.I) (a : World) (t : TypeId) : Wx d a.heap.size (a.alloc (.cells #[.int .i64 d.op, .int .i64 d.rd, .int .i64 d.rs1, .int .i64 d.rs2, .int .i64 d.csr, .int .u32 d.imm, .bool d.aq, .bool d.rl] t)) := ⟨by simp, InAt.start a d t⟩

set_option maxRecDepth 100000 in
set_option maxHeartbeats 6400000 in
theorem isasays_in (A : Nat → Addr) (x v : Int) (i d : W.I) (b : Bool) (k : Nat) (x0 : 0 ≤ x) (x1 : x < 4294967296) (hi : 0 ≤ i.imm ∧ i.imm < 4294967296) (w : World) (hS : Sent A w) (dI : Hid (W.decI x = d)) (dB : Hid (W.decB x = b)) (eE : Hid (W.encE i = k)) (eV : Hid (W.encV i = v)) (hk : k ≤ 3) :
    Calls Tryd.prog 3 #[.int .u32 x, inV i] w fun e w' => e = .returned (.bool true) ∧ Below w.heap.size w w' := by
  have sr := W.same_refl d
  have hW : Hid (∀ t, Wq A i w (w.alloc (.cells _ t))) := Wq.start hS
  have X : Hid (0 ≤ x ∧ x < 4294967296) := (⟨x0, x1⟩ : 0 ≤ x ∧ x < 4294967296)
  have I : Hid (0 ≤ i.imm ∧ i.imm < 4294967296) := hi
  have K : Hid (k ≤ 3) := hk
  generalize hc : num k = c
  have C : Hid (num k = c) := hc
  generalize hE : errV A k = ev
  have E : Hid (errV A k = ev) := hE
  clear hS x0 x1 hi hk hc hE
  unfold inV
  go_enter Tryd.func3, Tryd.ntmps3
  go_wp2_with (first
    | (go_at_call 9; refine (first_any A _ (hW.out _).sent).mono ?_; rintro e w1 ⟨rfl, hm⟩; have h1 : Hid (Wq A i w w1) := (hW.out _).below hm; clear hm)
    | (go_at_call 10; refine (decode_any _ _).mono ?_; rintro e w2 ⟨rfl, hm⟩; have h2 : Hid (Wq A i w w2) := h1.out.below hm; clear hm; have hlt2 := h2.out.lt; rw [dI.out, dB.out]; unfold inV)
    | (go_at_call 11; refine (rdec_any _ _ X.out.1 X.out.2).mono ?_; rintro e w3 ⟨rfl, hm⟩; have h3 : Hid (Wq A i w w3) := (h2.out.alloc _).below hm; have g3 : Hid (Wx d w2.heap.size w3) := (Wx.start d w2 _).below hm; clear hm; have hlt3 := h3.out.lt; have hlt3' := g3.out.lt; rw [dI.out, dB.out]; unfold inV; obtain ⟨z0, z1, z2, z3, z4, z5, z6, z7⟩ := h3.out.inst)
    | (go_at_call 12; refine (encode_any A i _ (h3.out.alloc _).sent).mono ?_; rintro e w4 ⟨rfl, hm⟩; have h4 : Hid (Wq A i w w4) := (h3.out.alloc _).below hm; have g4 : Hid (Wx d w2.heap.size w4) := (g3.out.alloc _).below hm; have f4 : Hid (Wx d w3.heap.size w4) := (Wx.start d w3 _).below hm; clear hm; rw [eE.out, eV.out, E.out]; obtain ⟨y0, y1, y2, y3, y4, y5, y6, y7⟩ := h4.out.inst)
    | (go_at_call 13; refine (renc_any i _ I.out.1 I.out.2).mono ?_; rintro e w5 ⟨rfl, hm⟩; have h5 : Hid (Wq A i w w5) := h4.out.below hm; have g5 : Hid (Wx d w2.heap.size w5) := g4.out.below hm; have f5 : Hid (Wx d w3.heap.size w5) := f4.out.below hm; clear hm; rw [eE.out, eV.out, C.out]; obtain ⟨s0, s1, s2, s3, s4, s5, s6, s7⟩ := g5.out.inst; obtain ⟨t0, t1, t2, t3, t4, t5, t6, t7⟩ := f5.out.inst; have hl5 := g5.out.lt; have hl6 := f5.out.lt)
    | (go_at_call 14; refine (sameInst_any d d _).mono ?_; rintro e w6 ⟨rfl, hm⟩; have h6 : Hid (Wq A i w w6) := h5.out.below hm; clear hm)
    | (go_at_call 15; rw [← E.out, ← C.out]; refine (is_any A k K.out _ _ h6.out.sent).mono ?_; rintro e w7 ⟨rfl, hm⟩; have h7 : Hid (Wq A i w w7) := h6.out.below hm; clear hm))
  go_ret
  exact ⟨rfl, h7.out.bel⟩

theorem isasays_walk (A : Nat → Addr) (x : Int) (i : W.I) (x0 : 0 ≤ x) (x1 : x < 4294967296) (hi : 0 ≤ i.imm ∧ i.imm < 4294967296) (w : World) (hS : Sent A w) :
    Calls Tryd.prog 3 #[.int .u32 x, inV i] w fun e w' => e = .returned (.bool true) ∧ Below w.heap.size w w' :=
  isasays_in A x _ i _ _ _ x0 x1 hi w hS rfl rfl rfl rfl (encE_le i)
end Go.Proofs.YthbcdlaejefkaaaDoor
