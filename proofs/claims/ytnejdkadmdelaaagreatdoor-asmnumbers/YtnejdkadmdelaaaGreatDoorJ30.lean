/- Texts in one: AsmV, AsmW, AsmN. -/
import Derived.Shelf.Strings.FuncGrows
import Derived.Shelf.Strconv.ParseUint10
import Derived.Test.YtnejdkadmdelaaaGreatDoorJ29
/- Print, and a word as a line. -/
namespace Go.Proofs.YtnejdkadmdelaaaGreatDoor
open Go.ChangeShapes Go.WideShapes Go.ChangeAt Go.RowKit
set_option linter.unusedVariables false
set_option linter.unusedSimpArgs false

namespace W
/-- What Print answers; nothing where there is no word. -/
def printL (i : I) : List UInt8 := bif encE i == 0 then textL i else []
/-- A word as a line. -/
def lineL (x : Int) : List UInt8 := bif decB x then textL (decI x) else [46, 119, 111, 114, 100, 32] ++ (48 :: 120 :: hexL x.toNat 8)
end W

structure Wp (A : Nat → Addr) (i : W.I) (w wc : World) : Prop where
  bel : Below w.heap.size w wc
  lt : w.heap.size < wc.heap.size
  inst : InAt w.heap.size i wc
  s0 : Sg A w
theorem Wp.below {A : Nat → Addr} {i : W.I} {w a b : World} (h : Wp A i w a) (hm : Below a.heap.size a b) : Wp A i w b :=
  ⟨from2 h.bel hm, Nat.lt_of_lt_of_le h.lt hm.size, h.inst.below hm, h.s0⟩
theorem Wp.sg {A : Nat → Addr} {i : W.I} {w a : World} (h : Wp A i w a) : Sg A a := h.s0.below h.bel
theorem Wp.start {A : Nat → Addr} {i : W.I} {w : World} (hS : Sg A w) (t : TypeId) : Wp A i w (w.alloc (.cells #[.int .i64 i.op, .int .i64 i.rd, .int .i64 i.rs1, .int .i64 i.rs2, .int .i64 i.csr, .int .u32 i.imm, .bool i.aq, .bool i.rl] t)) :=
  ⟨(Below.refl _ _).alloc (Nat.le_refl _) _, by simp, InAt.start w i t, hS⟩

set_option maxRecDepth 100000 in
set_option maxHeartbeats 1600000 in
theorem print_ok (A : Nat → Addr) (i : W.I) (v : Int) (w : World) (hS : Sg A w) (he : Hid (W.encE i = 0)) (hv : Hid (W.encV i = v)) : Calls Tryz.prog 9 #[inV i] w fun e w' => e = .returned (.tuple #[.string ⟨(W.textL i).toArray⟩, .nilIface]) ∧ Below w.heap.size w w' := by
  have hr : Hid (W.InR i) := W.inR_of (W.encE_zero he.out).2.2.1
  have T0 : Hid (∀ t, Wp A i w (w.alloc (.cells _ t))) := Wp.start hS
  generalize hx : W.textL i = L
  have HX : Hid (W.textL i = L) := hx
  clear hS hx
  unfold inV
  go_enter Tryz.func9, Tryz.ntmps9
  go_wp2_with (first
    | (go_at_call 25; refine (encode_any A i _ (T0.out _).sg.sent).mono ?_; rintro e w1 ⟨rfl, hm⟩; have T1 : Hid (Wp A i w w1) := (T0.out _).below hm; clear hm; rw [he.out, hv.out, show errV A 0 = .nilIface from rfl]; obtain ⟨z0, z1, z2, z3, z4, z5, z6, z7⟩ := T1.out.inst; have lt1 := T1.out.lt)
    | (go_at_call 26; refine (text_any A i hr.out _ T1.out.sg).mono ?_; rintro e w2 ⟨rfl, hm⟩; have T2 : Hid (Wp A i w w2) := T1.out.below hm; clear hm; rw [HX.out]))
  exact bodyPost_ret (v := .tuple #[.string ⟨L.toArray⟩, .nilIface]) (by simp [results, Tryz.results9, go_sem]) rfl ⟨rfl, T2.out.bel⟩

set_option maxRecDepth 100000 in
set_option maxHeartbeats 1600000 in
theorem print_no (A : Nat → Addr) (i : W.I) (v : Int) (n : Nat) (w : World) (hS : Sg A w) (he : Hid (W.encE i = n + 1)) (hv : Hid (W.encV i = v)) : Calls Tryz.prog 9 #[inV i] w fun e w' => e = .returned (.tuple #[.string ⟨#[]⟩, errV A (n + 1)]) ∧ Below w.heap.size w w' := by
  have T0 : Hid (∀ t, Wp A i w (w.alloc (.cells _ t))) := Wp.start hS
  clear hS
  unfold inV
  go_enter Tryz.func9, Tryz.ntmps9
  go_wp2_with (first
    | (go_at_call 25; refine (encode_any A i _ (T0.out _).sg.sent).mono ?_; rintro e w1 ⟨rfl, hm⟩; have T1 : Hid (Wp A i w w1) := (T0.out _).below hm; clear hm; rw [he.out, hv.out, show errV A (n + 1) = .iface 194 (.pointer (some (A n))) from rfl]))
  exact bodyPost_ret (v := .tuple #[.string ⟨#[]⟩, errV A (n + 1)]) (by simp [results, Tryz.results9, go_sem, errV]) rfl ⟨rfl, T1.out.bel⟩

theorem print_any (A : Nat → Addr) (i : W.I) (w : World) (hS : Sg A w) : Calls Tryz.prog 9 #[inV i] w fun e w' => e = .returned (.tuple #[.string ⟨(W.printL i).toArray⟩, errV A (W.encE i)]) ∧ Below w.heap.size w w' := by
  by_cases he : W.encE i = 0
  · rw [W.printL, he]
    exact print_ok A i _ w hS he rfl
  · obtain ⟨n, hn⟩ := Nat.exists_eq_succ_of_ne_zero he
    rw [W.printL, hn]
    exact print_no A i _ n w hS hn rfl

set_option maxRecDepth 100000 in
set_option maxHeartbeats 1600000 in
theorem line_is (A : Nat → Addr) (x : Int) (i : W.I) (w : World) (hS : Sg A w) (hr : Hid (W.InR i)) (hd : Hid (W.decI x = i)) (hb : Hid (W.decB x = true)) : Calls Tryz.prog 40 #[.int .u32 x] w fun e w' => e = .returned (.string ⟨(W.textL i).toArray⟩) ∧ Below w.heap.size w w' := by
  have HS : Hid (Sg A w) := hS
  generalize hx : W.textL i = L
  have HX : Hid (W.textL i = L) := hx
  clear hS hx
  go_enter Tryz.func40, Tryz.ntmps40
  go_wp2_with (first
    | (go_at_call 73; refine (decode_any _ _).mono ?_; rintro e w1 ⟨rfl, hm⟩; have B1 : Hid (Below w.heap.size w w1) := hm; clear hm; rw [hd.out, hb.out]; unfold inV)
    | (go_at_call 26; refine (text_any A i hr.out _ (HS.out.below (B1.out.alloc B1.out.size _))).mono ?_; rintro e w2 ⟨rfl, hm⟩; have B2 : Hid (Below w.heap.size w w2) := from2 (B1.out.alloc B1.out.size _) hm; clear hm; rw [HX.out]))
  go_ret
  exact ⟨rfl, B2.out⟩

set_option maxRecDepth 100000 in
set_option maxHeartbeats 1600000 in
theorem line_no (A : Nat → Addr) (x : Nat) (hx : x < 4294967296) (i : W.I) (w : World) (hS : Sg A w) (hd : Hid (W.decI x = i)) (hb : Hid (W.decB x = false)) : Calls Tryz.prog 40 #[.int .u32 x] w fun e w' => e = .returned (.string ⟨([46, 119, 111, 114, 100, 32] ++ (48 :: 120 :: W.hexL x 8)).toArray⟩) ∧ Below w.heap.size w w' := by
  have HS : Hid (Sg A w) := hS
  have hl : (W.hexL x 8).length = 8 := by simp [W.hexL]
  generalize hL : W.hexL x 8 = L at hl
  have HL : Hid (W.hexL x 8 = L) := hL
  have h2 : ¬ 9223372036854775807 < 6 + (L.length + 1 + 1) := by omega
  clear hS hL
  go_enter Tryz.func40, Tryz.ntmps40
  go_wp2_with (first
    | (go_at_call 73; refine (decode_any _ _).mono ?_; rintro e w1 ⟨rfl, hm⟩; have B1 : Hid (Below w.heap.size w w1) := hm; clear hm; rw [hd.out, hb.out]; unfold inV)
    | (go_at_call 74; refine (hex8 A x hx _ (HS.out.below (B1.out.alloc B1.out.size _))).mono ?_; rintro e w2 ⟨rfl, hm⟩; have B2 : Hid (Below w.heap.size w w2) := from2 (B1.out.alloc B1.out.size _) hm; clear hm; rw [HL.out]))
  go_ret
  exact ⟨congrArg (fun s => Ending.returned (.string s)) (ba_append [46, 119, 111, 114, 100, 32] _), B2.out⟩
end Go.Proofs.YtnejdkadmdelaaaGreatDoor

/- Where a part ends; setting a part. -/
namespace Go.Proofs.YtnejdkadmdelaaaGreatDoor
open Go.ChangeShapes Go.WideShapes Go.ChangeAt Go.RowKit
set_option linter.unusedVariables false
set_option linter.unusedSimpArgs false

namespace W
def pend (L : List UInt8) : Int := bif decide (0 ≤ Lib.idxFunc btw true ⟨L.toArray⟩) then Lib.idxFunc btw true ⟨L.toArray⟩ else L.length
end W
theorem between_grows (w : World) : PredGrows Tryz.prog 57 #[] W.btw w := fun X x _ _ => between_any x X

theorem partEnd_any (L : List UInt8) (w : World) : Calls Tryz.prog 67 #[.string ⟨L.toArray⟩] w fun e w' => e = .returned (.int .i64 (W.pend L)) ∧ Below w.heap.size w w' := by
  have eg : ∀ args w, (callFunc 57 args).run Tryz.prog w = .ok (.enter 57 args) w := enters_of Tryz.func57 (by kernel_rfl) rfl
  have H : Hid (∀ w : World, Calls Tryz.prog 99 #[.string ⟨L.toArray⟩, .func (.func 57) #[] #[]] w fun e w' => e = .returned (.int .i64 (Lib.idxFunc W.btw true ⟨L.toArray⟩)) ∧ Below w.heap.size w w') := fun w => Tryz.strings_IndexFunc_grows 57 #[] eg W.btw ⟨L.toArray⟩ w (between_grows w)
  obtain ⟨n, hn⟩ : ∃ n, Lib.idxFunc W.btw true ⟨L.toArray⟩ = n := ⟨_, rfl⟩
  have HN : Hid (Lib.idxFunc W.btw true ⟨L.toArray⟩ = n) := hn
  have hp : Hid (W.pend L = bif decide (0 ≤ n) then n else L.length) := (by rw [W.pend, hn] : W.pend L = _)
  clear hn
  by_cases h0 : 0 ≤ n
  · go_enter Tryz.func67, Tryz.ntmps67
    go_wp2_with (go_at_call 99; refine (H.out _).mono ?_; rintro e w1 ⟨rfl, hm⟩; rw [HN.out])
    go_ret
    exact ⟨by rw [hp.out, decide_eq_true h0]; rfl, hm⟩
  · go_enter Tryz.func67, Tryz.ntmps67
    go_wp2_with (go_at_call 99; refine (H.out _).mono ?_; rintro e w1 ⟨rfl, hm⟩; rw [HN.out])
    go_ret
    exact ⟨by rw [hp.out, decide_eq_false (show ¬ 0 ≤ n by omega)]; rfl, hm⟩

namespace W
/-- An instruction, a part of it set. -/
def putI (i : I) (c : Nat) (n : Int) : I :=
  bif c == 100 then { i with rd := n } else bif c == 49 then { i with rs1 := n } else bif c == 50 then { i with rs2 := n } else bif c == 99 then { i with csr := n } else
  bif c == 105 then { i with imm := n % 4294967296 } else bif c == 117 then { i with imm := left (n % 4294967296) 12 } else bif c == 112 then { i with imm := left (n % 4294967296) 4 } else bif c == 115 then { i with imm := bits .or .u32 i.imm (n % 4294967296) } else i
end W

theorem set_other (w : World) (g k q : Nat) (v : Value) (hk : k ≠ g) : (w.setCell ⟨g, q, none⟩ v).heap[k]? = w.heap[k]? :=
  Below.heap_setCell _ _ _ _ hk

theorem put_100 (g : Nat) (i : W.I) (n : Int) (w : World) (hI : InAt g i w) (hf : ∀ j, w.frozen? ⟨g, j, none⟩ = false) : Calls Tryz.prog 68 #[.pointer (some ⟨g, 0, none⟩), .int .i32 100, .int .i64 n] w fun e w' => e = .returned (.tuple #[]) ∧ InAt g (W.putI i 100 n) w' ∧ (∀ j, w'.frozen? ⟨g, j, none⟩ = false) ∧ Below g w w' ∧ ∀ k, k ≠ g → w'.heap[k]? = w.heap[k]? := by
  obtain ⟨z0, z1, z2, z3, z4, z5, z6, z7⟩ := hI
  have hg := World.block_lt_of_cell? _ _ z0
  go_enter Tryz.func68, Tryz.ntmps68
  go_wp2
  go_end0
  refine ⟨rfl, ?_, fun j => by simp [hf], (Below.refl g _).setCell (p := ⟨g, _, none⟩) (Nat.le_refl g) _, fun k hk => set_other _ g k _ _ hk⟩
  unfold InAt
  simp [go_sem, z0, z1, z2, z3, z4, z5, z6, z7, W.putI]

theorem put_49 (g : Nat) (i : W.I) (n : Int) (w : World) (hI : InAt g i w) (hf : ∀ j, w.frozen? ⟨g, j, none⟩ = false) : Calls Tryz.prog 68 #[.pointer (some ⟨g, 0, none⟩), .int .i32 49, .int .i64 n] w fun e w' => e = .returned (.tuple #[]) ∧ InAt g (W.putI i 49 n) w' ∧ (∀ j, w'.frozen? ⟨g, j, none⟩ = false) ∧ Below g w w' ∧ ∀ k, k ≠ g → w'.heap[k]? = w.heap[k]? := by
  obtain ⟨z0, z1, z2, z3, z4, z5, z6, z7⟩ := hI
  have hg := World.block_lt_of_cell? _ _ z0
  go_enter Tryz.func68, Tryz.ntmps68
  go_wp2
  go_end0
  refine ⟨rfl, ?_, fun j => by simp [hf], (Below.refl g _).setCell (p := ⟨g, _, none⟩) (Nat.le_refl g) _, fun k hk => set_other _ g k _ _ hk⟩
  unfold InAt
  simp [go_sem, z0, z1, z2, z3, z4, z5, z6, z7, W.putI]

theorem put_50 (g : Nat) (i : W.I) (n : Int) (w : World) (hI : InAt g i w) (hf : ∀ j, w.frozen? ⟨g, j, none⟩ = false) : Calls Tryz.prog 68 #[.pointer (some ⟨g, 0, none⟩), .int .i32 50, .int .i64 n] w fun e w' => e = .returned (.tuple #[]) ∧ InAt g (W.putI i 50 n) w' ∧ (∀ j, w'.frozen? ⟨g, j, none⟩ = false) ∧ Below g w w' ∧ ∀ k, k ≠ g → w'.heap[k]? = w.heap[k]? := by
  obtain ⟨z0, z1, z2, z3, z4, z5, z6, z7⟩ := hI
  have hg := World.block_lt_of_cell? _ _ z0
  go_enter Tryz.func68, Tryz.ntmps68
  go_wp2
  go_end0
  refine ⟨rfl, ?_, fun j => by simp [hf], (Below.refl g _).setCell (p := ⟨g, _, none⟩) (Nat.le_refl g) _, fun k hk => set_other _ g k _ _ hk⟩
  unfold InAt
  simp [go_sem, z0, z1, z2, z3, z4, z5, z6, z7, W.putI]

theorem put_99 (g : Nat) (i : W.I) (n : Int) (w : World) (hI : InAt g i w) (hf : ∀ j, w.frozen? ⟨g, j, none⟩ = false) : Calls Tryz.prog 68 #[.pointer (some ⟨g, 0, none⟩), .int .i32 99, .int .i64 n] w fun e w' => e = .returned (.tuple #[]) ∧ InAt g (W.putI i 99 n) w' ∧ (∀ j, w'.frozen? ⟨g, j, none⟩ = false) ∧ Below g w w' ∧ ∀ k, k ≠ g → w'.heap[k]? = w.heap[k]? := by
  obtain ⟨z0, z1, z2, z3, z4, z5, z6, z7⟩ := hI
  have hg := World.block_lt_of_cell? _ _ z0
  go_enter Tryz.func68, Tryz.ntmps68
  go_wp2
  go_end0
  refine ⟨rfl, ?_, fun j => by simp [hf], (Below.refl g _).setCell (p := ⟨g, _, none⟩) (Nat.le_refl g) _, fun k hk => set_other _ g k _ _ hk⟩
  unfold InAt
  simp [go_sem, z0, z1, z2, z3, z4, z5, z6, z7, W.putI]

theorem put_105 (g : Nat) (i : W.I) (n : Int) (w : World) (hI : InAt g i w) (hf : ∀ j, w.frozen? ⟨g, j, none⟩ = false) : Calls Tryz.prog 68 #[.pointer (some ⟨g, 0, none⟩), .int .i32 105, .int .i64 n] w fun e w' => e = .returned (.tuple #[]) ∧ InAt g (W.putI i 105 n) w' ∧ (∀ j, w'.frozen? ⟨g, j, none⟩ = false) ∧ Below g w w' ∧ ∀ k, k ≠ g → w'.heap[k]? = w.heap[k]? := by
  obtain ⟨z0, z1, z2, z3, z4, z5, z6, z7⟩ := hI
  have hg := World.block_lt_of_cell? _ _ z0
  go_enter Tryz.func68, Tryz.ntmps68
  go_wp2
  go_end0
  refine ⟨rfl, ?_, fun j => by simp [hf], (Below.refl g _).setCell (p := ⟨g, _, none⟩) (Nat.le_refl g) _, fun k hk => set_other _ g k _ _ hk⟩
  unfold InAt
  simp [go_sem, z0, z1, z2, z3, z4, z5, z6, z7, W.putI]

theorem put_117 (g : Nat) (i : W.I) (n : Int) (w : World) (hI : InAt g i w) (hf : ∀ j, w.frozen? ⟨g, j, none⟩ = false) : Calls Tryz.prog 68 #[.pointer (some ⟨g, 0, none⟩), .int .i32 117, .int .i64 n] w fun e w' => e = .returned (.tuple #[]) ∧ InAt g (W.putI i 117 n) w' ∧ (∀ j, w'.frozen? ⟨g, j, none⟩ = false) ∧ Below g w w' ∧ ∀ k, k ≠ g → w'.heap[k]? = w.heap[k]? := by
  obtain ⟨z0, z1, z2, z3, z4, z5, z6, z7⟩ := hI
  have hg := World.block_lt_of_cell? _ _ z0
  go_enter Tryz.func68, Tryz.ntmps68
  go_wp2_with (go_at_call 100; refine (left_any _ _ _).mono ?_; rintro e w1 ⟨rfl, rfl⟩)
  go_end0
  refine ⟨rfl, ?_, fun j => by simp [hf], (Below.refl g _).setCell (p := ⟨g, _, none⟩) (Nat.le_refl g) _, fun k hk => set_other _ g k _ _ hk⟩
  unfold InAt
  simp [go_sem, z0, z1, z2, z3, z4, z5, z6, z7, W.putI]

theorem put_112 (g : Nat) (i : W.I) (n : Int) (w : World) (hI : InAt g i w) (hf : ∀ j, w.frozen? ⟨g, j, none⟩ = false) : Calls Tryz.prog 68 #[.pointer (some ⟨g, 0, none⟩), .int .i32 112, .int .i64 n] w fun e w' => e = .returned (.tuple #[]) ∧ InAt g (W.putI i 112 n) w' ∧ (∀ j, w'.frozen? ⟨g, j, none⟩ = false) ∧ Below g w w' ∧ ∀ k, k ≠ g → w'.heap[k]? = w.heap[k]? := by
  obtain ⟨z0, z1, z2, z3, z4, z5, z6, z7⟩ := hI
  have hg := World.block_lt_of_cell? _ _ z0
  go_enter Tryz.func68, Tryz.ntmps68
  go_wp2_with (go_at_call 100; refine (left_any _ _ _).mono ?_; rintro e w1 ⟨rfl, rfl⟩)
  go_end0
  refine ⟨rfl, ?_, fun j => by simp [hf], (Below.refl g _).setCell (p := ⟨g, _, none⟩) (Nat.le_refl g) _, fun k hk => set_other _ g k _ _ hk⟩
  unfold InAt
  simp [go_sem, z0, z1, z2, z3, z4, z5, z6, z7, W.putI]

theorem put_115 (g : Nat) (i : W.I) (n : Int) (w : World) (hI : InAt g i w) (hf : ∀ j, w.frozen? ⟨g, j, none⟩ = false) : Calls Tryz.prog 68 #[.pointer (some ⟨g, 0, none⟩), .int .i32 115, .int .i64 n] w fun e w' => e = .returned (.tuple #[]) ∧ InAt g (W.putI i 115 n) w' ∧ (∀ j, w'.frozen? ⟨g, j, none⟩ = false) ∧ Below g w w' ∧ ∀ k, k ≠ g → w'.heap[k]? = w.heap[k]? := by
  obtain ⟨z0, z1, z2, z3, z4, z5, z6, z7⟩ := hI
  have hg := World.block_lt_of_cell? _ _ z0
  go_enter Tryz.func68, Tryz.ntmps68
  go_wp2
  go_end0
  refine ⟨rfl, ?_, fun j => by simp [hf], (Below.refl g _).setCell (p := ⟨g, _, none⟩) (Nat.le_refl g) _, fun k hk => set_other _ g k _ _ hk⟩
  unfold InAt
  simp [go_sem, z0, z1, z2, z3, z4, z5, z6, z7, W.putI]

end Go.Proofs.YtnejdkadmdelaaaGreatDoor

/- Numbers read, of base 0: as they are written. -/
namespace Go.Proofs.YtnejdkadmdelaaaGreatDoor
open Go.ChangeShapes Go.WideShapes Go.ChangeAt Go.RowKit
set_option linter.unusedVariables false
set_option linter.unusedSimpArgs false

namespace W
/-- The value of decimal digits, behind what stands ahead of them. -/
def dv : List UInt8 → Nat → Nat
  | [], a => a
  | c :: r, a => dv r (a * 10 + (c.toNat - 48))
theorem dv_le : ∀ (l : List UInt8) (a : Nat), a ≤ dv l a
  | [], a => Nat.le_refl _
  | c :: r, a => Nat.le_trans (by omega) (dv_le r (a * 10 + (c.toNat - 48)))
def dig (c : UInt8) : Prop := 48 ≤ c.toNat ∧ c.toNat ≤ 57
end W

set_option maxRecDepth 1000000 in
set_option maxHeartbeats 6400000 in
theorem pu_ten (t : ByteArray) (hne : t.size ≠ 0) (hmax : t.size ≤ 1000) (h0 : (((t[0]'(Nat.pos_of_ne_zero hne)).toNat : Int) == 48) = false) (hall : ∀ c ∈ t.data.toList, W.dig c) (V : Nat) (hV : W.dv t.data.toList 0 = V) (hV2 : V < 18446744073709551616) (w : World) : Calls Tryz.prog 142 #[.string t, .int .i64 0, .int .i64 64] w fun e w' => e = .returned (.tuple #[.int .u64 V, .nilIface]) ∧ w' = Lib.bytesWorld w 5 t := by
  have hemp : t.toList.isEmpty = false := by
    rw [← decide_eq_emptyBytes]
    exact decide_eq_false (fun h => hne (by rw [h]; rfl))
  have i0 : (0 : Int) < (t.size : Int) := by omega
  have hcv := Lib.run_convert_string_bytes (P := Tryz.prog) w 9 54 5 t (u := .string) Tryz.underlying9 Tryz.underlying54 Tryz.underlying5
  have hB : ∀ j, j < t.size → (Lib.bytesWorld w 5 t).cell? ⟨w.heap.size, j, none⟩ = some (.int .u8 (t.data.toList.getD j 0).toNat) := fun j hj => Lib.bytesWorld_cell w 5 t j hj
  obtain ⟨W1, hW1⟩ : ∃ W1, W1 = Lib.bytesWorld w 5 t := ⟨_, rfl⟩
  rw [← hW1] at hcv hB ⊢
  clear hW1
  obtain ⟨bs, hL⟩ : ∃ bs, bs = t.data.toList := ⟨_, rfl⟩
  have hLn : bs.length = t.size := by rw [hL, Lib.size_eq]
  rw [← hL] at hB hall hV
  clear hL
  have hmv : IntKind.u64.wrap (IntKind.u64.wrap 18446744073709551616 - 1) = 18446744073709551615 := by
    rw [IntKind.wrap_u64, IntKind.wrap_u64]
    decide
  go_enter Tryz.func142, Tryz.ntmps142
  go_wp2
  go_loop [12, 13, 101] (fun vu vn vi => ∃ (k acc : Nat) (a : Int), vu = .bool false ∧ vn = .int .u64 a ∧ vi = .int .i64 k ∧ k ≤ t.size ∧ Hid (a = (acc : Int) ∧ W.dv (bs.drop k) acc = V))
    (fun _ _ vi => t.size - (intOf vi).toNat)
  case atStart => exact ⟨0, 0, 0, rfl, rfl, rfl, by omega, rfl, hV⟩
  case round =>
    obtain ⟨k, acc, a, rfl, rfl, rfl, hk, hh⟩ := hrel
    obtain ⟨ha, hdec⟩ := hh.out
    clear hh
    by_cases hkn : k < t.size
    · have hc := hB k hkn
      have hdrop : bs.drop k = bs[k]'(by omega) :: bs.drop (k + 1) := List.drop_eq_getElem_cons (by omega)
      have hget : bs.getD k 0 = bs[k]'(by omega) := by simp [List.getD, List.getElem?_eq_getElem (show k < bs.length by omega)]
      have hdg : W.dig (bs[k]'(by omega)) := hall _ (List.getElem_mem _)
      rw [hdrop] at hdec
      rw [hget] at hc
      generalize bs[k]'(by omega) = c at hc hdec hdg
      obtain ⟨hd0, hd1⟩ := hdg
      have hle := W.dv_le (bs.drop (k + 1)) (acc * 10 + (c.toNat - 48))
      have hdec2 : W.dv (bs.drop (k + 1)) (acc * 10 + (c.toNat - 48)) = V := hdec
      have a0 : 0 ≤ a := by omega
      have icut : a < 1844674407370955162 := by omega
      have iov : a * 10 + ((c.toNat : Int) - 48) < 18446744073709551616 := by omega
      have HN : Hid (a * 10 + ((c.toNat : Int) - 48) = ((acc * 10 + (c.toNat - 48) : Nat) : Int) ∧ W.dv (bs.drop (k + 1)) (acc * 10 + (c.toNat - 48)) = V) := (⟨by omega, hdec2⟩ : a * 10 + ((c.toNat : Int) - 48) = ((acc * 10 + (c.toNat - 48) : Nat) : Int) ∧ W.dv (bs.drop (k + 1)) (acc * 10 + (c.toNat - 48)) = V)
      have h95 : ((c.toNat : Int) == 95) = false := by simp; omega
      clear hB hdrop hget hall hdec hdec2 hle ha
      go_wp2
      refine ⟨⟨k + 1, acc * 10 + (c.toNat - 48), a * 10 + ((c.toNat : Int) - 48), rfl, (by first | rfl | (congr 1; omega)), (by first | rfl | (congr 1; omega)), by omega, HN⟩, by simp [intOf]; omega⟩
    · have hkk : k = t.size := by omega
      subst hkk
      rw [List.drop_eq_nil_of_le (by omega)] at hdec
      have hav : a = (V : Int) := by rw [ha]; exact congrArg _ hdec
      subst hav
      clear hall hB
      go_wp2
      go_ret2
      exact ⟨rfl, rfl⟩
end Go.Proofs.YtnejdkadmdelaaaGreatDoor
