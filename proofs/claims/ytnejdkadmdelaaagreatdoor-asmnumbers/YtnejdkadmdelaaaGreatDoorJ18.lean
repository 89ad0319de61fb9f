/- Texts in one: OpOf, SeeW, RefA, RefD0, RefDW. -/
import Derived.Test.YtnejdkadmdelaaaGreatDoorJ10
import Derived.Test.YtnejdkadmdelaaaGreatDoorJ13
import Derived.Test.YtnejdkadmdelaaaGreatDoorJ17
/- What slices.Index and Op answer. -/
namespace Go.Proofs.YtnejdkadmdelaaaGreatDoor
open Go.ChangeShapes Go.WideShapes Go.ChangeAt Go.RowKit
set_option linter.unusedVariables false
set_option linter.unusedSimpArgs false

namespace W
/-- The first name from the k-th on that is L; -1: none. -/
def fidx (L : List UInt8) : Nat → Nat → Int
  | _, 0 => -1
  | k, n + 1 => bif L == nameAt k then (k : Int) else fidx L (k + 1) n
theorem fidx_step {L : List UInt8} {k : Nat} (hk : k < 70) : fidx L k (70 - k) = bif L == nameAt k then (k : Int) else fidx L (k + 1) (70 - (k + 1)) := by
  have : 70 - k = (70 - (k + 1)) + 1 := by omega
  rw [this, fidx]
end W
/-- The names lie in block g. -/
structure Nt (g : Nat) (wc : World) : Prop where
  lt : g < wc.heap.size
  cells : ∀ k, k < 70 → wc.cell? ⟨g, k, none⟩ = some (.string ⟨(W.nameAt k).toArray⟩)

set_option maxRecDepth 100000 in
set_option maxHeartbeats 1600000 in
theorem index_any (L : List UInt8) (g : Nat) (w : World) (hN : Nt g w) : Calls Tryz.prog 97 #[.slice (some ⟨g, 0, none⟩) 70 70, .string ⟨L.toArray⟩] w fun e w' => e = .returned (.int .i64 (W.fidx L 0 70)) ∧ w = w' := by
  have HN : Hid (Nt g w) := hN
  clear hN
  go_enter Tryz.func97, Tryz.ntmps97
  go_wp2
  go_loopw [8] (fun i wr => ∃ k : Nat, k ≤ 70 ∧ i = .int .i64 k ∧ wr = w ∧ W.fidx L 0 70 = W.fidx L k (70 - k)) (fun i _ => (70 - intOf i).toNat)
  case atStart => exact ⟨0, by omega, rfl, rfl, rfl⟩
  case round =>
    obtain ⟨k, hk, rfl, rfl, hD⟩ := hrel
    have HD : Hid (W.fidx L 0 70 = W.fidx L k (70 - k)) := hD
    clear hD
    by_cases hlt : k < 70
    · have c := HN.out.cells k hlt
      have hl0 : (0 : Int) ≤ (k : Int) := by omega
      have hl1 : (k : Int) < 70 := by omega
      have hst := W.fidx_step (L := L) hlt
      cases ht : (L == W.nameAt k)
      · have H2 : Hid (W.fidx L 0 70 = W.fidx L (k + 1) (70 - (k + 1))) := (by rw [HD.out, hst, ht]; rfl : W.fidx L 0 70 = _)
        clear hst
        generalize W.nameAt k = nk at *
        go_wp2
        go_roundw
        case rel => exact ⟨k + 1, by omega, by go_num, trivial, H2.out⟩
        case measure => simp [intOf]; omega
      · have H2 : Hid (W.fidx L 0 70 = (k : Int)) := (by rw [HD.out, hst, ht]; rfl : W.fidx L 0 70 = _)
        clear hst
        generalize W.nameAt k = nk at *
        go_wp2
        go_ret
        exact ⟨ret_int H2.out.symm, rfl⟩
    · obtain rfl : k = 70 := by omega
      go_wp2
      go_ret
      exact ⟨ret_int HD.out.symm, rfl⟩

set_option maxRecDepth 100000 in
set_option maxHeartbeats 1600000 in
theorem op_any (L : List UInt8) (w : World) : Calls Tryz.prog 65 #[.string ⟨L.toArray⟩] w fun e w' => e = .returned (.int .i64 (max 0 (W.fidx L 0 70))) ∧ Below w.heap.size w w' := by
  have hst : ∀ w : World, (storeCells ⟨w.heap.size, 0, none⟩ namesA.toList 0).run Tryz.prog (w.alloc (.cells Tryz.zeroCells128 128)) = .ok () (w.alloc (.cells namesA 128)) := fun w =>
    run_storeCells_new w 128 _ _ (by kernel_rfl) (by kernel_rfl) (by kernel_rfl)
  have hb : Below w.heap.size w w := Below.refl _ _
  have hn : namesA.size = 70 := by kernel_rfl
  generalize hI : W.fidx L 0 70 = I
  have HI : Hid (W.fidx L 0 70 = I) := hI
  clear hI
  go_enter Tryz.func65, Tryz.ntmps65
  go_wp2_with (first
    | (go_at_call 86; refine (from_ (names_any _) hb).mono ?_; clear hb; rintro e w1 ⟨rfl, hb⟩)
    | (go_at_call 97; refine (index_any L w1.heap.size _ ⟨by simp, fun k hk => (cell_of_row _ _ k namesA 128 (0, 0) (heap_alloc_last w1 _)).trans (namesA_at k hk)⟩).mono ?_; rintro e w' ⟨rfl, rfl⟩; rw [HI.out]))
  all_goals
    go_ret
    exact ⟨ret_int (by omega), hb.alloc hb.size _⟩
end Go.Proofs.YtnejdkadmdelaaaGreatDoor

/- The look at any of the errors. -/
namespace Go.Proofs.YtnejdkadmdelaaaGreatDoor
open Go.ChangeShapes Go.WideShapes Go.ChangeAt Go.RowKit
set_option linter.unusedVariables false
set_option linter.unusedSimpArgs false

set_option maxHeartbeats 1600000 in
theorem is_at (A : Nat → Addr) (p : Nat) (hk : p < 11) (c : Int) (w : World) (hS : Sent A w) :
    Calls Tryz.prog 14 #[ptr A (perm p), .int .i64 c] w fun e w' => e = .returned (.bool ((101 + (p : Int)) == c)) ∧ Below w.heap.size w w' := by
  have same : ∀ w : World, Sent A w → Calls Tryz.prog 19 #[ptr A (perm p), .agg #[.int .i64 c, .slice none 0 0]] w fun e w' => e = .returned (.bool ((101 + (p : Int)) == c)) ∧ Below w.heap.size w w' := by
    intro w hS
    have HS : Hid (Sent A w) := hS
    have Hk : Hid (p < 11) := hk
    clear hS hk
    generalize hv : ptr A (perm p) = v
    have HV : Hid (v = ptr A (perm p)) := hv.symm
    clear hv
    go_enter Tryz.func19, Tryz.ntmps19
    go_wp2_with (first
      | (go_at_call 43; rw [HV.out]; refine (faultOf_some A p Hk.out _ (HS.out.below ((Below.refl _ _).alloc (Nat.le_refl _) _))).mono ?_; rintro e w1 ⟨rfl, hb1⟩; have hlt : w.heap.size < w1.heap.size := (by have := hb1.size; simp at this; omega); have x0 := hb1.cell (p := ⟨w.heap.size, 0, none⟩) (by simp); have x1 := hb1.cell (p := ⟨w.heap.size, 1, none⟩) (by simp); simp [go_sem] at x0 x1; have hb : Below w.heap.size w w1 := ((Below.refl _ _).alloc (Nat.le_refl _) _).trans (hb1.mono (by simp)); clear hb1)
      | (go_at_call 44; refine (sameFault_any _ _ _).mono ?_; rintro e w2 ⟨rfl, hb2⟩; have hq := hb.trans ((((Below.refl _ _).alloc (Nat.le_refl _) _).trans (hb2.mono (by simp))).mono hb.size)))
    go_ret
    exact ⟨rfl, hq⟩
  generalize hv : ptr A (perm p) = v at same ⊢
  have HV : Hid (v = ptr A (perm p)) := hv.symm
  have HS : Hid (Sent A w) := hS
  have Sm : Hid (∀ w : World, Sent A w → Calls Tryz.prog 19 #[v, .agg #[.int .i64 c, .slice none 0 0]] w fun e w' => e = .returned (.bool ((101 + (p : Int)) == c)) ∧ Below w.heap.size w w') := same
  clear hv hS same hk
  go_enter Tryz.func14, Tryz.ntmps14
  go_wp2_with (first
    | (go_at_call 39; refine (bare_any _ _).mono ?_; rintro e w1 ⟨rfl, hb1⟩)
    | (go_at_call 19; refine (Sm.out _ (HS.out.below hb1)).mono ?_; rintro e w2 ⟨rfl, hb2⟩))
  go_ret
  exact ⟨rfl, hb1.trans (hb2.mono hb1.size)⟩


theorem is_word (A : Nat → Addr) (c : Int) (w : World) (hS : Sent A w) : Calls Tryz.prog 14 #[errV A 6, .int .i64 c] w fun e w' => e = .returned (.bool ((105 : Int) == c)) ∧ Below w.heap.size w w' :=
  is_at A 4 (by omega) c w hS
end Go.Proofs.YtnejdkadmdelaaaGreatDoor

/- What the document's Encode returns. -/
namespace Go.Proofs.YtnejdkadmdelaaaGreatDoor
open Go.ChangeShapes Go.WideShapes Go.ChangeAt Go.RowKit
set_option linter.unusedVariables false
set_option linter.unusedSimpArgs false

theorem renc_kind (i : W.I) (w : World) (h : ¬ (1 ≤ i.op ∧ i.op ≤ 69)) : Calls Tryz.prog 10 #[inV i] w fun e w' => e = .returned (.tuple #[.int .u32 0, .int .i64 102]) ∧ Below w.heap.size w w' := by
  unfold inV
  have H : Hid (¬ (1 ≤ i.op ∧ i.op ≤ 69)) := h
  clear h
  go_enter Tryz.func10, Tryz.ntmps10
  go_wp2_with (go_at_call 27; refine (of_none _ H.out _).mono ?_; rintro e w1 ⟨rfl, hm⟩; have hb : Hid (Below w.heap.size w w1) := ((Below.refl _ _).alloc (Nat.le_refl _) _).trans (hm.mono (by simp)); clear hm)
  exact bodyPost_ret (v := .tuple #[.int .u32 0, .int .i64 102]) (by simp [results, Tryz.results10, go_sem]) rfl ⟨rfl, by repeat (first | exact hb.out | exact hb.out.alloc hb.out.size _)⟩

/-- A row lies in block g. -/
def RwAt (g : Nat) (r : W.Rw) (wc : World) : Prop :=
  wc.cell? ⟨g, 0, none⟩ = some (.int .i64 r.op) ∧ wc.cell? ⟨g, 1, none⟩ = some (.string ⟨r.name.toArray⟩) ∧ wc.cell? ⟨g, 2, none⟩ = some (.int .u32 r.oc) ∧ wc.cell? ⟨g, 3, none⟩ = some (.int .u32 r.f3) ∧ wc.cell? ⟨g, 4, none⟩ = some (.int .u32 r.f7) ∧ wc.cell? ⟨g, 5, none⟩ = some (.bool r.h3) ∧ wc.cell? ⟨g, 6, none⟩ = some (.bool r.h7) ∧ wc.cell? ⟨g, 7, none⟩ = some (.int .u8 r.fm) ∧ wc.cell? ⟨g, 8, none⟩ = some (.bool r.rd) ∧ wc.cell? ⟨g, 9, none⟩ = some (.bool r.rs1) ∧ wc.cell? ⟨g, 10, none⟩ = some (.bool r.rs2) ∧ wc.cell? ⟨g, 11, none⟩ = some (.bool r.csr) ∧ wc.cell? ⟨g, 12, none⟩ = some (.int .u32 r.wh) ∧ wc.cell? ⟨g, 13, none⟩ = some (.bool r.pair)
theorem RwAt.below {g : Nat} {r : W.Rw} {a b : World} (h : RwAt g r a) (hm : Below a.heap.size a b) : RwAt g r b := by
  have hg := World.block_lt_of_cell? _ _ h.1
  have q : ∀ j, b.cell? ⟨g, j, none⟩ = a.cell? ⟨g, j, none⟩ := fun j => hm.cell hg
  unfold RwAt
  simp only [q]
  exact h
theorem RwAt.start (w : World) (r : W.Rw) (t : TypeId) : RwAt w.heap.size r (w.alloc (.cells (rwA r) t)) := by
  unfold RwAt rwA; simp [go_sem]

namespace W
/-- Are only fields told that the row has? -/
def shOk (r : Rw) (i : I) : Bool := (r.rd || i.rd == 0) && ((r.rs1 || i.rs1 == 0) && ((r.rs2 || i.rs2 == 0) && ((r.csr || i.csr == 0) && ((!(r.fm == 0) || i.imm == 0) && (r.pair || (!i.aq && !i.rl))))))
end W

end Go.Proofs.YtnejdkadmdelaaaGreatDoor

/- What the document's Decode returns. -/
namespace Go.Proofs.YtnejdkadmdelaaaGreatDoor
open Go.ChangeShapes Go.WideShapes Go.ChangeAt Go.RowKit
set_option linter.unusedVariables false
set_option linter.unusedSimpArgs false

theorem rows_tb2 (w : World) : Calls Tryz.prog 36 #[] w fun e w' => ∃ g, e = .returned (.slice (some ⟨g, 0, none⟩) 69 69) ∧ Tb g w' ∧ w.heap.size ≤ g ∧ Below w.heap.size w w' :=
  (rows_any w).mono fun e w' ⟨w1, hb, he, hw⟩ => ⟨w1.heap.size, he, by rw [hw]; exact Tb.start w1 _, hb.size, by rw [hw]; exact hb.alloc hb.size _⟩

/-- What holds at each row: the table, the room for the answer, no row behind that fits. -/
structure Dc (x : Int) (g : Nat) (w : World) (j : Nat) (wr : World) : Prop where
  bel : Below w.heap.size w wr
  tab : Tb g wr
  lt : w.heap.size < g
  room : Room w.heap.size 8 wr
  none : ∀ m, m < j → W.hit x (m + 1) = false
theorem Dc.below {x : Int} {g : Nat} {w a b : World} {j : Nat} (h : Dc x g w j a) (hm : Below a.heap.size a b) : Dc x g w j b :=
  ⟨h.bel.trans (hm.mono h.bel.size), h.tab.below hm, h.lt, h.room.below hm (Nat.lt_trans h.lt h.tab.lt), h.none⟩
theorem Dc.step {x : Int} {g : Nat} {w a : World} {j : Nat} (h : Dc x g w j a) (hh : W.hit x (j + 1) = false) : Dc x g w (j + 1) a :=
  ⟨h.bel, h.tab, h.lt, h.room, fun m hm => by rcases Nat.lt_succ_iff_lt_or_eq.1 hm with h1 | h1; exact h.none m h1; rw [h1]; exact hh⟩

theorem rdec_hit {x : Int} {j : Nat} (x0 : 0 ≤ x) (x1 : x < 4294967296) (hj : j < 69) (h : W.hit x (j + 1) = true) : W.decI x = W.rread (W.rw j) x ∧ W.decB x = true := by
  have hd : W.dec x = j + 1 := W.dec_eq (by omega) (by omega) x0 x1 h
  rw [W.decI, W.decB, hd, W.rread_eq hj]
  exact ⟨rfl, by simp⟩
theorem rdec_none {x : Int} (h : ∀ m, m < 69 → W.hit x (m + 1) = false) : W.decI x = ⟨0, 0, 0, 0, 0, 0, false, false⟩ ∧ W.decB x = false := by
  have hd : W.dec x = 0 := by
    rcases W.decFrom_hit x 69 1 with h1 | h1
    · exact h1
    · exfalso
      have := h (W.decFrom x 1 69 - 1) (by omega)
      rw [show W.decFrom x 1 69 - 1 + 1 = W.decFrom x 1 69 by omega, h1.2.2] at this
      cases this
  rw [W.decI, W.decB, hd]
  exact ⟨rfl, rfl⟩

theorem rimm_lt (f x : Int) : 0 ≤ W.rimm f x ∧ W.rimm f x < 4294967296 := by
  unfold W.rimm
  cases (f == 90) <;> cases (f == 67) <;> cases (f == 70) <;> simp only [cond_true, cond_false] <;> first | exact W.bitsOf_lt _ _ _ | exact W.imm_lt _ _

theorem word_rd (r : W.Rw) (x V : Int) (w : World) (hV : W.rword r (W.rread r x) = V) : Calls Tryz.prog 30 #[rwV r, inV (W.rread r x)] w fun e w' => e = .returned (.int .u32 V) ∧ Below w.heap.size w w' := by
  rw [← hV]
  exact word_any r (W.rread r x) w (rimm_lt _ _).1 (rimm_lt _ _).2

/-- The first loop of a text. -/
def loopIn : Code → Option Code
  | .loop c => some c
  | .seq a b => (loopIn a).or (loopIn b)
  | .block _ c => loopIn c
  | .scope c => loopIn c
  | .cond _ a b => (loopIn a).or (loopIn b)
  | _ => none
noncomputable def decBody : Code := (Tryz.f18.body.bind loopIn).getD .skip

set_option maxRecDepth 1000000 in
/-- The slots at the loop's head. -/
def decFr (x : Int) (b g : Nat) (u : Nat → Value) (v : Value) : Act := ⟨#[.int .u32 x, undef, .pointer (some ⟨b, 0, none⟩), u 3, .slice (some ⟨g, 0, none⟩) 69 69, v, u 6, u 7, .slice (some ⟨g, 0, none⟩) 69 69, u 9, u 10, u 11, u 12, u 13, u 14, u 15, u 16, u 17, u 18, u 19, u 20, u 21, u 22, u 23, u 24, u 25, u 26, u 27, u 28, u 29, u 30, u 31, u 32, u 33, u 34, u 35, u 36, u 37, u 38, u 39, u 40, u 41, u 42, u 43, u 44, u 45, u 46, u 47, u 48, u 49, u 50, u 51, u 52, u 53, u 54, u 55, u 56, u 57, u 58, u 59, u 60, u 61, u 62, u 63, u 64, u 65, u 66, u 67, u 68, u 69, u 70, u 71, u 72, u 73, u 74, u 75, u 76, undef], []⟩
def DI (x : Int) (g : Nat) (w : World) (a : Act) (w' : World) : Prop := ∃ j : Nat, j ≤ 69 ∧ a = decFr x w.heap.size g (fun n => a.tmps.getD n undef) (.int .i64 j) ∧ Dc x g w j w'
def Dmu (a : Act) (_ : World) : Nat := (69 - intOf (a.tmps.getD 5 undef)).toNat

abbrev DQ (x : Int) (w : World) : Exit → Act → World → Prop := bodyPost Tryz.prog Tryz.f18 fun e w' => e = .returned (.tuple #[inV (W.decI x), .bool (W.decB x)]) ∧ Below w.heap.size w w'

end Go.Proofs.YtnejdkadmdelaaaGreatDoor

/- What the document's Decode returns: whole words. -/
namespace Go.Proofs.YtnejdkadmdelaaaGreatDoor
open Go.ChangeShapes Go.WideShapes Go.ChangeAt Go.RowKit
set_option linter.unusedVariables false
set_option linter.unusedSimpArgs false

set_option maxRecDepth 100000 in
set_option maxHeartbeats 6400000 in
theorem dec_whole (x : Int) (g : Nat) (w wr : World) (j : Nat) (u : Nat → Value) (Q0 : Exit → Act → World → Prop) (X : Hid (0 ≤ x ∧ x < 4294967296)) (HD : Hid (Dc x g w j wr)) (hj1 : (j : Int) < 69) (hret : Hid (∀ a w', DQ x w .ret a w' → Q0 .ret a w')) (ro : Int) (nm : List UInt8) (oc f3 f7 : Int) (h3 h7 : Bool) (fm : Int) (rd rs1 rs2 csr : Bool) (wh : Int) (pair : Bool) (HR : Hid (W.rw j = ⟨ro, nm, oc, f3, f7, h3, h7, fm, rd, rs1, rs2, csr, wh, pair⟩)) (hw : (wh != 0) = true) : Code.wp Tryz.prog decBody (Exit.then (fun a' w' => DI x g w a' w' ∧ Dmu a' w' < Dmu (decFr x w.heap.size g u (.int .i64 j)) wr) Q0) (decFr x w.heap.size g u (.int .i64 j)) wr := by
  have hg : g < wr.heap.size := HD.out.tab.lt
  have hlw : w.heap.size < g := HD.out.lt
  have hj0 : (0 : Int) ≤ (j : Int) := by omega
  have hlt : w.heap.size < wr.heap.size := Nat.lt_trans hlw hg
  obtain ⟨r, hr, ho, c0, c1, c2, c3, c4, c5, c6, c7, c8, c9, c10, c11, c12, c13⟩ := HD.out.tab.at j (by omega)
  obtain rfl := hr.symm.trans HR.out
  clear hr ho
  dsimp only at c0 c1 c2 c3 c4 c5 c6 c7 c8 c9 c10 c11 c12 c13
  obtain ⟨v0, v1, v2, v3, v4, v5, v6, v7, r0, r1, r2, r3, r4, r5, r6, r7, r8⟩ := HD.out.room.eight
  have hit : Hid ((x == wh) = W.hit x (j + 1)) := by
    have := W.whole_hit (k := j) (by omega) X.out.1 X.out.2 (by rw [HR.out]; exact hw)
    rw [HR.out] at this
    exact this
  have hin : Hid (W.rread (W.rw j) x = ⟨ro, 0, 0, 0, 0, 0, false, false⟩) := by
    have h1 := W.rread_eq (k := j) (by omega) x
    rw [W.whole_read (k := j) (by omega) x (by rw [HR.out]; exact hw)] at h1
    have h2 : (W.rw j).op = ro := congrArg W.Rw.op HR.out
    have h3 : (W.rw j).op = ((j + 1 : Nat) : Int) := by simp [W.rw]
    rw [← h3, h2] at h1
    exact h1
  cases hx : (x == wh)
  · unfold decFr
    conv => arg 2; whnf
    go_wp2
    refine ⟨⟨j + 1, by omega, rfl, (HD.out.below ((Below.refl _ _).alloc (Nat.le_refl _) _)).step (by rw [← hit.out, hx])⟩, ?_⟩
    simp [Dmu, intOf]
    omega
  · have hx' : Hid ((x == wh) = true) := hx
    unfold decFr
    conv => arg 2; whnf
    go_wp2
    have hd := rdec_hit X.out.1 X.out.2 (show j < 69 by omega) (by rw [← hit.out, hx'.out])
    refine hret.out _ _ (bodyPost_ret (v := .tuple #[inV ⟨ro, 0, 0, 0, 0, 0, false, false⟩, .bool true]) ?_ rfl ⟨by rw [hd.1, hd.2, hin.out], ?_⟩)
    · simp [results, Tryz.results18, go_sem, inV, r0, r1, r2, r3, r4, r5, r6, r7, hlt]
    · refine Below.alloc ?_ ?_ _
      · exact (((((((((HD.out.bel.setCell (Nat.le_refl _) _).setCell (Nat.le_refl _) _).setCell (Nat.le_refl _) _).setCell (Nat.le_refl _) _).setCell (Nat.le_refl _) _).setCell (Nat.le_refl _) _).setCell (Nat.le_refl _) _).setCell (Nat.le_refl _) _))
      · have := HD.out.bel.size
        simp
        omega

end Go.Proofs.YtnejdkadmdelaaaGreatDoor
