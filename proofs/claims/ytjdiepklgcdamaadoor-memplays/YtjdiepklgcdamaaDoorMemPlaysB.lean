/- MemPlays: both memories and the copy, while calls go on. -/
import Derived.Test.YtjdiepklgcdamaaDoorMemPlaysA
namespace Go.Proofs.YtjdiepklgcdamaaDoor
open Go.ChangeShapes Go.WideShapes Go.ChangeAt Go.RowKit
set_option linter.unusedVariables false
set_option linter.unusedSimpArgs false

/-- Since the world w: a memory and the document's memory with the words G, a copy with the words F. -/
structure Py (w : World) (bm cm bx cx bk ck n capk : Nat) (F G : Nat → Int) (wr : World) : Prop where
  bel : Below w.heap.size w wr
  m : MAt bm cm n n G wr
  x : RAt bx cx n G wr
  k : MAt bk ck n capk F wr
  lm : w.heap.size ≤ cm
  lx : w.heap.size ≤ cx
  p1 : bx ≠ cm
  p2 : cx ≠ cm
  p3 : bk ≠ cm
  p4 : ck ≠ cm
  p5 : bm ≠ cx
  p6 : bk ≠ cx
  p7 : ck ≠ cx
theorem Py.call {w : World} {bm cm bx cx bk ck n capk : Nat} {F G : Nat → Int} {wr w' : World} (h : Py w bm cm bx cx bk ck n capk F G wr) (hb : Below wr.heap.size wr w') : Py w bm cm bx cx bk ck n capk F G w' :=
  ⟨h.bel.trans (hb.mono h.bel.size), h.m.below hb, h.x.below hb, h.k.below hb, h.lm, h.lx, h.p1, h.p2, h.p3, h.p4, h.p5, h.p6, h.p7⟩
/-- The memory has been written, the document's not yet. -/
structure Pz (w : World) (bm cm bx cx bk ck n capk : Nat) (F G G' : Nat → Int) (wr : World) : Prop where
  bel : Below w.heap.size w wr
  m : MAt bm cm n n G' wr
  x : RAt bx cx n G wr
  k : MAt bk ck n capk F wr
  lm : w.heap.size ≤ cm
  lx : w.heap.size ≤ cx
  p1 : bx ≠ cm
  p2 : cx ≠ cm
  p3 : bk ≠ cm
  p4 : ck ≠ cm
  p5 : bm ≠ cx
  p6 : bk ≠ cx
  p7 : ck ≠ cx
theorem Py.onM {w : World} {bm cm bx cx bk ck n capk : Nat} {F G G' : Nat → Int} {wr w' : World} (h : Py w bm cm bx cx bk ck n capk F G wr) (hm : MAt bm cm n n G' w') (hg : wr.grownBy w' (some cm)) : Pz w bm cm bx cx bk ck n capk F G G' w' :=
  ⟨h.bel.grown hg h.bel.size (fun k hk => by cases hk; exact h.lm), hm, h.x.kept hg h.p1 h.p2, h.k.kept hg h.p3 h.p4, h.lm, h.lx, h.p1, h.p2, h.p3, h.p4, h.p5, h.p6, h.p7⟩
theorem Pz.onX {w : World} {bm cm bx cx bk ck n capk : Nat} {F G G' : Nat → Int} {wr w' : World} (h : Pz w bm cm bx cx bk ck n capk F G G' wr) (hx : RAt bx cx n G' w') (hg : wr.grownBy w' (some cx)) : Py w bm cm bx cx bk ck n capk F G' w' :=
  ⟨h.bel.grown hg h.bel.size (fun k hk => by cases hk; exact h.lx), h.m.kept hg h.p5 h.p2.symm, hx, h.k.kept hg h.p6 h.p7, h.lm, h.lx, h.p1, h.p2, h.p3, h.p4, h.p5, h.p6, h.p7⟩
theorem Py.drew {w : World} {bm cm bx cx bk ck n capk : Nat} {F G : Nat → Int} {wr : World} (h : Py w bm cm bx cx bk ck n capk F G wr) : Py w bm cm bx cx bk ck n capk F G wr.drew := h.call (Below.refl _ _).drew

/-- A thing that is told, in block b. -/
structure Dt (b : Nat) (dk ds di : Int) (da : Nat) (dv : Int) (dl : Nat → Int) (w : World) : Prop where
  out : w.heap[b]? = some (.cells #[.int .i64 dk, .int .i64 ds, .int .i64 di, .int .u32 (da : Int), .int .u32 dv, .int .u32 (dl 0), .int .u32 (dl 1), .int .u32 (dl 2), .int .u32 (dl 3)] 40)
theorem Dt.lt {b : Nat} {dk ds di : Int} {da : Nat} {dv : Int} {dl : Nat → Int} {w : World} (h : Dt b dk ds di da dv dl w) : b < w.heap.size := (Array.getElem?_eq_some_iff.1 h.out).1
theorem Dt.cells {b : Nat} {dk ds di : Int} {da : Nat} {dv : Int} {dl : Nat → Int} {w : World} (h : Dt b dk ds di da dv dl w) : w.cell? ⟨b, 0, none⟩ = some (.int .i64 dk) ∧ w.cell? ⟨b, 1, none⟩ = some (.int .i64 ds) ∧ w.cell? ⟨b, 2, none⟩ = some (.int .i64 di) ∧ w.cell? ⟨b, 3, none⟩ = some (.int .u32 (da : Int)) ∧ w.cell? ⟨b, 4, none⟩ = some (.int .u32 dv) ∧ w.cell? ⟨b, 5, none⟩ = some (.int .u32 (dl 0)) ∧ w.cell? ⟨b, 6, none⟩ = some (.int .u32 (dl 1)) ∧ w.cell? ⟨b, 7, none⟩ = some (.int .u32 (dl 2)) ∧ w.cell? ⟨b, 8, none⟩ = some (.int .u32 (dl 3)) := by
  have e := h.out
  simp only [World.cell?, e]
  simp
theorem Dt.below {b : Nat} {dk ds di : Int} {da : Nat} {dv : Int} {dl : Nat → Int} {w w' : World} (h : Dt b dk ds di da dv dl w) (hb : Below w.heap.size w w') : Dt b dk ds di da dv dl w' := ⟨(hb.block b h.lt).trans h.out⟩
theorem Dt.kept {b d : Nat} {dk ds di : Int} {da : Nat} {dv : Int} {dl : Nat → Int} {w w' : World} (h : Dt b dk ds di da dv dl w) (hg : w.grownBy w' (some d)) (hne : b ≠ d) : Dt b dk ds di da dv dl w' := ⟨(hg.block b h.lt (by simpa using hne)).trans h.out⟩

theorem byteload (n : Nat) (G : Nat → Int) (a : Nat) (ha : a < 16 * n) : W.loadV n G a 1 = W.byte G a ∧ W.has n a 1 = true := by
  have h := W.has_in n a 1 (W.al_1 _) ha
  exact ⟨by unfold W.loadV; rw [h]; rfl, h⟩
theorem stored_rg {G : Nat → Int} (h : ∀ j, 0 ≤ G j ∧ G j < 4294967296) (n A : Nat) (s v : Int) (j : Nat) : 0 ≤ W.stored n G A s v j ∧ W.stored n G A s v j < 4294967296 := by
  unfold W.stored
  cases W.has n A s
  · exact h j
  · exact put_rg h A s v j

theorem new_gen (n : Nat) (bytes : Int) (ba off k cap : Nat) (a : Option Addr) (u : Nat → Int) (w : World) (hb : bytes = 16 * n) (n1 : 1 ≤ n) (n2 : n ≤ 4096) (hk : k ≤ 4 * n) (ha : 0 < k → a = some ⟨ba, off, none⟩ ∧ ba < w.heap.size) (hu : ∀ j, j < k → w.cell? ⟨ba, off + j, none⟩ = some (.int .u32 (u j))) (hur : ∀ j, 0 ≤ u j ∧ u j < 4294967296) : Calls Tryd.prog 9 #[.int .i64 bytes, .slice a k cap] w fun e w' => e = .returned (.tuple #[.pointer (some ⟨w.heap.size + 1, 0, none⟩), .nilIface]) ∧ MAt (w.heap.size + 1) w.heap.size n n (W.init k u) w' ∧ Below w.heap.size w w' := by
  by_cases h : 0 < k
  · obtain ⟨rfl, h2⟩ := ha h
    exact new_k n bytes ba off k cap u w hb n1 n2 hk h2 hu hur
  · obtain rfl : k = 0 := by omega
    have e : W.init 0 u = fun _ => 0 := by funext j; simp [W.init]
    rw [e]
    exact new_0 n bytes a cap w hb n1 n2

set_option maxRecDepth 100000 in
set_option maxHeartbeats 3200000 in
theorem memPlays_big (A : Nat → Addr) (n m : Nat) (addr size line : Int) (a : Option Addr) (ba off k cap : Nat) (a2 : Option Addr) (k2 cap2 : Nat) (u : Nat → Int) (w : World) (hS : Sent A w) (hk : k ≤ 2000) (hk2 : k2 ≤ 60) (hm : 16 * n = m) (n1 : 1 ≤ n) (n2 : n ≤ 4096) (hkn : k ≤ 4 * n) (hbig : 4096 < m)
    (ha : 0 < k → a = some ⟨ba, off, none⟩ ∧ ba < w.heap.size) (hu : ∀ j, j < k → w.cell? ⟨ba, off + j, none⟩ = some (.int .u32 (u j))) (hur : ∀ j, 0 ≤ u j ∧ u j < 4294967296) : Calls Tryd.prog 3 #[.int .i64 (m : Int), .slice a k cap, .slice a2 k2 cap2, .int .u32 addr, .int .i64 size, .int .i64 line] w fun e w' => e = .returned (.bool true) ∧ Below w.heap.size w w' := by
  have HA : Hid (0 < k → a = some ⟨ba, off, none⟩ ∧ ba < w.heap.size) := ha
  have HS : Hid (Sent A w) := hS
  have hn : (num 0 == 0) = true := by kernel_rfl
  have HU : Hid (∀ j, j < k → w.cell? ⟨ba, off + j, none⟩ = some (.int .u32 (u j))) := hu
  clear hS hu ha
  go_enter Tryd.func3, Tryd.ntmps3
  go_wp2_with (first
    | (go_at_call 8; refine (first7_any _).mono ?_; rintro e w1 ⟨rfl, hw1⟩)
    | fail)
  refine (new_gen n m ba off k cap a u w1 (by omega) n1 n2 hkn (fun h => ⟨(HA.out h).1, by have := hw1.size; have := (HA.out h).2; omega⟩) (fun j hj => (hw1.cell (p := ⟨ba, off + j, none⟩) (HA.out (by omega)).2).trans (HU.out j hj)) hur).mono ?_
  rintro e w2 ⟨rfl, hM, hB2⟩
  have hL := Ms.start hw1 hM hB2
  generalize w1.heap.size = g1 at *
  clear hM hB2 hw1
  go_wp2_with fail
  refine (rnew_k n m ba off k cap _ u w2 hm n1 n2 hkn (fun h => ⟨(HA.out h).1, by have := hL.bel.size; have := (HA.out h).2; omega⟩) (fun j hj => (hL.bel.cell (p := ⟨ba, off + j, none⟩) (HA.out (by omega)).2).trans (HU.out j hj)) hur).mono ?_
  rintro e w3 ⟨rfl, hX, hB3⟩
  replace hL := hL.call hB3
  clear hB3 hX
  go_wp2_with fail
  refine (is_any A 0 (by decide) 0 _ (HS.out.below hL.bel)).mono ?_
  rw [hn]
  rintro e w4 ⟨rfl, hB4⟩
  replace hL := hL.call hB4
  go_wp2_with (go_at_call 12; refine (bytes_l hL (m : Int) (by omega)).mono ?_; rintro e w' ⟨rfl, rfl⟩)
  go_ret
  exact ⟨rfl, hL.bel⟩
end Go.Proofs.YtjdiepklgcdamaaDoor
