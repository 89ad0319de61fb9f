/- Texts in one: HartF1, HartF2, HartF3, HartF4, HartF5, HartF6, HartF7, HartN2. -/
import Derived.Test.YteilpehekabccabGreatDoorJ06
import Derived.Test.YteilpehekabccabGreatDoorJ10
import Derived.Test.YteilpehekabccabGreatDoorJ11
import Derived.Test.YteilpehekabccabGreatDoorJ13
import Derived.Test.YteilpehekabccabGreatDoorJ17
/- An Sc. -/
namespace Go.Proofs.YteilpehekabccabGreatDoor
open Go.ChangeShapes Go.WideShapes Go.ChangeAt Go.RowKit
set_option linter.unusedVariables false
set_option linter.unusedSimpArgs false

set_option maxHeartbeats 1600000 in
theorem cond_no (b : Nat) (S : W.St) (i : W.I) (v : Int) (ef : W.Ef) (k : W.IOk i) (hd : S.r.dn = false) (w : World) (h : SAt b S w) : Calls Tryz.prog 95 #[.pointer (some ⟨b, 0, none⟩), .agg (inCells i), .int .u32 v, .agg (efCells ef)] w fun x w' => x = .returned (.agg (efCells W.Ef.no)) ∧ SAt b (W.sput { S with w := { S.w with dn := false } } i.rd 1) w' ∧ w.grownBy w' (some b) := by
  have rd0 := k.rd0
  have rd1 := k.rd1
  obtain ⟨op, rd, rs1, rs2, csr, imm, aq, rl⟩ := i
  obtain ⟨e0, e1, e2, e3, e4, e5, e6⟩ := ef
  dsimp only at *
  have c55 : ∀ A B C, (((w.alloc A).alloc B).alloc C).cell? ⟨b, 55, none⟩ = some (.bool false) := fun A B C => by rw [← hd]; exact (((h.alloc A).alloc B).alloc C).cr 10 rfl
  have c68 : ∀ A B C, (((w.alloc A).alloc B).alloc C).cell? ⟨b, 68, none⟩ = some (.bool S.w.dn) := fun A B C => (((h.alloc A).alloc B).alloc C).cw 10 rfl
  have hz : ∀ A B C o, (((w.alloc A).alloc B).alloc C).frozen? ⟨b, o, none⟩ = false := fun A B C => (((h.alloc A).alloc B).alloc C).z
  have hlt := h.lt
  unfold inCells efCells
  go_enter Tryz.func95, Tryz.ntmps95
  go_wp2_with (fail)
  generalize hW : World.setCell _ _ _ = W1
  have c : Cy w b w.heap.size ⟨op, rd, rs1, rs2, csr, imm, aq, rl⟩ ⟨e0, e1, e2, e3, e4, e5, e6⟩ { S with w := { S.w with dn := false } } W1 := by
    rw [← hW]
    exact ((Cy.start _ _ h (World.grownBy.refl _ _)).alloc _).step ((((h.alloc _).alloc _).alloc _).pdn false) (gset _ _ _ _)
  have r : Re (w.heap.size + 1 + 1) W.Ef.no W1 := by
    rw [← hW]
    exact Re.set (b := b) (Re.third w _ _ W.Ef.no) (by omega) _ _
  clear hW c55 c68 hz
  have hgs : w.heap.size ≤ w.heap.size := Nat.le_refl _
  generalize w.heap.size = g at *
  obtain ⟨i0, i1, i2, i3, i4, i5, i6, i7⟩ := c.ci
  obtain ⟨f0, f1, f2, f3, f4, f5, f6, fz⟩ := c.ce
  have hz := c.s.z
  have hlt := c.s.lt
  have hl2 := c.lt
  have hp := put_any b _ rd 1 rd0 rd1 _ c.drew.s
  go_region_with (go_at_call 71; refine hp.mono ?_; rintro e w1 ⟨rfl, h1, g1⟩)
  clear hp
  replace c := c.drew.step h1 g1
  replace r := r.drew.step g1 (by have := c.ne; omega)
  clear i0 i1 i2 i3 i4 i5 i6 i7 f0 f1 f2 f3 f4 f5 f6 fz hz hlt hl2
  obtain ⟨i0, i1, i2, i3, i4, i5, i6, i7⟩ := c.ci
  obtain ⟨f0, f1, f2, f3, f4, f5, f6, fz⟩ := c.ce
  obtain ⟨r0, r1, r2, r3, r4, r5, r6, rz⟩ := r.cells
  unfold W.Ef.no at r0 r1 r2 r3 r4 r5 r6
  dsimp only at r0 r1 r2 r3 r4 r5 r6 f0 f1 f2 f3 f4 f5 f6 i0 i1
  have hz := c.s.z
  have hlt := c.s.lt
  have hl2 := c.lt
  have hl3 := r.lt
  have ne := c.ne
  go_wp2
  exact bodyPost_ret (v := .agg (efCells W.Ef.no)) (by simp [results, Tryz.results95, go_sem, efCells, W.Ef.no, *]) rfl ⟨rfl, c.s.o7 (by omega) _ _ _ _ _ _ _, g7 c.gr (by have := c.le; omega) _ _ _ _ _ _ _⟩

set_option maxHeartbeats 1600000 in
theorem cond_yes (b : Nat) (S : W.St) (i : W.I) (v : Int) (ef : W.Ef) (k : W.IOk i) (hd : S.r.dn = true) (w : World) (h : SAt b S w) : Calls Tryz.prog 95 #[.pointer (some ⟨b, 0, none⟩), .agg (inCells i), .int .u32 v, .agg (efCells ef)] w fun x w' => x = .returned (.agg (efCells { ef with k := 2, vl := W.cut i.op v })) ∧ SAt b (W.sput { S with w := { S.w with dn := true } } i.rd 0) w' ∧ w.grownBy w' (some b) := by
  have rd0 := k.rd0
  have rd1 := k.rd1
  obtain ⟨op, rd, rs1, rs2, csr, imm, aq, rl⟩ := i
  obtain ⟨e0, e1, e2, e3, e4, e5, e6⟩ := ef
  dsimp only at *
  have c55 : ∀ A B C, (((w.alloc A).alloc B).alloc C).cell? ⟨b, 55, none⟩ = some (.bool true) := fun A B C => by rw [← hd]; exact (((h.alloc A).alloc B).alloc C).cr 10 rfl
  have c68 : ∀ A B C, (((w.alloc A).alloc B).alloc C).cell? ⟨b, 68, none⟩ = some (.bool S.w.dn) := fun A B C => (((h.alloc A).alloc B).alloc C).cw 10 rfl
  have hz : ∀ A B C o, (((w.alloc A).alloc B).alloc C).frozen? ⟨b, o, none⟩ = false := fun A B C => (((h.alloc A).alloc B).alloc C).z
  have hlt := h.lt
  unfold inCells efCells
  go_enter Tryz.func95, Tryz.ntmps95
  go_wp2_with (fail)
  generalize hW : World.setCell _ _ _ = W1
  have c : Cy w b w.heap.size ⟨op, rd, rs1, rs2, csr, imm, aq, rl⟩ ⟨e0, e1, e2, e3, e4, e5, e6⟩ { S with w := { S.w with dn := true } } W1 := by
    rw [← hW]
    exact ((Cy.start _ _ h (World.grownBy.refl _ _)).alloc _).step ((((h.alloc _).alloc _).alloc _).pdn true) (gset _ _ _ _)
  have r : Re (w.heap.size + 1 + 1) W.Ef.no W1 := by
    rw [← hW]
    exact Re.set (b := b) (Re.third w _ _ W.Ef.no) (by omega) _ _
  clear hW c55 c68 hz
  have hgs : w.heap.size ≤ w.heap.size := Nat.le_refl _
  generalize w.heap.size = g at *
  obtain ⟨i0, i1, i2, i3, i4, i5, i6, i7⟩ := c.ci
  obtain ⟨f0, f1, f2, f3, f4, f5, f6, fz⟩ := c.ce
  have hz := c.s.z
  have hlt := c.s.lt
  have hl2 := c.lt
  have hp := put_any b _ rd 0 rd0 rd1 _ c.drew.s
  go_region_with (go_at_call 71; refine hp.mono ?_; rintro e w1 ⟨rfl, h1, g1⟩)
  clear hp
  replace c := c.drew.step h1 g1
  replace r := r.drew.step g1 (by have := c.ne; omega)
  clear i0 i1 i2 i3 i4 i5 i6 i7 f0 f1 f2 f3 f4 f5 f6 fz hz hlt hl2
  obtain ⟨i0, i1, i2, i3, i4, i5, i6, i7⟩ := c.ci
  obtain ⟨f0, f1, f2, f3, f4, f5, f6, fz⟩ := c.ce
  obtain ⟨r0, r1, r2, r3, r4, r5, r6, rz⟩ := r.cells
  unfold W.Ef.no at r0 r1 r2 r3 r4 r5 r6
  dsimp only at r0 r1 r2 r3 r4 r5 r6 f0 f1 f2 f3 f4 f5 f6 i0 i1
  have hz := c.s.z
  have hlt := c.s.lt
  have hl2 := c.lt
  have hl3 := r.lt
  have ne := c.ne
  go_wp2_with (fail)
  refine (cut_any op v _).mono ?_
  rintro e w2 ⟨rfl, hb⟩
  replace c := c.below hb
  replace r := r.below hb
  clear i0 i1 i2 i3 i4 i5 i6 i7 f0 f1 f2 f3 f4 f5 f6 fz r0 r1 r2 r3 r4 r5 r6 rz hz hlt hl2 hl3
  obtain ⟨i0, i1, i2, i3, i4, i5, i6, i7⟩ := c.ci
  obtain ⟨f0, f1, f2, f3, f4, f5, f6, fz⟩ := c.ce
  obtain ⟨r0, r1, r2, r3, r4, r5, r6, rz⟩ := r.cells
  unfold W.Ef.no at r0 r1 r2 r3 r4 r5 r6
  dsimp only at r0 r1 r2 r3 r4 r5 r6 f0 f1 f2 f3 f4 f5 f6 i0 i1
  have hz := c.s.z
  have hlt := c.s.lt
  have hl2 := c.lt
  have hl3 := r.lt
  go_wp2
  have le := c.le
  exact bodyPost_ret (v := .agg (efCells ⟨2, e1, e2, W.cut op v, e4, e5, e6⟩)) (by simp [results, Tryz.results95, go_sem, efCells, *]) rfl ⟨rfl, ((c.s.other (by omega) _ _).other (by omega) _ _).o7 (by omega) _ _ _ _ _ _ _, g7 (gnew (gnew c.gr (by omega) _ _) (by omega) _ _) (by omega) _ _ _ _ _ _ _⟩
end Go.Proofs.YteilpehekabccabGreatDoor

/- What goes between the register and a place, way L. -/
namespace Go.Proofs.YteilpehekabccabGreatDoor
open Go.ChangeShapes Go.WideShapes Go.ChangeAt Go.RowKit
set_option linter.unusedVariables false
set_option linter.unusedSimpArgs false

set_option maxHeartbeats 3200000 in
theorem move_L (b : Nat) (S : W.St) (i : W.I) (v : Int) (ef : W.Ef) (k : W.IOk i) (w : World) (h : SAt b S w) (h4 : (W.kind i.op == 4) = true) (hs : ef.sz = 1 ∨ ef.sz = 2 ∨ ef.sz = 4) : Calls Tryz.prog 76 #[.pointer (some ⟨b, 0, none⟩), .agg (inCells i), .int .u32 v, .agg (efCells ef)] w fun x w' => x = .returned (.tuple #[]) ∧ SAt b (W.sret (W.sput (W.sload S ef.sz) i.rd (W.ext i.op (W.bitsOf S.r.ld 0 (8 * ef.sz)))) { ef with k := 1 }) w' ∧ w.grownBy w' (some b) := by
  have rd0 := k.rd0
  have rd1 := k.rd1
  obtain ⟨op, rd, rs1, rs2, csr, imm, aq, rl⟩ := i
  obtain ⟨e0, e1, e2, e3, e4, e5, e6⟩ := ef
  dsimp only at *
  have c := Cy.start ⟨op, rd, rs1, rs2, csr, imm, aq, rl⟩ ⟨e0, e1, e2, e3, e4, e5, e6⟩ h (World.grownBy.refl w (some b))
  have hk := kind_any op
  generalize W.kind op = K at *
  unfold inCells efCells at c ⊢
  go_enter Tryz.func76, Tryz.ntmps76
  go_wp2_with (fail)
  generalize World.alloc (World.alloc w _) _ = W1 at *
  generalize w.heap.size = g at *
  obtain ⟨i0, i1, i2, i3, i4, i5, i6, i7⟩ := c.ci
  obtain ⟨f0, f1, f2, f3, f4, f5, f6, fz⟩ := c.ce
  have hz := c.s.z
  have hlt := c.s.lt
  have hl2 := c.lt
  have ne := c.ne
  refine (hk _).mono ?_
  rintro e w1 ⟨rfl, rfl⟩
  clear h hk
  go_wp2_with (fail)
  replace c := c.pe (e' := ⟨1, e1, e2, e3, e4, e5, e6⟩) 0 (v := .int .i64 1) rfl
  generalize World.setCell W1 _ _ = W2 at *
  have hl := load_any b _ e2 hs _ c.drew.s
  replace c := c.drew
  clear i0 i1 i2 i3 i4 i5 i6 i7 f0 f1 f2 f3 f4 f5 f6 fz hz hlt hl2
  obtain ⟨i0, i1, i2, i3, i4, i5, i6, i7⟩ := c.ci
  obtain ⟨f0, f1, f2, f3, f4, f5, f6, fz⟩ := c.ce
  dsimp only at f0 f1 f2 f3 f4 f5 f6 i0 i1
  have hz := c.s.z
  have hlt := c.s.lt
  have hl2 := c.lt
  go_region_held3 (fun w' => w'.cell? ⟨g, 0, none⟩ = some (.int .i64 op) ∧ w'.cell? ⟨g, 1, none⟩ = some (.int .i64 rd) ∧ w'.cell? ⟨g + 1, 2, none⟩ = some (.int .i64 e2))
    (first | (refine ⟨?_, ?_, ?_⟩ <;> assumption) | go_keep)
    (first
    | (go_at_call 93; refine hl.mono ?_; rintro e w2 ⟨rfl, h1, g1⟩; have c2 := c.step h1 g1; clear i0 i1 i2 i3 i4 i5 i6 i7 f0 f1 f2 f3 f4 f5 f6 fz hz hlt hl2; obtain ⟨i0, i1, i2, i3, i4, i5, i6, i7⟩ := c2.ci; obtain ⟨f0, f1, f2, f3, f4, f5, f6, fz⟩ := c2.ce; dsimp only at f0 f1 f2 f3 f4 f5 f6 i0 i1; have hz := c2.s.z; have hlt := c2.s.lt; have hl2 := c2.lt)
    | (go_at_call 92; refine (ext_any _ _ _).mono ?_; rintro e w3 ⟨rfl, hb⟩; have c3 := c2.below hb; clear i0 i1 i2 i3 i4 i5 i6 i7 f0 f1 f2 f3 f4 f5 f6 fz hz hlt hl2; obtain ⟨i0, i1, i2, i3, i4, i5, i6, i7⟩ := c3.ci; obtain ⟨f0, f1, f2, f3, f4, f5, f6, fz⟩ := c3.ce; dsimp only at f0 f1 f2 f3 f4 f5 f6 i0 i1; have hz := c3.s.z; have hlt := c3.s.lt; have hl2 := c3.lt; have hp := fun v => put_any b _ rd v rd0 rd1 _ c3.s)
    | (go_at_call 71; refine (hp _).mono ?_; rintro e w4 ⟨rfl, h3, g3⟩; have c4 := c3.step h3 g3; clear i0 i1 i2 i3 i4 i5 i6 i7 f0 f1 f2 f3 f4 f5 f6 fz hz hlt hl2; obtain ⟨i0, i1, i2, i3, i4, i5, i6, i7⟩ := c4.ci; obtain ⟨f0, f1, f2, f3, f4, f5, f6, fz⟩ := c4.ce; dsimp only at f0 f1 f2 f3 f4 f5 f6 i0 i1; have hz := c4.s.z; have hlt := c4.s.lt; have hl2 := c4.lt))
  all_goals
    replace c := c4
    clear c3 c4 hp c2
    clear i0 i1 i2 i3 i4 i5 i6 i7 f0 f1 f2 f3 f4 f5 f6 fz hz hlt hl2
    obtain ⟨i0, i1, i2, i3, i4, i5, i6, i7⟩ := c.ci
    obtain ⟨f0, f1, f2, f3, f4, f5, f6, fz⟩ := c.ce
    dsimp only at f0 f1 f2 f3 f4 f5 f6 i0 i1
    have hz := c.s.z
    have hlt := c.s.lt
    have hl2 := c.lt
    go_wp2_with (fail)
    refine (retire_any b _ ⟨1, e1, e2, e3, e4, e5, e6⟩ _ c.s).mono ?_
    rintro e w9 ⟨rfl, h9, g9⟩
    replace c := c.step h9 g9
    clear i0 i1 i2 i3 i4 i5 i6 i7 f0 f1 f2 f3 f4 f5 f6 fz hz hlt hl2
    obtain ⟨i0, i1, i2, i3, i4, i5, i6, i7⟩ := c.ci
    obtain ⟨f0, f1, f2, f3, f4, f5, f6, fz⟩ := c.ce
    dsimp only at f0 f1 f2 f3 f4 f5 f6 i0 i1
    have hz := c.s.z
    have hlt := c.s.lt
    have hl2 := c.lt
    go_wp2
    go_end0
    exact ⟨rfl, c.s, c.gr⟩
end Go.Proofs.YteilpehekabccabGreatDoor

/- What goes between the register and a place, way S. -/
namespace Go.Proofs.YteilpehekabccabGreatDoor
open Go.ChangeShapes Go.WideShapes Go.ChangeAt Go.RowKit
set_option linter.unusedVariables false
set_option linter.unusedSimpArgs false

set_option maxHeartbeats 3200000 in
theorem move_S (b : Nat) (S : W.St) (i : W.I) (v : Int) (ef : W.Ef) (k : W.IOk i) (w : World) (h : SAt b S w) (h4 : (W.kind i.op == 4) = false) (h5 : (W.kind i.op == 5) = true) : Calls Tryz.prog 76 #[.pointer (some ⟨b, 0, none⟩), .agg (inCells i), .int .u32 v, .agg (efCells ef)] w fun x w' => x = .returned (.tuple #[]) ∧ SAt b (W.sret S { ef with k := 2, vl := W.cut i.op v }) w' ∧ w.grownBy w' (some b) := by
  have rd0 := k.rd0
  have rd1 := k.rd1
  obtain ⟨op, rd, rs1, rs2, csr, imm, aq, rl⟩ := i
  obtain ⟨e0, e1, e2, e3, e4, e5, e6⟩ := ef
  dsimp only at *
  have c := Cy.start ⟨op, rd, rs1, rs2, csr, imm, aq, rl⟩ ⟨e0, e1, e2, e3, e4, e5, e6⟩ h (World.grownBy.refl w (some b))
  have hk := kind_any op
  generalize W.kind op = K at *
  unfold inCells efCells at c ⊢
  go_enter Tryz.func76, Tryz.ntmps76
  go_wp2_with (fail)
  generalize World.alloc (World.alloc w _) _ = W1 at *
  generalize w.heap.size = g at *
  obtain ⟨i0, i1, i2, i3, i4, i5, i6, i7⟩ := c.ci
  obtain ⟨f0, f1, f2, f3, f4, f5, f6, fz⟩ := c.ce
  have hz := c.s.z
  have hlt := c.s.lt
  have hl2 := c.lt
  have ne := c.ne
  refine (hk _).mono ?_
  rintro e w1 ⟨rfl, rfl⟩
  clear h hk
  go_wp2_with (fail)
  refine (cut_any op v _).mono ?_
  rintro e w2 ⟨rfl, hb⟩
  replace c := c.below hb
  clear i0 i1 i2 i3 i4 i5 i6 i7 f0 f1 f2 f3 f4 f5 f6 fz hz hlt hl2
  obtain ⟨i0, i1, i2, i3, i4, i5, i6, i7⟩ := c.ci
  obtain ⟨f0, f1, f2, f3, f4, f5, f6, fz⟩ := c.ce
  dsimp only at f0 f1 f2 f3 f4 f5 f6 i0 i1
  have hz := c.s.z
  have hlt := c.s.lt
  have hl2 := c.lt
  go_wp2_with (fail)
  replace c := c.pe (e' := ⟨2, e1, e2, e3, e4, e5, e6⟩) 0 (v := .int .i64 2) rfl
  replace c := c.pe (e' := ⟨2, e1, e2, W.cut op v, e4, e5, e6⟩) 3 (v := .int .u32 (W.cut op v)) rfl
  refine (retire_any b _ ⟨2, e1, e2, W.cut op v, e4, e5, e6⟩ _ c.s).mono ?_
  rintro e w9 ⟨rfl, h9, g9⟩
  replace c := c.step h9 g9
  clear i0 i1 i2 i3 i4 i5 i6 i7 f0 f1 f2 f3 f4 f5 f6 fz hz hlt hl2
  obtain ⟨i0, i1, i2, i3, i4, i5, i6, i7⟩ := c.ci
  obtain ⟨f0, f1, f2, f3, f4, f5, f6, fz⟩ := c.ce
  dsimp only at f0 f1 f2 f3 f4 f5 f6 i0 i1
  have hz := c.s.z
  have hlt := c.s.lt
  have hl2 := c.lt
  go_wp2
  go_end0
  exact ⟨rfl, c.s, c.gr⟩
end Go.Proofs.YteilpehekabccabGreatDoor

/- What goes between the register and a place, way C. -/
namespace Go.Proofs.YteilpehekabccabGreatDoor
open Go.ChangeShapes Go.WideShapes Go.ChangeAt Go.RowKit
set_option linter.unusedVariables false
set_option linter.unusedSimpArgs false

set_option maxHeartbeats 3200000 in
theorem move_N (b : Nat) (S : W.St) (i : W.I) (v : Int) (ef : W.Ef) (k : W.IOk i) (w : World) (h : SAt b S w) (h4 : (W.kind i.op == 4) = false) (h5 : (W.kind i.op == 5) = false) (h6 : (i.op == 60) = true) (hd : S.r.dn = false) : Calls Tryz.prog 76 #[.pointer (some ⟨b, 0, none⟩), .agg (inCells i), .int .u32 v, .agg (efCells ef)] w fun x w' => x = .returned (.tuple #[]) ∧ SAt b (W.sret (W.sput { S with w := { S.w with dn := false } } i.rd 1) W.Ef.no) w' ∧ w.grownBy w' (some b) := by
  have rd0 := k.rd0
  have rd1 := k.rd1
  obtain ⟨op, rd, rs1, rs2, csr, imm, aq, rl⟩ := i
  obtain ⟨e0, e1, e2, e3, e4, e5, e6⟩ := ef
  dsimp only at *
  have c := Cy.start ⟨op, rd, rs1, rs2, csr, imm, aq, rl⟩ ⟨e0, e1, e2, e3, e4, e5, e6⟩ h (World.grownBy.refl w (some b))
  have hk := kind_any op
  generalize W.kind op = K at *
  unfold inCells efCells at c ⊢
  go_enter Tryz.func76, Tryz.ntmps76
  go_wp2_with (fail)
  generalize World.alloc (World.alloc w _) _ = W1 at *
  generalize w.heap.size = g at *
  obtain ⟨i0, i1, i2, i3, i4, i5, i6, i7⟩ := c.ci
  obtain ⟨f0, f1, f2, f3, f4, f5, f6, fz⟩ := c.ce
  have hz := c.s.z
  have hlt := c.s.lt
  have hl2 := c.lt
  have ne := c.ne
  refine (hk _).mono ?_
  rintro e w1 ⟨rfl, rfl⟩
  clear h hk
  go_wp2_with (fail)
  have hc := cond_no b _ ⟨op, rd, rs1, rs2, csr, imm, aq, rl⟩ v ⟨e0, e1, e2, e3, e4, e5, e6⟩ k hd _ c.s
  unfold inCells efCells at hc
  try unfold W.Ef.no at hc
  dsimp only at hc
  refine hc.mono ?_
  rintro e w2 ⟨rfl, h1, g1⟩
  clear hc
  replace c := c.step h1 g1
  clear i0 i1 i2 i3 i4 i5 i6 i7 f0 f1 f2 f3 f4 f5 f6 fz hz hlt hl2
  obtain ⟨i0, i1, i2, i3, i4, i5, i6, i7⟩ := c.ci
  obtain ⟨f0, f1, f2, f3, f4, f5, f6, fz⟩ := c.ce
  dsimp only at f0 f1 f2 f3 f4 f5 f6 i0 i1
  have hz := c.s.z
  have hlt := c.s.lt
  have hl2 := c.lt
  go_wp2_with (fail)
  replace c := c.pes ⟨0, 0, 0, 0, false, false, false⟩
  refine (retire_any b _ ⟨0, 0, 0, 0, false, false, false⟩ _ c.s).mono ?_
  rintro e w9 ⟨rfl, h9, g9⟩
  replace c := c.step h9 g9
  clear i0 i1 i2 i3 i4 i5 i6 i7 f0 f1 f2 f3 f4 f5 f6 fz hz hlt hl2
  obtain ⟨i0, i1, i2, i3, i4, i5, i6, i7⟩ := c.ci
  obtain ⟨f0, f1, f2, f3, f4, f5, f6, fz⟩ := c.ce
  dsimp only at f0 f1 f2 f3 f4 f5 f6 i0 i1
  have hz := c.s.z
  have hlt := c.s.lt
  have hl2 := c.lt
  go_wp2
  go_end0
  exact ⟨rfl, c.s, c.gr⟩
end Go.Proofs.YteilpehekabccabGreatDoor

/- What goes between the register and a place, way D. -/
namespace Go.Proofs.YteilpehekabccabGreatDoor
open Go.ChangeShapes Go.WideShapes Go.ChangeAt Go.RowKit
set_option linter.unusedVariables false
set_option linter.unusedSimpArgs false

set_option maxHeartbeats 3200000 in
theorem move_D (b : Nat) (S : W.St) (i : W.I) (v : Int) (ef : W.Ef) (k : W.IOk i) (w : World) (h : SAt b S w) (h4 : (W.kind i.op == 4) = false) (h5 : (W.kind i.op == 5) = false) (h6 : (i.op == 60) = true) (hd : S.r.dn = true) : Calls Tryz.prog 76 #[.pointer (some ⟨b, 0, none⟩), .agg (inCells i), .int .u32 v, .agg (efCells ef)] w fun x w' => x = .returned (.tuple #[]) ∧ SAt b (W.sret (W.sput { S with w := { S.w with dn := true } } i.rd 0) { ef with k := 2, vl := W.cut i.op v }) w' ∧ w.grownBy w' (some b) := by
  have rd0 := k.rd0
  have rd1 := k.rd1
  obtain ⟨op, rd, rs1, rs2, csr, imm, aq, rl⟩ := i
  obtain ⟨e0, e1, e2, e3, e4, e5, e6⟩ := ef
  dsimp only at *
  have c := Cy.start ⟨op, rd, rs1, rs2, csr, imm, aq, rl⟩ ⟨e0, e1, e2, e3, e4, e5, e6⟩ h (World.grownBy.refl w (some b))
  have hk := kind_any op
  generalize W.kind op = K at *
  unfold inCells efCells at c ⊢
  go_enter Tryz.func76, Tryz.ntmps76
  go_wp2_with (fail)
  generalize World.alloc (World.alloc w _) _ = W1 at *
  generalize w.heap.size = g at *
  obtain ⟨i0, i1, i2, i3, i4, i5, i6, i7⟩ := c.ci
  obtain ⟨f0, f1, f2, f3, f4, f5, f6, fz⟩ := c.ce
  have hz := c.s.z
  have hlt := c.s.lt
  have hl2 := c.lt
  have ne := c.ne
  refine (hk _).mono ?_
  rintro e w1 ⟨rfl, rfl⟩
  clear h hk
  go_wp2_with (fail)
  have hc := cond_yes b _ ⟨op, rd, rs1, rs2, csr, imm, aq, rl⟩ v ⟨e0, e1, e2, e3, e4, e5, e6⟩ k hd _ c.s
  unfold inCells efCells at hc
  try unfold W.Ef.no at hc
  dsimp only at hc
  refine hc.mono ?_
  rintro e w2 ⟨rfl, h1, g1⟩
  clear hc
  replace c := c.step h1 g1
  clear i0 i1 i2 i3 i4 i5 i6 i7 f0 f1 f2 f3 f4 f5 f6 fz hz hlt hl2
  obtain ⟨i0, i1, i2, i3, i4, i5, i6, i7⟩ := c.ci
  obtain ⟨f0, f1, f2, f3, f4, f5, f6, fz⟩ := c.ce
  dsimp only at f0 f1 f2 f3 f4 f5 f6 i0 i1
  have hz := c.s.z
  have hlt := c.s.lt
  have hl2 := c.lt
  go_wp2_with (fail)
  replace c := c.pes ⟨2, e1, e2, W.cut op v, e4, e5, e6⟩
  refine (retire_any b _ ⟨2, e1, e2, W.cut op v, e4, e5, e6⟩ _ c.s).mono ?_
  rintro e w9 ⟨rfl, h9, g9⟩
  replace c := c.step h9 g9
  clear i0 i1 i2 i3 i4 i5 i6 i7 f0 f1 f2 f3 f4 f5 f6 fz hz hlt hl2
  obtain ⟨i0, i1, i2, i3, i4, i5, i6, i7⟩ := c.ci
  obtain ⟨f0, f1, f2, f3, f4, f5, f6, fz⟩ := c.ce
  dsimp only at f0 f1 f2 f3 f4 f5 f6 i0 i1
  have hz := c.s.z
  have hlt := c.s.lt
  have hl2 := c.lt
  go_wp2
  go_end0
  exact ⟨rfl, c.s, c.gr⟩
end Go.Proofs.YteilpehekabccabGreatDoor

/- What goes between the register and a place, way A. -/
namespace Go.Proofs.YteilpehekabccabGreatDoor
open Go.ChangeShapes Go.WideShapes Go.ChangeAt Go.RowKit
set_option linter.unusedVariables false
set_option linter.unusedSimpArgs false

set_option maxHeartbeats 3200000 in
theorem move_A (b : Nat) (S : W.St) (i : W.I) (v : Int) (ef : W.Ef) (k : W.IOk i) (w : World) (h : SAt b S w) (h4 : (W.kind i.op == 4) = false) (h5 : (W.kind i.op == 5) = false) (h6 : (i.op == 60) = false) (hv : W.Rg v) (hs : ef.sz = 1 ∨ ef.sz = 2 ∨ ef.sz = 4) : Calls Tryz.prog 76 #[.pointer (some ⟨b, 0, none⟩), .agg (inCells i), .int .u32 v, .agg (efCells ef)] w fun x w' => x = .returned (.tuple #[]) ∧ SAt b (W.sret (W.sput (W.sload S ef.sz) i.rd (W.ext i.op (W.bitsOf S.r.ld 0 (8 * ef.sz)))) { ef with k := 3, vl := W.amoV i.op (W.bitsOf S.r.ld 0 (8 * ef.sz)) v }) w' ∧ w.grownBy w' (some b) := by
  have rd0 := k.rd0
  have rd1 := k.rd1
  obtain ⟨op, rd, rs1, rs2, csr, imm, aq, rl⟩ := i
  obtain ⟨e0, e1, e2, e3, e4, e5, e6⟩ := ef
  dsimp only at *
  have c := Cy.start ⟨op, rd, rs1, rs2, csr, imm, aq, rl⟩ ⟨e0, e1, e2, e3, e4, e5, e6⟩ h (World.grownBy.refl w (some b))
  have hk := kind_any op
  generalize W.kind op = K at *
  unfold inCells efCells at c ⊢
  go_enter Tryz.func76, Tryz.ntmps76
  go_wp2_with (fail)
  generalize World.alloc (World.alloc w _) _ = W1 at *
  generalize w.heap.size = g at *
  obtain ⟨i0, i1, i2, i3, i4, i5, i6, i7⟩ := c.ci
  obtain ⟨f0, f1, f2, f3, f4, f5, f6, fz⟩ := c.ce
  have hz := c.s.z
  have hlt := c.s.lt
  have hl2 := c.lt
  have ne := c.ne
  refine (hk _).mono ?_
  rintro e w1 ⟨rfl, rfl⟩
  clear h hk
  go_wp2_with (fail)
  refine (load_any b _ e2 hs _ c.s).mono ?_
  rintro e w2 ⟨rfl, h1, g1⟩
  replace c := c.step h1 g1
  clear i0 i1 i2 i3 i4 i5 i6 i7 f0 f1 f2 f3 f4 f5 f6 fz hz hlt hl2
  obtain ⟨i0, i1, i2, i3, i4, i5, i6, i7⟩ := c.ci
  obtain ⟨f0, f1, f2, f3, f4, f5, f6, fz⟩ := c.ce
  dsimp only at f0 f1 f2 f3 f4 f5 f6 i0 i1
  have hz := c.s.z
  have hlt := c.s.lt
  have hl2 := c.lt
  have hO := W.bitsOf_lt S.r.ld 0 (8 * e2)
  generalize hOe : W.bitsOf S.r.ld 0 (8 * e2) = O at *
  have HE : Hid (W.bitsOf S.r.ld 0 (8 * e2) = O) := hOe
  clear hOe
  go_wp2_with (fail)
  replace c := c.pe (e' := ⟨3, e1, e2, e3, e4, e5, e6⟩) 0 (v := .int .i64 3) rfl
  generalize World.setCell w2 _ _ = W2 at *
  clear i0 i1 i2 i3 i4 i5 i6 i7 f0 f1 f2 f3 f4 f5 f6 fz hz hlt hl2
  obtain ⟨i0, i1, i2, i3, i4, i5, i6, i7⟩ := c.ci
  obtain ⟨f0, f1, f2, f3, f4, f5, f6, fz⟩ := c.ce
  dsimp only at f0 f1 f2 f3 f4 f5 f6 i0 i1
  have hz := c.s.z
  have hlt := c.s.lt
  have hl2 := c.lt
  refine (amo_any op O v hO.1 hO.2 hv.1 hv.2 W2).mono ?_
  rintro e w3 ⟨rfl, rfl⟩
  go_wp2_with (fail)
  replace c := c.pe (e' := ⟨3, e1, e2, W.amoV op O v, e4, e5, e6⟩) 3 (v := .int .u32 (W.amoV op O v)) rfl
  generalize World.setCell W2 _ _ = W3 at *
  clear i0 i1 i2 i3 i4 i5 i6 i7 f0 f1 f2 f3 f4 f5 f6 fz hz hlt hl2
  obtain ⟨i0, i1, i2, i3, i4, i5, i6, i7⟩ := c.ci
  obtain ⟨f0, f1, f2, f3, f4, f5, f6, fz⟩ := c.ce
  dsimp only at f0 f1 f2 f3 f4 f5 f6 i0 i1
  have hz := c.s.z
  have hlt := c.s.lt
  have hl2 := c.lt
  replace c := c.drew
  clear i0 i1 i2 i3 i4 i5 i6 i7 f0 f1 f2 f3 f4 f5 f6 fz hz hlt hl2
  obtain ⟨i0, i1, i2, i3, i4, i5, i6, i7⟩ := c.ci
  obtain ⟨f0, f1, f2, f3, f4, f5, f6, fz⟩ := c.ce
  dsimp only at f0 f1 f2 f3 f4 f5 f6 i0 i1
  have hz := c.s.z
  have hlt := c.s.lt
  have hl2 := c.lt
  go_region_held3 (fun w' => w'.cell? ⟨g, 0, none⟩ = some (.int .i64 op) ∧ w'.cell? ⟨g, 1, none⟩ = some (.int .i64 rd))
    (first | (refine ⟨?_, ?_⟩ <;> assumption) | go_keep)
    (first
    | (go_at_call 92; refine (ext_any _ _ _).mono ?_; rintro e w3 ⟨rfl, hb⟩; have c3 := c.below hb; clear i0 i1 i2 i3 i4 i5 i6 i7 f0 f1 f2 f3 f4 f5 f6 fz hz hlt hl2; obtain ⟨i0, i1, i2, i3, i4, i5, i6, i7⟩ := c3.ci; obtain ⟨f0, f1, f2, f3, f4, f5, f6, fz⟩ := c3.ce; dsimp only at f0 f1 f2 f3 f4 f5 f6 i0 i1; have hz := c3.s.z; have hlt := c3.s.lt; have hl2 := c3.lt; have hp := fun v => put_any b _ rd v rd0 rd1 _ c3.s)
    | (go_at_call 71; refine (hp _).mono ?_; rintro e w4 ⟨rfl, h3, g3⟩; have c4 := c3.step h3 g3; clear i0 i1 i2 i3 i4 i5 i6 i7 f0 f1 f2 f3 f4 f5 f6 fz hz hlt hl2; obtain ⟨i0, i1, i2, i3, i4, i5, i6, i7⟩ := c4.ci; obtain ⟨f0, f1, f2, f3, f4, f5, f6, fz⟩ := c4.ce; dsimp only at f0 f1 f2 f3 f4 f5 f6 i0 i1; have hz := c4.s.z; have hlt := c4.s.lt; have hl2 := c4.lt))
  all_goals
    replace c := c4
    clear c3 c4 hp 
    clear i0 i1 i2 i3 i4 i5 i6 i7 f0 f1 f2 f3 f4 f5 f6 fz hz hlt hl2
    obtain ⟨i0, i1, i2, i3, i4, i5, i6, i7⟩ := c.ci
    obtain ⟨f0, f1, f2, f3, f4, f5, f6, fz⟩ := c.ce
    dsimp only at f0 f1 f2 f3 f4 f5 f6 i0 i1
    have hz := c.s.z
    have hlt := c.s.lt
    have hl2 := c.lt
    go_wp2_with (fail)
    refine (retire_any b _ ⟨3, e1, e2, W.amoV op O v, e4, e5, e6⟩ _ c.s).mono ?_
    rintro e w9 ⟨rfl, h9, g9⟩
    replace c := c.step h9 g9
    clear i0 i1 i2 i3 i4 i5 i6 i7 f0 f1 f2 f3 f4 f5 f6 fz hz hlt hl2
    obtain ⟨i0, i1, i2, i3, i4, i5, i6, i7⟩ := c.ci
    obtain ⟨f0, f1, f2, f3, f4, f5, f6, fz⟩ := c.ce
    dsimp only at f0 f1 f2 f3 f4 f5 f6 i0 i1
    have hz := c.s.z
    have hlt := c.s.lt
    have hl2 := c.lt
    go_wp2
    go_end0
    obtain rfl := HE.out
    exact ⟨rfl, c.s, c.gr⟩
end Go.Proofs.YteilpehekabccabGreatDoor

/- What goes between the register and a place: every instruction. -/
namespace Go.Proofs.YteilpehekabccabGreatDoor
open Go.ChangeShapes Go.WideShapes Go.ChangeAt Go.RowKit
set_option linter.unusedVariables false
set_option linter.unusedSimpArgs false

theorem hmove_any (b : Nat) (S : W.St) (i : W.I) (v : Int) (ef : W.Ef) (k : W.IOk i) (hv : W.Rg v) (hs : ef.sz = 1 ∨ ef.sz = 2 ∨ ef.sz = 4) (w : World) (h : SAt b S w) : Calls Tryz.prog 76 #[.pointer (some ⟨b, 0, none⟩), .agg (inCells i), .int .u32 v, .agg (efCells ef)] w fun x w' => x = .returned (.tuple #[]) ∧ SAt b (W.smove S i v ef) w' ∧ w.grownBy w' (some b) := by
  unfold W.smove
  cases h4 : (W.kind i.op == 4)
  · cases h5 : (W.kind i.op == 5)
    · cases h6 : (i.op == 60)
      · exact move_A b S i v ef k w h h4 h5 h6 hv hs
      · cases hd : S.r.dn
        · have e : W.scond S i v ef = (W.sput { S with w := { S.w with dn := false } } i.rd 1, W.Ef.no) := by simp only [W.scond, hd, cond_false]
          simp only [e, cond_true, cond_false]
          exact move_N b S i v ef k w h h4 h5 h6 hd
        · have e : W.scond S i v ef = (W.sput { S with w := { S.w with dn := true } } i.rd 0, { ef with k := 2, vl := W.cut i.op v }) := by simp only [W.scond, hd, cond_true]
          simp only [e, cond_true, cond_false]
          exact move_D b S i v ef k w h h4 h5 h6 hd
    · exact move_S b S i v ef k w h h4 h5
  · exact move_L b S i v ef k w h h4 hs
end Go.Proofs.YteilpehekabccabGreatDoor

/- The place that a walk comes to is an address. -/
namespace Go.Proofs.YteilpehekabccabGreatDoor.W
open Go.RowKit
set_option linter.unusedVariables false

theorem leafS_pa (ea ev va acc mode : Int) (g : Bool) (h0 : 0 ≤ ev) : Rg (leafS ea ev va acc mode g).pa := by
  unfold leafS
  cases may ev acc mode
  · exact rg0
  cases fitsB ev g
  · exact rg0
  cases (needs ev acc != ev)
  · cases hd : decide (4294967295 < ev / 1024 * 4096 + offv va g)
    · have := of_decide_eq_false hd
      have := offv_lt va g
      show 0 ≤ ev / 1024 * 4096 + offv va g ∧ ev / 1024 * 4096 + offv va g < 4294967296
      omega
    · exact rg0
  · exact rg0
theorem downL_pa (table va acc mode bytes : Int) (n : Nat) (A V : Nat → Int) (h1 : 0 ≤ V 1) : Rg (downL table va acc mode bytes n A V).1.pa := by
  unfold downL
  cases entB table va bytes false
  · exact rg0
  by_cases hn : n = 1
  · simp only [cond_true, if_pos hn]; exact rg0
  simp only [cond_true, if_neg hn]
  cases (A 1 != entA table va false)
  · cases bad (V 1)
    · cases leaf (V 1)
      · exact rg0
      · exact leafS_pa _ _ _ _ _ _ h1
    · exact rg0
  · exact rg0
theorem downS_pa (table va acc mode bytes : Int) (n : Nat) (A V : Nat → Int) (h0 : 0 ≤ V 0) (h1 : 0 ≤ V 1) : Rg (downS table va acc mode bytes n A V).1.pa := by
  unfold downS
  cases entB table va bytes true
  · exact rg0
  by_cases hn : n = 0
  · simp only [cond_true, if_pos hn]; exact rg0
  simp only [cond_true, if_neg hn]
  cases (A 0 != entA table va true)
  · cases bad (V 0)
    · cases leaf (V 0)
      · exact downL_pa _ _ _ _ _ _ _ _ h1
      · exact leafS_pa _ _ _ _ _ _ h0
    · exact rg0
  · exact rg0
theorem nextS_pa (satp mode va acc bytes : Int) (n : Nat) (A V : Nat → Int) (hv : Rg va) (h0 : 0 ≤ V 0) (h1 : 0 ≤ V 1) : Rg (nextS satp mode va acc bytes n A V).pa := by
  unfold nextS
  cases decide ((stepS satp mode va acc bytes n A V).2 < n)
  · simp only [cond_false]
    unfold stepS
    cases onB satp mode
    · exact hv
    · exact downS_pa _ _ _ _ _ _ _ _ h0 h1
  · exact rg0
theorem hwalk_pa (h : Ht) (va acc : Int) (n : Nat) (A V : Nat → Int) (hv : Rg va) (h0 : 0 ≤ V 0) (h1 : 0 ≤ V 1) : Rg (hwalk h va acc n A V).pa := by
  unfold hwalk walkS
  cases askAll h.G.satp h.G.m va acc h.by_ A V n
  · exact rg0
  · exact nextS_pa _ _ _ _ _ _ _ _ hv h0 h1
end Go.Proofs.YteilpehekabccabGreatDoor.W
