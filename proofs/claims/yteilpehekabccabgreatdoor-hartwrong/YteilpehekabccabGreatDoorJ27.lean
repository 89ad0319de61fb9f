/- Texts in one: HartI4, HartI5, HartI6, HartI7, HartJ1. -/
import Derived.Deep.RegionHeld3
import Derived.Deep.RegionWith
import Derived.Deep.QuietTactic
import Derived.Test.YteilpehekabccabGreatDoorJ09
import Derived.Test.YteilpehekabccabGreatDoorJ26
/- The word is read, and its instruction done, way F. -/
namespace Go.Proofs.YteilpehekabccabGreatDoor
open Go.ChangeShapes Go.WideShapes Go.ChangeAt Go.RowKit
set_option linter.unusedVariables false
set_option linter.unusedSimpArgs false

set_option maxHeartbeats 3200000 in
theorem fet_F (b : Nat) (S : W.St) (hH : W.HOk S.h) (hwd : W.Rg S.r.wd) (q p : Nat → W.Pt) (hcq : S.r.fw.n ≤ S.r.fw.c) (hcap : S.r.wk.n ≤ S.r.wk.c) (w : World) (h : SAt b S w) (hq : Reads S.r.fw.a S.r.fw.n q w) (hr : Reads S.r.wk.a S.r.wk.n p w) (hnq : ∀ q off, S.r.fw.a = some ⟨q, off, none⟩ → 0 < S.r.fw.n → q ≠ b) (hne : ∀ q off, S.r.wk.a = some ⟨q, off, none⟩ → 0 < S.r.wk.n → q ≠ b) (h0 : (S.h.pc % 4 != 0) = false) (h1 : ((W.hwalk S.h S.h.pc 1 S.r.fw.n (fun j => (q j).a) (fun j => (q j).v)).k == 1) = true) (h2 : W.hhas S.h (W.hwalk S.h S.h.pc 1 S.r.fw.n (fun j => (q j).a) (fun j => (q j).v)).pa 4 = false) : Calls Tryz.prog 23 #[.pointer (some ⟨b, 0, none⟩)] w fun z w' => z = .returned (.tuple #[]) ∧ SAt b (W.strap { S with w := { S.w with fw := S.r.fw, fpa := (W.hwalk S.h S.h.pc 1 S.r.fw.n (fun j => (q j).a) (fun j => (q j).v)).pa } } 1 S.h.pc) w' ∧ w.grownBy w' (some b) := by
  have hp0 := hH.pc.1
  have hp1 := hH.pc.2
  have htm : S.h.pc.tmod 4 = S.h.pc % 4 := Int.tmod_eq_emod_of_nonneg hp0
  have gr : w.grownBy w (some b) := World.grownBy.refl _ _
  have e12 : w.cell? ⟨b, 12, none⟩ = some (.int .u32 S.h.pc) := h.ch 1 rfl
  have hz := h.z
  have hlt := h.lt
  have hX := W.hwalk_pa S.h S.h.pc 1 S.r.fw.n (fun j => (q j).a) (fun j => (q j).v) hH.pc (hq.2.2 0).1 (hq.2.2 1).1
  have hPl := fun w (h : SAt b { S with w := { S.w with fw := S.r.fw } } w) (hr : Reads S.r.fw.a S.r.fw.n q w) => place_a b { S with w := { S.w with fw := S.r.fw } } S.h.pc 1 hH.pc hH.G S.r.fw.a S.r.fw.n S.r.fw.c hcq q w h hr
  unfold W.splace at hPl
  generalize W.hwalk S.h S.h.pc 1 S.r.fw.n (fun j => (q j).a) (fun j => (q j).v) = X at *
  obtain ⟨Xk, Xpa, Xad, Xvl, Xca⟩ := X
  dsimp only at *
  obtain rfl := beq_iff_eq.1 h1
  simp only [show ((1 : Int) == 2) = false from rfl, show ((1 : Int) == 1) = true from rfl, cond_false] at hPl
  have e51 : w.cell? ⟨b, 51, none⟩ = some (.slice S.r.fw.a S.r.fw.n S.r.fw.c) := h.cr 6 rfl
  have e64 : w.cell? ⟨b, 64, none⟩ = some (.slice S.w.fw.a S.w.fw.n S.w.fw.c) := h.cw 6 rfl
  go_enter Tryz.func23, Tryz.ntmps23
  go_wp2_with (fail)
  replace h := h.pfw S.r.fw
  replace gr := gset w b 64 (.slice S.r.fw.a S.r.fw.n S.r.fw.c)
  have hq1 := hq.grown gr hnq
  clear e51 e64 e12
  generalize hW2 : World.setCell w _ _ = W2 at *
  have hr1 : Reads S.r.wk.a S.r.wk.n p W2 := hr.grown gr hne
  clear hW2
  clear hz hlt
  have hz := h.z
  have hlt := h.lt
  refine (hPl _ h hq1).mono ?_
  rintro e w3 ⟨rfl, h5, g5⟩
  replace gr := gtrans gr g5
  clear hPl hq1
  clear h
  have h := h5
  clear h5
  clear hz hlt
  have hz := h.z
  have hlt := h.lt
  have hr2 := hr1.grown g5 hne
  clear hr1 g5
  have e61 : w3.cell? ⟨b, 61, none⟩ = some (.int .u32 S.w.fpa) := h.cw 3 rfl
  go_wp2_with (fail)
  replace h := h.pfpa Xpa
  replace gr := gtrans gr (gset w3 b 61 (.int .u32 Xpa))
  replace hr2 := hr2.grown (gset w3 b 61 (.int .u32 Xpa)) hne
  clear e61
  generalize World.setCell w3 _ _ = W4 at *
  clear hz hlt
  have hz := h.z
  have hlt := h.lt
  have hh := has_any b _ Xpa 4 hX (by decide) _ h
  unfold W.hhas at hh h2
  dsimp only at hh h2
  rw [h2] at hh
  refine hh.mono ?_
  rintro e w4 ⟨rfl, rfl⟩
  clear hh
  have e12 : W4.cell? ⟨b, 12, none⟩ = some (.int .u32 S.h.pc) := h.ch 1 rfl
  go_wp2_with (fail)
  refine (htrap_any b _ _ _ _ h).mono ?_
  rintro e w5 ⟨rfl, h5, g5⟩
  go_wp2
  exact bodyPost_ret (v := .tuple #[]) (by simp [results, Tryz.results23, go_sem]) rfl ⟨rfl, h5, gtrans gr g5⟩
end Go.Proofs.YteilpehekabccabGreatDoor

/- The word is read, and its instruction done, way I. -/
namespace Go.Proofs.YteilpehekabccabGreatDoor
open Go.ChangeShapes Go.WideShapes Go.ChangeAt Go.RowKit
set_option linter.unusedVariables false
set_option linter.unusedSimpArgs false

set_option maxHeartbeats 3200000 in
theorem fet_I (b : Nat) (S : W.St) (hH : W.HOk S.h) (hwd : W.Rg S.r.wd) (q p : Nat → W.Pt) (hcq : S.r.fw.n ≤ S.r.fw.c) (hcap : S.r.wk.n ≤ S.r.wk.c) (w : World) (h : SAt b S w) (hq : Reads S.r.fw.a S.r.fw.n q w) (hr : Reads S.r.wk.a S.r.wk.n p w) (hnq : ∀ q off, S.r.fw.a = some ⟨q, off, none⟩ → 0 < S.r.fw.n → q ≠ b) (hne : ∀ q off, S.r.wk.a = some ⟨q, off, none⟩ → 0 < S.r.wk.n → q ≠ b) (h0 : (S.h.pc % 4 != 0) = false) (h1 : ((W.hwalk S.h S.h.pc 1 S.r.fw.n (fun j => (q j).a) (fun j => (q j).v)).k == 1) = true) (h2 : W.hhas S.h (W.hwalk S.h S.h.pc 1 S.r.fw.n (fun j => (q j).a) (fun j => (q j).v)).pa 4 = true) (h3 : W.decB S.r.wd = false) : Calls Tryz.prog 23 #[.pointer (some ⟨b, 0, none⟩)] w fun z w' => z = .returned (.tuple #[]) ∧ SAt b (W.sill { S with w := { S.w with fw := S.r.fw, fpa := (W.hwalk S.h S.h.pc 1 S.r.fw.n (fun j => (q j).a) (fun j => (q j).v)).pa, wd := S.r.wd } }) w' ∧ w.grownBy w' (some b) := by
  have hp0 := hH.pc.1
  have hp1 := hH.pc.2
  have htm : S.h.pc.tmod 4 = S.h.pc % 4 := Int.tmod_eq_emod_of_nonneg hp0
  have gr : w.grownBy w (some b) := World.grownBy.refl _ _
  have e12 : w.cell? ⟨b, 12, none⟩ = some (.int .u32 S.h.pc) := h.ch 1 rfl
  have hz := h.z
  have hlt := h.lt
  have hX := W.hwalk_pa S.h S.h.pc 1 S.r.fw.n (fun j => (q j).a) (fun j => (q j).v) hH.pc (hq.2.2 0).1 (hq.2.2 1).1
  have hPl := fun w (h : SAt b { S with w := { S.w with fw := S.r.fw } } w) (hr : Reads S.r.fw.a S.r.fw.n q w) => place_a b { S with w := { S.w with fw := S.r.fw } } S.h.pc 1 hH.pc hH.G S.r.fw.a S.r.fw.n S.r.fw.c hcq q w h hr
  unfold W.splace at hPl
  generalize W.hwalk S.h S.h.pc 1 S.r.fw.n (fun j => (q j).a) (fun j => (q j).v) = X at *
  obtain ⟨Xk, Xpa, Xad, Xvl, Xca⟩ := X
  dsimp only at *
  obtain rfl := beq_iff_eq.1 h1
  simp only [show ((1 : Int) == 2) = false from rfl, show ((1 : Int) == 1) = true from rfl, cond_false] at hPl
  have e51 : w.cell? ⟨b, 51, none⟩ = some (.slice S.r.fw.a S.r.fw.n S.r.fw.c) := h.cr 6 rfl
  have e64 : w.cell? ⟨b, 64, none⟩ = some (.slice S.w.fw.a S.w.fw.n S.w.fw.c) := h.cw 6 rfl
  go_enter Tryz.func23, Tryz.ntmps23
  go_wp2_with (fail)
  replace h := h.pfw S.r.fw
  replace gr := gset w b 64 (.slice S.r.fw.a S.r.fw.n S.r.fw.c)
  have hq1 := hq.grown gr hnq
  clear e51 e64 e12
  generalize hW2 : World.setCell w _ _ = W2 at *
  have hr1 : Reads S.r.wk.a S.r.wk.n p W2 := hr.grown gr hne
  clear hW2
  clear hz hlt
  have hz := h.z
  have hlt := h.lt
  refine (hPl _ h hq1).mono ?_
  rintro e w3 ⟨rfl, h5, g5⟩
  replace gr := gtrans gr g5
  clear hPl hq1
  clear h
  have h := h5
  clear h5
  clear hz hlt
  have hz := h.z
  have hlt := h.lt
  have hr2 := hr1.grown g5 hne
  clear hr1 g5
  have e61 : w3.cell? ⟨b, 61, none⟩ = some (.int .u32 S.w.fpa) := h.cw 3 rfl
  go_wp2_with (fail)
  replace h := h.pfpa Xpa
  replace gr := gtrans gr (gset w3 b 61 (.int .u32 Xpa))
  replace hr2 := hr2.grown (gset w3 b 61 (.int .u32 Xpa)) hne
  clear e61
  generalize World.setCell w3 _ _ = W4 at *
  clear hz hlt
  have hz := h.z
  have hlt := h.lt
  have hh := has_any b _ Xpa 4 hX (by decide) _ h
  unfold W.hhas at hh h2
  dsimp only at hh h2
  rw [h2] at hh
  refine hh.mono ?_
  rintro e w4 ⟨rfl, rfl⟩
  clear hh
  have e47 : W4.cell? ⟨b, 47, none⟩ = some (.int .u32 S.r.wd) := h.cr 2 rfl
  have e60 : W4.cell? ⟨b, 60, none⟩ = some (.int .u32 S.w.wd) := h.cw 2 rfl
  go_wp2_with (fail)
  replace h := h.pwd S.r.wd
  replace gr := gtrans gr (gset W4 b 60 (.int .u32 S.r.wd))
  replace hr2 := hr2.grown (gset W4 b 60 (.int .u32 S.r.wd)) hne
  clear e47 e60
  generalize World.setCell W4 _ _ = W5 at *
  clear hz hlt
  have hz := h.z
  have hlt := h.lt
  have hd := decode_any S.r.wd W5
  rw [h3] at hd
  have hi := W.IOk.dec S.r.wd hwd
  generalize hI : W.decI S.r.wd = i at *
  have HI : Hid (W.decI S.r.wd = i) := hI
  clear hI
  obtain ⟨op, rd, rs1, rs2, csr, imm, aq, rl⟩ := i
  unfold inV at hd
  dsimp only at hd
  refine hd.mono ?_
  rintro e w6 ⟨rfl, hb⟩
  clear hd
  replace h := h.below hb
  replace gr := gtrans gr (gbelow hb)
  replace hr2 := hr2.below hb
  clear hz hlt
  have hz := h.z
  have hlt := h.lt
  go_wp2_with (fail)
  replace h := h.alloc (.cells #[.int .i64 op, .int .i64 rd, .int .i64 rs1, .int .i64 rs2, .int .i64 csr, .int .u32 imm, .bool aq, .bool rl] 53)
  replace gr := gtrans gr (galloc w6 (.cells #[.int .i64 op, .int .i64 rd, .int .i64 rs1, .int .i64 rs2, .int .i64 csr, .int .u32 imm, .bool aq, .bool rl] 53) (some b))
  refine (illegal_any b _ _ h).mono ?_
  rintro e w7 ⟨rfl, h5, g5⟩
  go_wp2
  exact bodyPost_ret (v := .tuple #[]) (by simp [results, Tryz.results23, go_sem]) rfl ⟨rfl, h5, gtrans gr g5⟩
end Go.Proofs.YteilpehekabccabGreatDoor

/- The word is read, and its instruction done, way D. -/
namespace Go.Proofs.YteilpehekabccabGreatDoor
open Go.ChangeShapes Go.WideShapes Go.ChangeAt Go.RowKit
set_option linter.unusedVariables false
set_option linter.unusedSimpArgs false

set_option maxHeartbeats 3200000 in
theorem fet_D (b : Nat) (S : W.St) (hH : W.HOk S.h) (hwd : W.Rg S.r.wd) (q p : Nat → W.Pt) (hcq : S.r.fw.n ≤ S.r.fw.c) (hcap : S.r.wk.n ≤ S.r.wk.c) (w : World) (h : SAt b S w) (hq : Reads S.r.fw.a S.r.fw.n q w) (hr : Reads S.r.wk.a S.r.wk.n p w) (hnq : ∀ q off, S.r.fw.a = some ⟨q, off, none⟩ → 0 < S.r.fw.n → q ≠ b) (hne : ∀ q off, S.r.wk.a = some ⟨q, off, none⟩ → 0 < S.r.wk.n → q ≠ b) (h0 : (S.h.pc % 4 != 0) = false) (h1 : ((W.hwalk S.h S.h.pc 1 S.r.fw.n (fun j => (q j).a) (fun j => (q j).v)).k == 1) = true) (h2 : W.hhas S.h (W.hwalk S.h S.h.pc 1 S.r.fw.n (fun j => (q j).a) (fun j => (q j).v)).pa 4 = true) (h3 : W.decB S.r.wd = true) : Calls Tryz.prog 23 #[.pointer (some ⟨b, 0, none⟩)] w fun z w' => z = .returned (.tuple #[]) ∧ SAt b (W.sdo { S with w := { S.w with fw := S.r.fw, fpa := (W.hwalk S.h S.h.pc 1 S.r.fw.n (fun j => (q j).a) (fun j => (q j).v)).pa, wd := S.r.wd } } (W.decI S.r.wd) S.r.wk.n (fun j => (p j).a) (fun j => (p j).v)) w' ∧ w.grownBy w' (some b) := by
  have hp0 := hH.pc.1
  have hp1 := hH.pc.2
  have htm : S.h.pc.tmod 4 = S.h.pc % 4 := Int.tmod_eq_emod_of_nonneg hp0
  have gr : w.grownBy w (some b) := World.grownBy.refl _ _
  have e12 : w.cell? ⟨b, 12, none⟩ = some (.int .u32 S.h.pc) := h.ch 1 rfl
  have hz := h.z
  have hlt := h.lt
  have hX := W.hwalk_pa S.h S.h.pc 1 S.r.fw.n (fun j => (q j).a) (fun j => (q j).v) hH.pc (hq.2.2 0).1 (hq.2.2 1).1
  have hPl := fun w (h : SAt b { S with w := { S.w with fw := S.r.fw } } w) (hr : Reads S.r.fw.a S.r.fw.n q w) => place_a b { S with w := { S.w with fw := S.r.fw } } S.h.pc 1 hH.pc hH.G S.r.fw.a S.r.fw.n S.r.fw.c hcq q w h hr
  unfold W.splace at hPl
  generalize W.hwalk S.h S.h.pc 1 S.r.fw.n (fun j => (q j).a) (fun j => (q j).v) = X at *
  obtain ⟨Xk, Xpa, Xad, Xvl, Xca⟩ := X
  dsimp only at *
  obtain rfl := beq_iff_eq.1 h1
  simp only [show ((1 : Int) == 2) = false from rfl, show ((1 : Int) == 1) = true from rfl, cond_false] at hPl
  have e51 : w.cell? ⟨b, 51, none⟩ = some (.slice S.r.fw.a S.r.fw.n S.r.fw.c) := h.cr 6 rfl
  have e64 : w.cell? ⟨b, 64, none⟩ = some (.slice S.w.fw.a S.w.fw.n S.w.fw.c) := h.cw 6 rfl
  go_enter Tryz.func23, Tryz.ntmps23
  go_wp2_with (fail)
  replace h := h.pfw S.r.fw
  replace gr := gset w b 64 (.slice S.r.fw.a S.r.fw.n S.r.fw.c)
  have hq1 := hq.grown gr hnq
  clear e51 e64 e12
  generalize hW2 : World.setCell w _ _ = W2 at *
  have hr1 : Reads S.r.wk.a S.r.wk.n p W2 := hr.grown gr hne
  clear hW2
  clear hz hlt
  have hz := h.z
  have hlt := h.lt
  refine (hPl _ h hq1).mono ?_
  rintro e w3 ⟨rfl, h5, g5⟩
  replace gr := gtrans gr g5
  clear hPl hq1
  clear h
  have h := h5
  clear h5
  clear hz hlt
  have hz := h.z
  have hlt := h.lt
  have hr2 := hr1.grown g5 hne
  clear hr1 g5
  have e61 : w3.cell? ⟨b, 61, none⟩ = some (.int .u32 S.w.fpa) := h.cw 3 rfl
  go_wp2_with (fail)
  replace h := h.pfpa Xpa
  replace gr := gtrans gr (gset w3 b 61 (.int .u32 Xpa))
  replace hr2 := hr2.grown (gset w3 b 61 (.int .u32 Xpa)) hne
  clear e61
  generalize World.setCell w3 _ _ = W4 at *
  clear hz hlt
  have hz := h.z
  have hlt := h.lt
  have hh := has_any b _ Xpa 4 hX (by decide) _ h
  unfold W.hhas at hh h2
  dsimp only at hh h2
  rw [h2] at hh
  refine hh.mono ?_
  rintro e w4 ⟨rfl, rfl⟩
  clear hh
  have e47 : W4.cell? ⟨b, 47, none⟩ = some (.int .u32 S.r.wd) := h.cr 2 rfl
  have e60 : W4.cell? ⟨b, 60, none⟩ = some (.int .u32 S.w.wd) := h.cw 2 rfl
  go_wp2_with (fail)
  replace h := h.pwd S.r.wd
  replace gr := gtrans gr (gset W4 b 60 (.int .u32 S.r.wd))
  replace hr2 := hr2.grown (gset W4 b 60 (.int .u32 S.r.wd)) hne
  clear e47 e60
  generalize World.setCell W4 _ _ = W5 at *
  clear hz hlt
  have hz := h.z
  have hlt := h.lt
  have hd := decode_any S.r.wd W5
  rw [h3] at hd
  have hi := W.IOk.dec S.r.wd hwd
  generalize hI : W.decI S.r.wd = i at *
  have HI : Hid (W.decI S.r.wd = i) := hI
  clear hI
  obtain ⟨op, rd, rs1, rs2, csr, imm, aq, rl⟩ := i
  unfold inV at hd
  dsimp only at hd
  refine hd.mono ?_
  rintro e w6 ⟨rfl, hb⟩
  clear hd
  replace h := h.below hb
  replace gr := gtrans gr (gbelow hb)
  replace hr2 := hr2.below hb
  clear hz hlt
  have hz := h.z
  have hlt := h.lt
  go_wp2_with (fail)
  replace h := h.alloc (.cells #[.int .i64 op, .int .i64 rd, .int .i64 rs1, .int .i64 rs2, .int .i64 csr, .int .u32 imm, .bool aq, .bool rl] 53)
  replace gr := gtrans gr (galloc w6 (.cells #[.int .i64 op, .int .i64 rd, .int .i64 rs1, .int .i64 rs2, .int .i64 csr, .int .u32 imm, .bool aq, .bool rl] 53) (some b))
  replace hr2 := hr2.below ((Below.refl w6.heap.size w6).alloc (Nat.le_refl _) (.cells #[.int .i64 op, .int .i64 rd, .int .i64 rs1, .int .i64 rs2, .int .i64 csr, .int .u32 imm, .bool aq, .bool rl] 53))
  have hdo := do_at b { S with w := { S.w with fw := S.r.fw, fpa := Xpa, wd := S.r.wd } } ⟨op, rd, rs1, rs2, csr, imm, aq, rl⟩ hi hH p hcap _ h hr2 hne
  unfold inCells at hdo
  dsimp only at hdo
  refine hdo.mono ?_
  rintro e w7 ⟨rfl, h5, g5⟩
  go_wp2
  go_end0
  rw [HI.out]
  exact ⟨rfl, h5, gtrans gr g5⟩
end Go.Proofs.YteilpehekabccabGreatDoor

/- The whole step. -/
namespace Go.Proofs.YteilpehekabccabGreatDoor
open Go.ChangeShapes Go.WideShapes Go.ChangeAt Go.RowKit
set_option linter.unusedVariables false
set_option linter.unusedSimpArgs false

theorem fet_any (b : Nat) (S : W.St) (hH : W.HOk S.h) (hwd : W.Rg S.r.wd) (q p : Nat → W.Pt) (hcq : S.r.fw.n ≤ S.r.fw.c) (hcap : S.r.wk.n ≤ S.r.wk.c) (w : World) (h : SAt b S w) (hq : Reads S.r.fw.a S.r.fw.n q w) (hr : Reads S.r.wk.a S.r.wk.n p w) (hnq : ∀ q off, S.r.fw.a = some ⟨q, off, none⟩ → 0 < S.r.fw.n → q ≠ b) (hne : ∀ q off, S.r.wk.a = some ⟨q, off, none⟩ → 0 < S.r.wk.n → q ≠ b) : Calls Tryz.prog 23 #[.pointer (some ⟨b, 0, none⟩)] w fun z w' => z = .returned (.tuple #[]) ∧ SAt b (W.sfet S S.r.fw.n (fun j => (q j).a) (fun j => (q j).v) S.r.wk.n (fun j => (p j).a) (fun j => (p j).v)) w' ∧ w.grownBy w' (some b) := by
  cases h0 : (S.h.pc % 4 != 0)
  · cases h1 : ((W.hwalk S.h S.h.pc 1 S.r.fw.n (fun j => (q j).a) (fun j => (q j).v)).k == 1)
    · have e : W.sfet S S.r.fw.n (fun j => (q j).a) (fun j => (q j).v) S.r.wk.n (fun j => (p j).a) (fun j => (p j).v) = W.splace { S with w := { S.w with fw := S.r.fw } } S.h.pc 1 S.r.fw.n (fun j => (q j).a) (fun j => (q j).v) := by
        simp only [W.sfet, h0, h1, cond_true, cond_false]
      rw [e]
      exact fet_P b S hH hwd q p hcq hcap w h hq hr hnq hne h0 h1
    · cases h2 : W.hhas S.h (W.hwalk S.h S.h.pc 1 S.r.fw.n (fun j => (q j).a) (fun j => (q j).v)).pa 4
      · have e : W.sfet S S.r.fw.n (fun j => (q j).a) (fun j => (q j).v) S.r.wk.n (fun j => (p j).a) (fun j => (p j).v) = W.strap { S with w := { S.w with fw := S.r.fw, fpa := (W.hwalk S.h S.h.pc 1 S.r.fw.n (fun j => (q j).a) (fun j => (q j).v)).pa } } 1 S.h.pc := by
          simp only [W.sfet, W.sfet1, h0, h1, h2, cond_true, cond_false]
        rw [e]
        exact fet_F b S hH hwd q p hcq hcap w h hq hr hnq hne h0 h1 h2
      · cases h3 : W.decB S.r.wd
        · have e : W.sfet S S.r.fw.n (fun j => (q j).a) (fun j => (q j).v) S.r.wk.n (fun j => (p j).a) (fun j => (p j).v) = W.sill { S with w := { S.w with fw := S.r.fw, fpa := (W.hwalk S.h S.h.pc 1 S.r.fw.n (fun j => (q j).a) (fun j => (q j).v)).pa, wd := S.r.wd } } := by
            simp only [W.sfet, W.sfet1, W.sfet2, h0, h1, h2, h3, cond_true, cond_false]
          rw [e]
          exact fet_I b S hH hwd q p hcq hcap w h hq hr hnq hne h0 h1 h2 h3
        · have e : W.sfet S S.r.fw.n (fun j => (q j).a) (fun j => (q j).v) S.r.wk.n (fun j => (p j).a) (fun j => (p j).v) = W.sdo { S with w := { S.w with fw := S.r.fw, fpa := (W.hwalk S.h S.h.pc 1 S.r.fw.n (fun j => (q j).a) (fun j => (q j).v)).pa, wd := S.r.wd } } (W.decI S.r.wd) S.r.wk.n (fun j => (p j).a) (fun j => (p j).v) := by
            simp only [W.sfet, W.sfet1, W.sfet2, h0, h1, h2, h3, cond_true, cond_false]
          rw [e]
          exact fet_D b S hH hwd q p hcq hcap w h hq hr hnq hne h0 h1 h2 h3
  · have e : W.sfet S S.r.fw.n (fun j => (q j).a) (fun j => (q j).v) S.r.wk.n (fun j => (p j).a) (fun j => (p j).v) = W.strap S 0 S.h.pc := by
      simp only [W.sfet, h0, cond_true]
    rw [e]
    exact fet_M b S hH hwd q p hcq hcap w h hq hr hnq hne h0

set_option maxHeartbeats 1600000 in
theorem int_any (b : Nat) (S : W.St) (w : World) (h : SAt b S w) : Calls Tryz.prog 22 #[.pointer (some ⟨b, 0, none⟩)] w fun z w' => z = .returned (.tuple #[]) ∧ SAt b (W.sint S) w' ∧ w.grownBy w' (some b) := by
  have hlt := h.lt
  have hz := h.z
  unfold W.sint
  dsimp only
  cases hp : W.pend (W.bell S.h.G true)
  · dsimp only [cond_false]
    go_enter Tryz.func22, Tryz.ntmps22
    go_wp2_with (fail)
    refine (bell_s b S true _ h).mono ?_
    rintro e w1 ⟨rfl, h1, g1⟩
    clear hlt hz
    have hlt := h1.lt
    have hz := h1.z
    have hP := pending_s b _ _ h1
    unfold W.pendV at hP
    dsimp only at hP
    rw [hp] at hP
    go_wp2_with (fail)
    refine hP.mono ?_
    rintro e w2 ⟨rfl, hb⟩
    go_wp2
    go_end0
    exact ⟨rfl, h1.below hb, gtrans g1 (gbelow hb)⟩
  · dsimp only [cond_true]
    go_enter Tryz.func22, Tryz.ntmps22
    go_wp2_with (fail)
    refine (bell_s b S true _ h).mono ?_
    rintro e w1 ⟨rfl, h1, g1⟩
    clear hlt hz
    have hlt := h1.lt
    have hz := h1.z
    have hP := pending_s b _ _ h1
    unfold W.pendV at hP
    dsimp only at hP
    rw [hp] at hP
    go_wp2_with (fail)
    refine hP.mono ?_
    rintro e w2 ⟨rfl, hb⟩
    have h2 := h1.below hb
    clear hlt hz
    have hlt := h2.lt
    go_wp2_with (fail)
    refine (htrap_any b _ _ _ _ h2).mono ?_
    rintro e w3 ⟨rfl, h3, g3⟩
    clear hlt
    have hlt := h3.lt
    have hz := h3.z
    have e58 : w3.cell? ⟨b, 58, none⟩ = some (.int .i64 2) := h3.cw 0 rfl
    go_wp2
    go_end0
    exact ⟨rfl, h3.pk 3, gtrans (gtrans g1 (gbelow hb)) (gtrans g3 (gset _ _ _ _))⟩

theorem run_any (b : Nat) (S : W.St) (hH : W.HOk S.h) (hwd : W.Rg S.r.wd) (q p : Nat → W.Pt) (hcq : S.r.fw.n ≤ S.r.fw.c) (hcap : S.r.wk.n ≤ S.r.wk.c) (w : World) (h : SAt b S w) (hq : Reads S.r.fw.a S.r.fw.n q w) (hr : Reads S.r.wk.a S.r.wk.n p w) (hnq : ∀ q off, S.r.fw.a = some ⟨q, off, none⟩ → 0 < S.r.fw.n → q ≠ b) (hne : ∀ q off, S.r.wk.a = some ⟨q, off, none⟩ → 0 < S.r.wk.n → q ≠ b) : Calls Tryz.prog 14 #[.pointer (some ⟨b, 0, none⟩)] w fun z w' => z = .returned (.tuple #[]) ∧ SAt b (W.srun S S.r.fw.n (fun j => (q j).a) (fun j => (q j).v) S.r.wk.n (fun j => (p j).a) (fun j => (p j).v)) w' ∧ w.grownBy w' (some b) := by
  have hF := fet_any b S hH hwd q p hcq hcap w h hq hr hnq hne
  have hI := int_any b S w h
  have e45 : w.cell? ⟨b, 45, none⟩ = some (.int .i64 S.r.k) := h.cr 0 rfl
  have hlt := h.lt
  unfold W.srun
  generalize W.sfet S S.r.fw.n (fun j => (q j).a) (fun j => (q j).v) S.r.wk.n (fun j => (p j).a) (fun j => (p j).v) = SF at *
  generalize W.sint S = SI at *
  cases h3 : (S.r.k == 3)
  · dsimp only [cond_false]
    go_enter Tryz.func14, Tryz.ntmps14
    go_wp2_with (fail)
    refine hF.mono ?_
    rintro e w1 ⟨rfl, h1, g1⟩
    go_wp2
    go_end0
    exact ⟨rfl, h1, g1⟩
  · dsimp only [cond_true]
    go_enter Tryz.func14, Tryz.ntmps14
    go_wp2_with (fail)
    refine hI.mono ?_
    rintro e w1 ⟨rfl, h1, g1⟩
    go_wp2
    exact bodyPost_ret (v := .tuple #[]) (by simp [results, Tryz.results14, go_sem]) rfl ⟨rfl, h1, g1⟩
end Go.Proofs.YteilpehekabccabGreatDoor

/- Lists of entries held against one another. -/
namespace Go.Proofs.YteilpehekabccabGreatDoor
open Go.ChangeShapes Go.WideShapes Go.ChangeAt Go.RowKit
set_option linter.unusedVariables false
set_option linter.unusedSimpArgs false

theorem neq_pte (a v o t : Int) (f : Bool) (w : World) : (binOp .neq 32 (.agg #[.int .u32 a, .int .u32 v, .int .u32 o, .int .i64 t, .bool f]) (.agg #[.int .u32 a, .int .u32 v, .int .u32 o, .int .i64 t, .bool f])).run Tryz.prog w = .ok (.bool false) w := by
  simp [go_sem]

set_option maxHeartbeats 1600000 in
theorem peq_same (a : Option Addr) (n cap : Nat) (p : Nat → W.Pt) (w : World) (hr : Reads a n p w) : Calls Tryz.prog 24 #[.slice a n cap, .slice a n cap] w fun e w' => e = .returned (.bool true) ∧ Below w.heap.size w w' := by
  have HR : Hid (Reads a n p w) := hr
  have hn47 := hr.1
  unfold maxLen at hn47
  clear hr
  go_enter Tryz.func24, Tryz.ntmps24
  go_wp2
  go_loopw [13] (fun i wr => ∃ j : Nat, j ≤ n ∧ i = .int .i64 j ∧ ∃ d, wr = w.drewN d) (fun i _ => n - (intOf i).toNat)
  case atStart => exact ⟨0, Nat.zero_le _, rfl, 0, rfl⟩
  case round =>
    obtain ⟨j, hj, rfl, d, rfl⟩ := hrel
    by_cases hlt : j < n
    · obtain ⟨b', off, rfl, hb', hrd⟩ := HR.out.2.1 (by omega)
      obtain ⟨q0, q1, q2, q3, q4⟩ := hrd j hlt
      clear hrd
      generalize p j = P at *
      obtain ⟨pa, pv, po, pt, pf⟩ := P
      dsimp only at *
      have hc := neq_pte pa pv po pt pf
      go_wp2
      go_quiet (fail)
      go_wp2
      go_roundw
      case rel => exact ⟨j + 1, by omega, by go_num, _, rfl⟩
      case measure => simp [intOf]; omega
    · have hk' : n = j := by omega
      subst hk'
      go_wp2
      go_ret
      exact ⟨rfl, below_drewN (Below.refl _ _) _⟩

theorem peq_nil (a : Option Addr) (n cap : Nat) (w : World) : Calls Tryz.prog 24 #[.slice a n cap, .slice none 0 0] w fun e w' => e = .returned (.bool (n == 0)) ∧ Below w.heap.size w w' := by
  by_cases h : n = 0
  · subst h
    go_enter Tryz.func24, Tryz.ntmps24
    go_wp2
    refine wp_loop_rounds 1 ?_
    rw [rounds_succ]
    go_wp2
    go_ret
    exact ⟨rfl, Below.refl _ _⟩
  · have h1 : ((n : Int) != 0) = true := by simp; omega
    have h2 : (n == 0) = false := by simpa using h
    rw [h2]
    go_enter Tryz.func24, Tryz.ntmps24
    go_wp2
    go_ret
    exact ⟨rfl, Below.refl _ _⟩
end Go.Proofs.YteilpehekabccabGreatDoor
