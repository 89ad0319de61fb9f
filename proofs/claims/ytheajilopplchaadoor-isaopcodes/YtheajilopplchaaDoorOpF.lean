/- IsaOpcodes, walked, by the fields that the instruction uses. -/
import Derived.Test.YtheajilopplchaaDoorOpA
namespace Go.Proofs.YtheajilopplchaaDoor
open Go.ChangeShapes Go.WideShapes Go.ChangeAt Go.RowKit
set_option linter.unusedVariables false
set_option linter.unusedSimpArgs false
attribute [local go_sem ↓] Go.wp_at_zero Go.wp_at_succ

set_option maxRecDepth 100000 in
set_option maxHeartbeats 12800000 in
theorem isaopcodes_tttt (A : Nat → Addr) (x c op rd rs1 rs2 csr imm kd : Int) (rl fi : Bool) (nb : UInt8) (nt : List UInt8) (w : World) (hS : Sent A w) (hd : W.decB x = true) (dI : Hid (W.decI x = ⟨op, rd, rs1, rs2, csr, imm, true, rl⟩)) (hc : bits .and .u32 x 127 = c) (hk : Hid (W.kn c 12 = true))
    (u1 : Hid ((W.shp op).rd = true)) (u2 : Hid ((W.shp op).rs1 = true)) (u3 : Hid ((W.shp op).rs2 = true)) (u4 : Hid (W.hasImm (W.shp op) = fi)) (v1 : (rd % 4294967296 != bits .and .u32 (x / 128) 31) = false) (v2 : (rs1 % 4294967296 != bits .and .u32 (x / 32768) 31) = false) (v3 : (rs2 % 4294967296 != bits .and .u32 (x / 1048576) 31) = false)
    (n1 : Hid (W.nm op = nb :: nt)) (k1 : Hid (W.kind op = kd)) (k2 : 0 < kd) (q : 59 ≤ op) :
    Calls Tryd.prog 8 #[.int .u32 x] w fun e w' => e = .returned (.bool true) ∧ Below w.heap.size w w' := by
  have hb : Below w.heap.size w w := Below.refl _ _
  have HS : Hid (Sent A w) := hS
  clear hS
  go_enter Tryd.func8, Tryd.ntmps8
  go_wp2_with (first
    | (go_at_call 9; refine (from_ (first_any A _ HS.out) hb).mono ?_; clear hb; rintro e w1 ⟨rfl, hb⟩)
    | (go_at_call 10; refine (from_ (decode_any _ _) hb).mono ?_; clear hb; rintro e w2 ⟨rfl, hb⟩; have g2 : Hid (∀ t, Gy w2.heap.size op rd rs1 rs2 csr imm true rl w (w2.alloc (.cells _ t))) := fun t => Gy.start hb; rw [dI.out]; unfold inV))
  generalize hW3 : World.alloc (World.alloc w2 _) _ = W3
  have g3 : Hid (Gy w2.heap.size op rd rs1 rs2 csr imm true rl w W3) := (by rw [← hW3]; exact (g2.out _).alloc _ : Gy w2.heap.size op rd rs1 rs2 csr imm true rl w W3)
  have hcell : Hid (∀ j, j < 12 → W3.cell? ⟨w2.heap.size + 1, j, none⟩ = some (.int .u32 (W.l12.getD j 0))) := (fun j hj => by
    rw [← hW3]
    match j, hj with
    | 0, _ | 1, _ | 2, _ | 3, _ | 4, _ | 5, _ | 6, _ | 7, _ | 8, _ | 9, _ | 10, _ | 11, _ => simp [go_sem, W.l12] : ∀ j, j < 12 → W3.cell? ⟨w2.heap.size + 1, j, none⟩ = some (.int .u32 (W.l12.getD j 0)))
  have hlt3 : w2.heap.size + 1 < W3.heap.size := by rw [← hW3]; simp
  clear hW3 g2 hb
  go_loopw [6, 8] (fun kv k wr => ∃ j : Nat, j ≤ 12 ∧ kv = .bool (W.kn c j) ∧ k = .int .i64 j ∧ wr = W3) (fun _ k _ => (12 - intOf k).toNat)
  case atStart => exact ⟨0, by omega, rfl, rfl, rfl⟩
  case round =>
    obtain ⟨j, hj, rfl, rfl, rfl⟩ := hrel
    by_cases hlt : j < 12
    · have ks := W.kn_succ c j hlt
      have cj := hcell.out j hlt
      have cj' : wr.cell? ⟨w2.heap.size + 1, 0 + j, none⟩ = some (.int .u32 (W.l12.getD j 0)) := by rw [Nat.zero_add]; exact cj
      cases hkn : W.kn c j <;> rw [hkn] at ks
      · have KS : Hid (W.kn c (j + 1) = (c == W.l12.getD j 0)) := (ks.trans (by rfl) : W.kn c (j + 1) = (c == W.l12.getD j 0))
        clear ks
        generalize W.l12.getD j 0 = z at *
        go_wp2
        go_roundw
        case rel => exact ⟨j + 1, by omega, by rw [KS.out], by go_num, trivial⟩
        case measure => simp [intOf]; omega
      · have KS : Hid (W.kn c (j + 1) = true) := (ks.trans (by rfl) : W.kn c (j + 1) = true)
        clear ks
        go_wp2
        go_roundw
        case rel => exact ⟨j + 1, by omega, by rw [KS.out], by go_num, trivial⟩
        case measure => simp [intOf]; omega
    · have hj12 : j = 12 := by omega
      subst hj12
      rw [hk.out]
      obtain ⟨_, _, r0, r1, r2, r3, r4, r5, r6, r7⟩ := g3.out
      clear hcell
      go_wp2_with (first
       | (go_at_call 17; refine (uses_any op _).mono ?_; rintro e w4 ⟨rfl, hm⟩; have g4 : Hid (Gy w2.heap.size op rd rs1 rs2 csr imm true rl w w4) := g3.out.below hm; clear hm; obtain ⟨_, _, x0, x1, x2, x3, x4, x5, x6, x7⟩ := g4.out; rw [u1.out, u2.out, u3.out, u4.out]))
      have hS0 : SO w2.heap.size op true w w4.drew := SO.below ⟨g4.out.bel, g4.out.lt, x0, x6⟩ (Below.refl _ _).drew
      clear x0 x1 x2 x3 x4 x5 x6 x7 r0 r1 r2 r3 r4 r5 r6 r7 v1 v2 v3
      go_region_held3 (fun w' => Below w.heap.size w w' ∧ w2.heap.size < w'.heap.size ∧ w'.cell? ⟨w2.heap.size, 0, none⟩ = some (.int .i64 op) ∧ w'.cell? ⟨w2.heap.size, 6, none⟩ = some (.bool true))
        (first
          | with_reducible assumption
          | (with_reducible refine SO.below (n := w2.heap.size) (op := op) (aq := true) (w := w) ?_ hm; with_reducible assumption)
          | (refine SO.below (n := w2.heap.size) (op := op) (aq := true) (w := w) ?_ hm; assumption))
        (first
          | (go_at_call 18; refine (name_any op _).mono ?_; rintro e w' ⟨rfl, hm⟩; rw [n1.out])
          | (go_at_call 19; refine (kind_bel op _).mono ?_; rintro e w' ⟨rfl, hm⟩; rw [k1.out])
          | (go_at_call 20; refine (rkind_bel op _).mono ?_; rintro e w' ⟨rfl, hm⟩; rw [k1.out]))
      all_goals
        have hB : Below w.heap.size w w' := by (go_split_ands; assumption)
        go_wp2
        go_ret
        exact ⟨rfl, hB⟩
end Go.Proofs.YtheajilopplchaaDoor
