/- IsaRegs, walked: it returns true, whatever the numbers. -/
import Derived.Test.YtheajilopplchaaDoorFirst
import Derived.Test.YtheajilopplchaaDoorRegM
namespace Go.Proofs.YtheajilopplchaaDoor
open Go.ChangeShapes Go.WideShapes Go.ChangeAt Go.RowKit
set_option linter.unusedVariables false
set_option linter.unusedSimpArgs false

/-- The two lists lie where they lay, the errors too. -/
structure Rg (A : Nat → Addr) (n : Nat) (w wc : World) : Prop where
  bel : Below w.heap.size w wc
  lt : n + 1 < wc.heap.size
  ops : ∀ j, j < 18 → wc.cell? ⟨n, j, none⟩ = some (.int .i64 (W.opsT.getD j 0))
  f3 : ∀ j, j < 18 → wc.cell? ⟨n + 1, j, none⟩ = some (.int .u32 (W.f3T.getD j 0))
  sent : Sent A wc
theorem Rg.below {A : Nat → Addr} {n : Nat} {w a b : World} (h : Rg A n w a) (hm : Below a.heap.size a b) : Rg A n w b :=
  ⟨h.bel.trans (hm.mono h.bel.size), Nat.lt_of_lt_of_le h.lt hm.size, fun j hj => (hm.cell (Nat.lt_of_succ_lt h.lt)).trans (h.ops j hj), fun j hj => (hm.cell h.lt).trans (h.f3 j hj), h.sent.below hm⟩

set_option maxRecDepth 100000 in
set_option maxHeartbeats 25600000 in
theorem isaregs_walk (A : Nat → Addr) (rd a b : Int) (_d0 : -9223372036854775808 ≤ rd) (_d1 : rd ≤ 9223372036854775807) (_a0 : -9223372036854775808 ≤ a) (_a1 : a ≤ 9223372036854775807) (_b0 : -9223372036854775808 ≤ b) (_b1 : b ≤ 9223372036854775807) (w : World) (hS : Sent A w) :
    Calls Tryd.prog 7 #[.int .i64 rd, .int .i64 a, .int .i64 b] w fun e w' => e = .returned (.bool true) ∧ Below w.heap.size w w' := by
  have hb : Below w.heap.size w w := Below.refl _ _
  have hr := W.ring rd
  have hp := W.ring a
  have hq := W.ring b
  have HS : Hid (Sent A w) := hS
  clear hS _d0 _d1 _a0 _a1 _b0 _b1
  go_enter Tryd.func7, Tryd.ntmps7
  go_wp2_with (first
    | (go_at_call 9; refine (from_ (first_any A _ HS.out) hb).mono ?_; clear hb; rintro e w1 ⟨rfl, hb⟩))
  generalize (wrap64 (rd.tmod 32 + 32)).tmod 32 = r at *
  generalize (wrap64 (a.tmod 32 + 32)).tmod 32 = p at *
  generalize (wrap64 (b.tmod 32 + 32)).tmod 32 = q at *
  obtain ⟨r0, r1⟩ := hr
  obtain ⟨p0, p1⟩ := hp
  obtain ⟨q0, q1⟩ := hq
  generalize hW3 : World.alloc (World.alloc w1 _) _ = W3
  have g3 : Hid (Rg A w1.heap.size w W3) := (by
    have hz := hb.size
    have hB : Below w.heap.size w W3 := by rw [← hW3]; refine Below.alloc (Below.alloc hb hz _) ?_ _; simp; omega
    refine ⟨hB, by rw [← hW3]; simp, fun j hj => ?_, fun j hj => ?_, HS.out.below hB⟩
    · rw [← hW3]
      rcases (by omega : j = 0 ∨ j = 1 ∨ j = 2 ∨ j = 3 ∨ j = 4 ∨ j = 5 ∨ j = 6 ∨ j = 7 ∨ j = 8 ∨ j = 9 ∨ j = 10 ∨ j = 11 ∨ j = 12 ∨ j = 13 ∨ j = 14 ∨ j = 15 ∨ j = 16 ∨ j = 17) with rfl | rfl | rfl | rfl | rfl | rfl | rfl | rfl | rfl | rfl | rfl | rfl | rfl | rfl | rfl | rfl | rfl | rfl <;> simp [go_sem, W.opsT]
    · rw [← hW3]
      rcases (by omega : j = 0 ∨ j = 1 ∨ j = 2 ∨ j = 3 ∨ j = 4 ∨ j = 5 ∨ j = 6 ∨ j = 7 ∨ j = 8 ∨ j = 9 ∨ j = 10 ∨ j = 11 ∨ j = 12 ∨ j = 13 ∨ j = 14 ∨ j = 15 ∨ j = 16 ∨ j = 17) with rfl | rfl | rfl | rfl | rfl | rfl | rfl | rfl | rfl | rfl | rfl | rfl | rfl | rfl | rfl | rfl | rfl | rfl <;> simp [go_sem, W.f3T] : Rg A w1.heap.size w W3)
  clear hW3 hb HS
  go_loopw [10] (fun i wr => ∃ j : Nat, j ≤ 18 ∧ i = .int .i64 j ∧ Rg A w1.heap.size w wr) (fun i _ => (18 - intOf i).toNat)
  case atStart => exact ⟨0, by omega, rfl, g3.out⟩
  case round =>
    obtain ⟨j, hj, rfl, hR⟩ := hrel
    have HR : Hid (Rg A w1.heap.size w wr) := hR
    clear hR g3
    by_cases hlt : j < 18
    · rcases (by omega : j = 0 ∨ j = 1 ∨ j = 2 ∨ j = 3 ∨ j = 4 ∨ j = 5 ∨ j = 6 ∨ j = 7 ∨ j = 8 ∨ j = 9 ∨ j = 10 ∨ j = 11 ∨ j = 12 ∨ j = 13 ∨ j = 14 ∨ j = 15 ∨ j = 16 ∨ j = 17) with rfl | rfl | rfl | rfl | rfl | rfl | rfl | rfl | rfl | rfl | rfl | rfl | rfl | rfl | rfl | rfl | rfl | rfl
      · have er : r * 128 % 4294967296 = r * 128 := by omega
        have ep : p * 32768 % 4294967296 = p * 32768 := by omega
        have eq : q * 1048576 % 4294967296 = q * 1048576 := by omega
        have E := W.regs_enc 28 0 0 r p q r0 r1 p0 p1 q0 q1 (by decide +kernel)
        have E1 : Hid (W.encE ⟨28, r, p, q, 0, 0, false, false⟩ = 0) := E.1
        obtain ⟨v, hv⟩ : ∃ v, W.encV ⟨28, r, p, q, 0, 0, false, false⟩ = v := ⟨_, rfl⟩
        have E2 : Hid (W.encV ⟨28, r, p, q, 0, 0, false, false⟩ = v) := hv
        have t : (v != bits .or .u32 (bits .or .u32 (bits .or .u32 (bits .or .u32 (bits .or .u32 51 (r * 128)) 0) (p * 32768)) (q * 1048576)) 0) = false := by rw [bne_eq_false_iff_eq, ← hv]; refine E.2.trans ?_; rw [er, ep, eq]; rfl
        clear E hv er ep eq
        have c1 : wr.cell? ⟨w1.heap.size, 0, none⟩ = some (.int .i64 28) := HR.out.ops 0 (by omega)
        go_wp2_with (first
          | (go_at_call 12; refine (encode_any A ⟨28, r, p, q, 0, 0, false, false⟩ _ HR.out.sent).mono ?_; rintro e w5 ⟨rfl, hm⟩; have H5 : Hid (Rg A w1.heap.size w w5) := HR.out.below hm; clear hm; have c2 : w5.cell? ⟨w1.heap.size + 1, 0, none⟩ = some (.int .u32 0) := H5.out.f3 0 (by omega); rw [E1.out, E2.out, show errV A 0 = .nilIface from rfl]))
        go_roundw
        case rel => exact ⟨1, by omega, by go_num, H5.out⟩
        case measure => simp [intOf]
      · have er : r * 128 % 4294967296 = r * 128 := by omega
        have ep : p * 32768 % 4294967296 = p * 32768 := by omega
        have eq : q * 1048576 % 4294967296 = q * 1048576 := by omega
        have E := W.regs_enc 29 0 32 r p q r0 r1 p0 p1 q0 q1 (by decide +kernel)
        have E1 : Hid (W.encE ⟨29, r, p, q, 0, 0, false, false⟩ = 0) := E.1
        obtain ⟨v, hv⟩ : ∃ v, W.encV ⟨29, r, p, q, 0, 0, false, false⟩ = v := ⟨_, rfl⟩
        have E2 : Hid (W.encV ⟨29, r, p, q, 0, 0, false, false⟩ = v) := hv
        have t : (v != bits .or .u32 (bits .or .u32 (bits .or .u32 (bits .or .u32 (bits .or .u32 51 (r * 128)) 0) (p * 32768)) (q * 1048576)) 1073741824) = false := by rw [bne_eq_false_iff_eq, ← hv]; refine E.2.trans ?_; rw [er, ep, eq]; rfl
        clear E hv er ep eq
        have c1 : wr.cell? ⟨w1.heap.size, 1, none⟩ = some (.int .i64 29) := HR.out.ops 1 (by omega)
        go_wp2_with (first
          | (go_at_call 12; refine (encode_any A ⟨29, r, p, q, 0, 0, false, false⟩ _ HR.out.sent).mono ?_; rintro e w5 ⟨rfl, hm⟩; have H5 : Hid (Rg A w1.heap.size w w5) := HR.out.below hm; clear hm; have c2 : w5.cell? ⟨w1.heap.size + 1, 1, none⟩ = some (.int .u32 0) := H5.out.f3 1 (by omega); rw [E1.out, E2.out, show errV A 0 = .nilIface from rfl]))
        go_roundw
        case rel => exact ⟨2, by omega, by go_num, H5.out⟩
        case measure => simp [intOf]
      · have er : r * 128 % 4294967296 = r * 128 := by omega
        have ep : p * 32768 % 4294967296 = p * 32768 := by omega
        have eq : q * 1048576 % 4294967296 = q * 1048576 := by omega
        have E := W.regs_enc 30 1 0 r p q r0 r1 p0 p1 q0 q1 (by decide +kernel)
        have E1 : Hid (W.encE ⟨30, r, p, q, 0, 0, false, false⟩ = 0) := E.1
        obtain ⟨v, hv⟩ : ∃ v, W.encV ⟨30, r, p, q, 0, 0, false, false⟩ = v := ⟨_, rfl⟩
        have E2 : Hid (W.encV ⟨30, r, p, q, 0, 0, false, false⟩ = v) := hv
        have t : (v != bits .or .u32 (bits .or .u32 (bits .or .u32 (bits .or .u32 (bits .or .u32 51 (r * 128)) 4096) (p * 32768)) (q * 1048576)) 0) = false := by rw [bne_eq_false_iff_eq, ← hv]; refine E.2.trans ?_; rw [er, ep, eq]; rfl
        clear E hv er ep eq
        have c1 : wr.cell? ⟨w1.heap.size, 2, none⟩ = some (.int .i64 30) := HR.out.ops 2 (by omega)
        go_wp2_with (first
          | (go_at_call 12; refine (encode_any A ⟨30, r, p, q, 0, 0, false, false⟩ _ HR.out.sent).mono ?_; rintro e w5 ⟨rfl, hm⟩; have H5 : Hid (Rg A w1.heap.size w w5) := HR.out.below hm; clear hm; have c2 : w5.cell? ⟨w1.heap.size + 1, 2, none⟩ = some (.int .u32 1) := H5.out.f3 2 (by omega); rw [E1.out, E2.out, show errV A 0 = .nilIface from rfl]))
        go_roundw
        case rel => exact ⟨3, by omega, by go_num, H5.out⟩
        case measure => simp [intOf]
      · have er : r * 128 % 4294967296 = r * 128 := by omega
        have ep : p * 32768 % 4294967296 = p * 32768 := by omega
        have eq : q * 1048576 % 4294967296 = q * 1048576 := by omega
        have E := W.regs_enc 31 2 0 r p q r0 r1 p0 p1 q0 q1 (by decide +kernel)
        have E1 : Hid (W.encE ⟨31, r, p, q, 0, 0, false, false⟩ = 0) := E.1
        obtain ⟨v, hv⟩ : ∃ v, W.encV ⟨31, r, p, q, 0, 0, false, false⟩ = v := ⟨_, rfl⟩
        have E2 : Hid (W.encV ⟨31, r, p, q, 0, 0, false, false⟩ = v) := hv
        have t : (v != bits .or .u32 (bits .or .u32 (bits .or .u32 (bits .or .u32 (bits .or .u32 51 (r * 128)) 8192) (p * 32768)) (q * 1048576)) 0) = false := by rw [bne_eq_false_iff_eq, ← hv]; refine E.2.trans ?_; rw [er, ep, eq]; rfl
        clear E hv er ep eq
        have c1 : wr.cell? ⟨w1.heap.size, 3, none⟩ = some (.int .i64 31) := HR.out.ops 3 (by omega)
        go_wp2_with (first
          | (go_at_call 12; refine (encode_any A ⟨31, r, p, q, 0, 0, false, false⟩ _ HR.out.sent).mono ?_; rintro e w5 ⟨rfl, hm⟩; have H5 : Hid (Rg A w1.heap.size w w5) := HR.out.below hm; clear hm; have c2 : w5.cell? ⟨w1.heap.size + 1, 3, none⟩ = some (.int .u32 2) := H5.out.f3 3 (by omega); rw [E1.out, E2.out, show errV A 0 = .nilIface from rfl]))
        go_roundw
        case rel => exact ⟨4, by omega, by go_num, H5.out⟩
        case measure => simp [intOf]
      · have er : r * 128 % 4294967296 = r * 128 := by omega
        have ep : p * 32768 % 4294967296 = p * 32768 := by omega
        have eq : q * 1048576 % 4294967296 = q * 1048576 := by omega
        have E := W.regs_enc 32 3 0 r p q r0 r1 p0 p1 q0 q1 (by decide +kernel)
        have E1 : Hid (W.encE ⟨32, r, p, q, 0, 0, false, false⟩ = 0) := E.1
        obtain ⟨v, hv⟩ : ∃ v, W.encV ⟨32, r, p, q, 0, 0, false, false⟩ = v := ⟨_, rfl⟩
        have E2 : Hid (W.encV ⟨32, r, p, q, 0, 0, false, false⟩ = v) := hv
        have t : (v != bits .or .u32 (bits .or .u32 (bits .or .u32 (bits .or .u32 (bits .or .u32 51 (r * 128)) 12288) (p * 32768)) (q * 1048576)) 0) = false := by rw [bne_eq_false_iff_eq, ← hv]; refine E.2.trans ?_; rw [er, ep, eq]; rfl
        clear E hv er ep eq
        have c1 : wr.cell? ⟨w1.heap.size, 4, none⟩ = some (.int .i64 32) := HR.out.ops 4 (by omega)
        go_wp2_with (first
          | (go_at_call 12; refine (encode_any A ⟨32, r, p, q, 0, 0, false, false⟩ _ HR.out.sent).mono ?_; rintro e w5 ⟨rfl, hm⟩; have H5 : Hid (Rg A w1.heap.size w w5) := HR.out.below hm; clear hm; have c2 : w5.cell? ⟨w1.heap.size + 1, 4, none⟩ = some (.int .u32 3) := H5.out.f3 4 (by omega); rw [E1.out, E2.out, show errV A 0 = .nilIface from rfl]))
        go_roundw
        case rel => exact ⟨5, by omega, by go_num, H5.out⟩
        case measure => simp [intOf]
      · have er : r * 128 % 4294967296 = r * 128 := by omega
        have ep : p * 32768 % 4294967296 = p * 32768 := by omega
        have eq : q * 1048576 % 4294967296 = q * 1048576 := by omega
        have E := W.regs_enc 33 4 0 r p q r0 r1 p0 p1 q0 q1 (by decide +kernel)
        have E1 : Hid (W.encE ⟨33, r, p, q, 0, 0, false, false⟩ = 0) := E.1
        obtain ⟨v, hv⟩ : ∃ v, W.encV ⟨33, r, p, q, 0, 0, false, false⟩ = v := ⟨_, rfl⟩
        have E2 : Hid (W.encV ⟨33, r, p, q, 0, 0, false, false⟩ = v) := hv
        have t : (v != bits .or .u32 (bits .or .u32 (bits .or .u32 (bits .or .u32 (bits .or .u32 51 (r * 128)) 16384) (p * 32768)) (q * 1048576)) 0) = false := by rw [bne_eq_false_iff_eq, ← hv]; refine E.2.trans ?_; rw [er, ep, eq]; rfl
        clear E hv er ep eq
        have c1 : wr.cell? ⟨w1.heap.size, 5, none⟩ = some (.int .i64 33) := HR.out.ops 5 (by omega)
        go_wp2_with (first
          | (go_at_call 12; refine (encode_any A ⟨33, r, p, q, 0, 0, false, false⟩ _ HR.out.sent).mono ?_; rintro e w5 ⟨rfl, hm⟩; have H5 : Hid (Rg A w1.heap.size w w5) := HR.out.below hm; clear hm; have c2 : w5.cell? ⟨w1.heap.size + 1, 5, none⟩ = some (.int .u32 4) := H5.out.f3 5 (by omega); rw [E1.out, E2.out, show errV A 0 = .nilIface from rfl]))
        go_roundw
        case rel => exact ⟨6, by omega, by go_num, H5.out⟩
        case measure => simp [intOf]
      · have er : r * 128 % 4294967296 = r * 128 := by omega
        have ep : p * 32768 % 4294967296 = p * 32768 := by omega
        have eq : q * 1048576 % 4294967296 = q * 1048576 := by omega
        have E := W.regs_enc 34 5 0 r p q r0 r1 p0 p1 q0 q1 (by decide +kernel)
        have E1 : Hid (W.encE ⟨34, r, p, q, 0, 0, false, false⟩ = 0) := E.1
        obtain ⟨v, hv⟩ : ∃ v, W.encV ⟨34, r, p, q, 0, 0, false, false⟩ = v := ⟨_, rfl⟩
        have E2 : Hid (W.encV ⟨34, r, p, q, 0, 0, false, false⟩ = v) := hv
        have t : (v != bits .or .u32 (bits .or .u32 (bits .or .u32 (bits .or .u32 (bits .or .u32 51 (r * 128)) 20480) (p * 32768)) (q * 1048576)) 0) = false := by rw [bne_eq_false_iff_eq, ← hv]; refine E.2.trans ?_; rw [er, ep, eq]; rfl
        clear E hv er ep eq
        have c1 : wr.cell? ⟨w1.heap.size, 6, none⟩ = some (.int .i64 34) := HR.out.ops 6 (by omega)
        go_wp2_with (first
          | (go_at_call 12; refine (encode_any A ⟨34, r, p, q, 0, 0, false, false⟩ _ HR.out.sent).mono ?_; rintro e w5 ⟨rfl, hm⟩; have H5 : Hid (Rg A w1.heap.size w w5) := HR.out.below hm; clear hm; have c2 : w5.cell? ⟨w1.heap.size + 1, 6, none⟩ = some (.int .u32 5) := H5.out.f3 6 (by omega); rw [E1.out, E2.out, show errV A 0 = .nilIface from rfl]))
        go_roundw
        case rel => exact ⟨7, by omega, by go_num, H5.out⟩
        case measure => simp [intOf]
      · have er : r * 128 % 4294967296 = r * 128 := by omega
        have ep : p * 32768 % 4294967296 = p * 32768 := by omega
        have eq : q * 1048576 % 4294967296 = q * 1048576 := by omega
        have E := W.regs_enc 35 5 32 r p q r0 r1 p0 p1 q0 q1 (by decide +kernel)
        have E1 : Hid (W.encE ⟨35, r, p, q, 0, 0, false, false⟩ = 0) := E.1
        obtain ⟨v, hv⟩ : ∃ v, W.encV ⟨35, r, p, q, 0, 0, false, false⟩ = v := ⟨_, rfl⟩
        have E2 : Hid (W.encV ⟨35, r, p, q, 0, 0, false, false⟩ = v) := hv
        have t : (v != bits .or .u32 (bits .or .u32 (bits .or .u32 (bits .or .u32 (bits .or .u32 51 (r * 128)) 20480) (p * 32768)) (q * 1048576)) 1073741824) = false := by rw [bne_eq_false_iff_eq, ← hv]; refine E.2.trans ?_; rw [er, ep, eq]; rfl
        clear E hv er ep eq
        have c1 : wr.cell? ⟨w1.heap.size, 7, none⟩ = some (.int .i64 35) := HR.out.ops 7 (by omega)
        go_wp2_with (first
          | (go_at_call 12; refine (encode_any A ⟨35, r, p, q, 0, 0, false, false⟩ _ HR.out.sent).mono ?_; rintro e w5 ⟨rfl, hm⟩; have H5 : Hid (Rg A w1.heap.size w w5) := HR.out.below hm; clear hm; have c2 : w5.cell? ⟨w1.heap.size + 1, 7, none⟩ = some (.int .u32 5) := H5.out.f3 7 (by omega); rw [E1.out, E2.out, show errV A 0 = .nilIface from rfl]))
        go_roundw
        case rel => exact ⟨8, by omega, by go_num, H5.out⟩
        case measure => simp [intOf]
      · have er : r * 128 % 4294967296 = r * 128 := by omega
        have ep : p * 32768 % 4294967296 = p * 32768 := by omega
        have eq : q * 1048576 % 4294967296 = q * 1048576 := by omega
        have E := W.regs_enc 36 6 0 r p q r0 r1 p0 p1 q0 q1 (by decide +kernel)
        have E1 : Hid (W.encE ⟨36, r, p, q, 0, 0, false, false⟩ = 0) := E.1
        obtain ⟨v, hv⟩ : ∃ v, W.encV ⟨36, r, p, q, 0, 0, false, false⟩ = v := ⟨_, rfl⟩
        have E2 : Hid (W.encV ⟨36, r, p, q, 0, 0, false, false⟩ = v) := hv
        have t : (v != bits .or .u32 (bits .or .u32 (bits .or .u32 (bits .or .u32 (bits .or .u32 51 (r * 128)) 24576) (p * 32768)) (q * 1048576)) 0) = false := by rw [bne_eq_false_iff_eq, ← hv]; refine E.2.trans ?_; rw [er, ep, eq]; rfl
        clear E hv er ep eq
        have c1 : wr.cell? ⟨w1.heap.size, 8, none⟩ = some (.int .i64 36) := HR.out.ops 8 (by omega)
        go_wp2_with (first
          | (go_at_call 12; refine (encode_any A ⟨36, r, p, q, 0, 0, false, false⟩ _ HR.out.sent).mono ?_; rintro e w5 ⟨rfl, hm⟩; have H5 : Hid (Rg A w1.heap.size w w5) := HR.out.below hm; clear hm; have c2 : w5.cell? ⟨w1.heap.size + 1, 8, none⟩ = some (.int .u32 6) := H5.out.f3 8 (by omega); rw [E1.out, E2.out, show errV A 0 = .nilIface from rfl]))
        go_roundw
        case rel => exact ⟨9, by omega, by go_num, H5.out⟩
        case measure => simp [intOf]
      · have er : r * 128 % 4294967296 = r * 128 := by omega
        have ep : p * 32768 % 4294967296 = p * 32768 := by omega
        have eq : q * 1048576 % 4294967296 = q * 1048576 := by omega
        have E := W.regs_enc 37 7 0 r p q r0 r1 p0 p1 q0 q1 (by decide +kernel)
        have E1 : Hid (W.encE ⟨37, r, p, q, 0, 0, false, false⟩ = 0) := E.1
        obtain ⟨v, hv⟩ : ∃ v, W.encV ⟨37, r, p, q, 0, 0, false, false⟩ = v := ⟨_, rfl⟩
        have E2 : Hid (W.encV ⟨37, r, p, q, 0, 0, false, false⟩ = v) := hv
        have t : (v != bits .or .u32 (bits .or .u32 (bits .or .u32 (bits .or .u32 (bits .or .u32 51 (r * 128)) 28672) (p * 32768)) (q * 1048576)) 0) = false := by rw [bne_eq_false_iff_eq, ← hv]; refine E.2.trans ?_; rw [er, ep, eq]; rfl
        clear E hv er ep eq
        have c1 : wr.cell? ⟨w1.heap.size, 9, none⟩ = some (.int .i64 37) := HR.out.ops 9 (by omega)
        go_wp2_with (first
          | (go_at_call 12; refine (encode_any A ⟨37, r, p, q, 0, 0, false, false⟩ _ HR.out.sent).mono ?_; rintro e w5 ⟨rfl, hm⟩; have H5 : Hid (Rg A w1.heap.size w w5) := HR.out.below hm; clear hm; have c2 : w5.cell? ⟨w1.heap.size + 1, 9, none⟩ = some (.int .u32 7) := H5.out.f3 9 (by omega); rw [E1.out, E2.out, show errV A 0 = .nilIface from rfl]))
        go_roundw
        case rel => exact ⟨10, by omega, by go_num, H5.out⟩
        case measure => simp [intOf]
      · have er : r * 128 % 4294967296 = r * 128 := by omega
        have ep : p * 32768 % 4294967296 = p * 32768 := by omega
        have eq : q * 1048576 % 4294967296 = q * 1048576 := by omega
        have E := W.regs_enc 51 0 1 r p q r0 r1 p0 p1 q0 q1 (by decide +kernel)
        have E1 : Hid (W.encE ⟨51, r, p, q, 0, 0, false, false⟩ = 0) := E.1
        obtain ⟨v, hv⟩ : ∃ v, W.encV ⟨51, r, p, q, 0, 0, false, false⟩ = v := ⟨_, rfl⟩
        have E2 : Hid (W.encV ⟨51, r, p, q, 0, 0, false, false⟩ = v) := hv
        have t : (v != bits .or .u32 (bits .or .u32 (bits .or .u32 (bits .or .u32 (bits .or .u32 51 (r * 128)) 0) (p * 32768)) (q * 1048576)) 33554432) = false := by rw [bne_eq_false_iff_eq, ← hv]; refine E.2.trans ?_; rw [er, ep, eq]; rfl
        clear E hv er ep eq
        have c1 : wr.cell? ⟨w1.heap.size, 10, none⟩ = some (.int .i64 51) := HR.out.ops 10 (by omega)
        go_wp2_with (first
          | (go_at_call 12; refine (encode_any A ⟨51, r, p, q, 0, 0, false, false⟩ _ HR.out.sent).mono ?_; rintro e w5 ⟨rfl, hm⟩; have H5 : Hid (Rg A w1.heap.size w w5) := HR.out.below hm; clear hm; have c2 : w5.cell? ⟨w1.heap.size + 1, 10, none⟩ = some (.int .u32 0) := H5.out.f3 10 (by omega); rw [E1.out, E2.out, show errV A 0 = .nilIface from rfl]))
        go_roundw
        case rel => exact ⟨11, by omega, by go_num, H5.out⟩
        case measure => simp [intOf]
      · have er : r * 128 % 4294967296 = r * 128 := by omega
        have ep : p * 32768 % 4294967296 = p * 32768 := by omega
        have eq : q * 1048576 % 4294967296 = q * 1048576 := by omega
        have E := W.regs_enc 52 1 1 r p q r0 r1 p0 p1 q0 q1 (by decide +kernel)
        have E1 : Hid (W.encE ⟨52, r, p, q, 0, 0, false, false⟩ = 0) := E.1
        obtain ⟨v, hv⟩ : ∃ v, W.encV ⟨52, r, p, q, 0, 0, false, false⟩ = v := ⟨_, rfl⟩
        have E2 : Hid (W.encV ⟨52, r, p, q, 0, 0, false, false⟩ = v) := hv
        have t : (v != bits .or .u32 (bits .or .u32 (bits .or .u32 (bits .or .u32 (bits .or .u32 51 (r * 128)) 4096) (p * 32768)) (q * 1048576)) 33554432) = false := by rw [bne_eq_false_iff_eq, ← hv]; refine E.2.trans ?_; rw [er, ep, eq]; rfl
        clear E hv er ep eq
        have c1 : wr.cell? ⟨w1.heap.size, 11, none⟩ = some (.int .i64 52) := HR.out.ops 11 (by omega)
        go_wp2_with (first
          | (go_at_call 12; refine (encode_any A ⟨52, r, p, q, 0, 0, false, false⟩ _ HR.out.sent).mono ?_; rintro e w5 ⟨rfl, hm⟩; have H5 : Hid (Rg A w1.heap.size w w5) := HR.out.below hm; clear hm; have c2 : w5.cell? ⟨w1.heap.size + 1, 11, none⟩ = some (.int .u32 1) := H5.out.f3 11 (by omega); rw [E1.out, E2.out, show errV A 0 = .nilIface from rfl]))
        go_roundw
        case rel => exact ⟨12, by omega, by go_num, H5.out⟩
        case measure => simp [intOf]
      · have er : r * 128 % 4294967296 = r * 128 := by omega
        have ep : p * 32768 % 4294967296 = p * 32768 := by omega
        have eq : q * 1048576 % 4294967296 = q * 1048576 := by omega
        have E := W.regs_enc 53 2 1 r p q r0 r1 p0 p1 q0 q1 (by decide +kernel)
        have E1 : Hid (W.encE ⟨53, r, p, q, 0, 0, false, false⟩ = 0) := E.1
        obtain ⟨v, hv⟩ : ∃ v, W.encV ⟨53, r, p, q, 0, 0, false, false⟩ = v := ⟨_, rfl⟩
        have E2 : Hid (W.encV ⟨53, r, p, q, 0, 0, false, false⟩ = v) := hv
        have t : (v != bits .or .u32 (bits .or .u32 (bits .or .u32 (bits .or .u32 (bits .or .u32 51 (r * 128)) 8192) (p * 32768)) (q * 1048576)) 33554432) = false := by rw [bne_eq_false_iff_eq, ← hv]; refine E.2.trans ?_; rw [er, ep, eq]; rfl
        clear E hv er ep eq
        have c1 : wr.cell? ⟨w1.heap.size, 12, none⟩ = some (.int .i64 53) := HR.out.ops 12 (by omega)
        go_wp2_with (first
          | (go_at_call 12; refine (encode_any A ⟨53, r, p, q, 0, 0, false, false⟩ _ HR.out.sent).mono ?_; rintro e w5 ⟨rfl, hm⟩; have H5 : Hid (Rg A w1.heap.size w w5) := HR.out.below hm; clear hm; have c2 : w5.cell? ⟨w1.heap.size + 1, 12, none⟩ = some (.int .u32 2) := H5.out.f3 12 (by omega); rw [E1.out, E2.out, show errV A 0 = .nilIface from rfl]))
        go_roundw
        case rel => exact ⟨13, by omega, by go_num, H5.out⟩
        case measure => simp [intOf]
      · have er : r * 128 % 4294967296 = r * 128 := by omega
        have ep : p * 32768 % 4294967296 = p * 32768 := by omega
        have eq : q * 1048576 % 4294967296 = q * 1048576 := by omega
        have E := W.regs_enc 54 3 1 r p q r0 r1 p0 p1 q0 q1 (by decide +kernel)
        have E1 : Hid (W.encE ⟨54, r, p, q, 0, 0, false, false⟩ = 0) := E.1
        obtain ⟨v, hv⟩ : ∃ v, W.encV ⟨54, r, p, q, 0, 0, false, false⟩ = v := ⟨_, rfl⟩
        have E2 : Hid (W.encV ⟨54, r, p, q, 0, 0, false, false⟩ = v) := hv
        have t : (v != bits .or .u32 (bits .or .u32 (bits .or .u32 (bits .or .u32 (bits .or .u32 51 (r * 128)) 12288) (p * 32768)) (q * 1048576)) 33554432) = false := by rw [bne_eq_false_iff_eq, ← hv]; refine E.2.trans ?_; rw [er, ep, eq]; rfl
        clear E hv er ep eq
        have c1 : wr.cell? ⟨w1.heap.size, 13, none⟩ = some (.int .i64 54) := HR.out.ops 13 (by omega)
        go_wp2_with (first
          | (go_at_call 12; refine (encode_any A ⟨54, r, p, q, 0, 0, false, false⟩ _ HR.out.sent).mono ?_; rintro e w5 ⟨rfl, hm⟩; have H5 : Hid (Rg A w1.heap.size w w5) := HR.out.below hm; clear hm; have c2 : w5.cell? ⟨w1.heap.size + 1, 13, none⟩ = some (.int .u32 3) := H5.out.f3 13 (by omega); rw [E1.out, E2.out, show errV A 0 = .nilIface from rfl]))
        go_roundw
        case rel => exact ⟨14, by omega, by go_num, H5.out⟩
        case measure => simp [intOf]
      · have er : r * 128 % 4294967296 = r * 128 := by omega
        have ep : p * 32768 % 4294967296 = p * 32768 := by omega
        have eq : q * 1048576 % 4294967296 = q * 1048576 := by omega
        have E := W.regs_enc 55 4 1 r p q r0 r1 p0 p1 q0 q1 (by decide +kernel)
        have E1 : Hid (W.encE ⟨55, r, p, q, 0, 0, false, false⟩ = 0) := E.1
        obtain ⟨v, hv⟩ : ∃ v, W.encV ⟨55, r, p, q, 0, 0, false, false⟩ = v := ⟨_, rfl⟩
        have E2 : Hid (W.encV ⟨55, r, p, q, 0, 0, false, false⟩ = v) := hv
        have t : (v != bits .or .u32 (bits .or .u32 (bits .or .u32 (bits .or .u32 (bits .or .u32 51 (r * 128)) 16384) (p * 32768)) (q * 1048576)) 33554432) = false := by rw [bne_eq_false_iff_eq, ← hv]; refine E.2.trans ?_; rw [er, ep, eq]; rfl
        clear E hv er ep eq
        have c1 : wr.cell? ⟨w1.heap.size, 14, none⟩ = some (.int .i64 55) := HR.out.ops 14 (by omega)
        go_wp2_with (first
          | (go_at_call 12; refine (encode_any A ⟨55, r, p, q, 0, 0, false, false⟩ _ HR.out.sent).mono ?_; rintro e w5 ⟨rfl, hm⟩; have H5 : Hid (Rg A w1.heap.size w w5) := HR.out.below hm; clear hm; have c2 : w5.cell? ⟨w1.heap.size + 1, 14, none⟩ = some (.int .u32 4) := H5.out.f3 14 (by omega); rw [E1.out, E2.out, show errV A 0 = .nilIface from rfl]))
        go_roundw
        case rel => exact ⟨15, by omega, by go_num, H5.out⟩
        case measure => simp [intOf]
      · have er : r * 128 % 4294967296 = r * 128 := by omega
        have ep : p * 32768 % 4294967296 = p * 32768 := by omega
        have eq : q * 1048576 % 4294967296 = q * 1048576 := by omega
        have E := W.regs_enc 56 5 1 r p q r0 r1 p0 p1 q0 q1 (by decide +kernel)
        have E1 : Hid (W.encE ⟨56, r, p, q, 0, 0, false, false⟩ = 0) := E.1
        obtain ⟨v, hv⟩ : ∃ v, W.encV ⟨56, r, p, q, 0, 0, false, false⟩ = v := ⟨_, rfl⟩
        have E2 : Hid (W.encV ⟨56, r, p, q, 0, 0, false, false⟩ = v) := hv
        have t : (v != bits .or .u32 (bits .or .u32 (bits .or .u32 (bits .or .u32 (bits .or .u32 51 (r * 128)) 20480) (p * 32768)) (q * 1048576)) 33554432) = false := by rw [bne_eq_false_iff_eq, ← hv]; refine E.2.trans ?_; rw [er, ep, eq]; rfl
        clear E hv er ep eq
        have c1 : wr.cell? ⟨w1.heap.size, 15, none⟩ = some (.int .i64 56) := HR.out.ops 15 (by omega)
        go_wp2_with (first
          | (go_at_call 12; refine (encode_any A ⟨56, r, p, q, 0, 0, false, false⟩ _ HR.out.sent).mono ?_; rintro e w5 ⟨rfl, hm⟩; have H5 : Hid (Rg A w1.heap.size w w5) := HR.out.below hm; clear hm; have c2 : w5.cell? ⟨w1.heap.size + 1, 15, none⟩ = some (.int .u32 5) := H5.out.f3 15 (by omega); rw [E1.out, E2.out, show errV A 0 = .nilIface from rfl]))
        go_roundw
        case rel => exact ⟨16, by omega, by go_num, H5.out⟩
        case measure => simp [intOf]
      · have er : r * 128 % 4294967296 = r * 128 := by omega
        have ep : p * 32768 % 4294967296 = p * 32768 := by omega
        have eq : q * 1048576 % 4294967296 = q * 1048576 := by omega
        have E := W.regs_enc 57 6 1 r p q r0 r1 p0 p1 q0 q1 (by decide +kernel)
        have E1 : Hid (W.encE ⟨57, r, p, q, 0, 0, false, false⟩ = 0) := E.1
        obtain ⟨v, hv⟩ : ∃ v, W.encV ⟨57, r, p, q, 0, 0, false, false⟩ = v := ⟨_, rfl⟩
        have E2 : Hid (W.encV ⟨57, r, p, q, 0, 0, false, false⟩ = v) := hv
        have t : (v != bits .or .u32 (bits .or .u32 (bits .or .u32 (bits .or .u32 (bits .or .u32 51 (r * 128)) 24576) (p * 32768)) (q * 1048576)) 33554432) = false := by rw [bne_eq_false_iff_eq, ← hv]; refine E.2.trans ?_; rw [er, ep, eq]; rfl
        clear E hv er ep eq
        have c1 : wr.cell? ⟨w1.heap.size, 16, none⟩ = some (.int .i64 57) := HR.out.ops 16 (by omega)
        go_wp2_with (first
          | (go_at_call 12; refine (encode_any A ⟨57, r, p, q, 0, 0, false, false⟩ _ HR.out.sent).mono ?_; rintro e w5 ⟨rfl, hm⟩; have H5 : Hid (Rg A w1.heap.size w w5) := HR.out.below hm; clear hm; have c2 : w5.cell? ⟨w1.heap.size + 1, 16, none⟩ = some (.int .u32 6) := H5.out.f3 16 (by omega); rw [E1.out, E2.out, show errV A 0 = .nilIface from rfl]))
        go_roundw
        case rel => exact ⟨17, by omega, by go_num, H5.out⟩
        case measure => simp [intOf]
      · have er : r * 128 % 4294967296 = r * 128 := by omega
        have ep : p * 32768 % 4294967296 = p * 32768 := by omega
        have eq : q * 1048576 % 4294967296 = q * 1048576 := by omega
        have E := W.regs_enc 58 7 1 r p q r0 r1 p0 p1 q0 q1 (by decide +kernel)
        have E1 : Hid (W.encE ⟨58, r, p, q, 0, 0, false, false⟩ = 0) := E.1
        obtain ⟨v, hv⟩ : ∃ v, W.encV ⟨58, r, p, q, 0, 0, false, false⟩ = v := ⟨_, rfl⟩
        have E2 : Hid (W.encV ⟨58, r, p, q, 0, 0, false, false⟩ = v) := hv
        have t : (v != bits .or .u32 (bits .or .u32 (bits .or .u32 (bits .or .u32 (bits .or .u32 51 (r * 128)) 28672) (p * 32768)) (q * 1048576)) 33554432) = false := by rw [bne_eq_false_iff_eq, ← hv]; refine E.2.trans ?_; rw [er, ep, eq]; rfl
        clear E hv er ep eq
        have c1 : wr.cell? ⟨w1.heap.size, 17, none⟩ = some (.int .i64 58) := HR.out.ops 17 (by omega)
        go_wp2_with (first
          | (go_at_call 12; refine (encode_any A ⟨58, r, p, q, 0, 0, false, false⟩ _ HR.out.sent).mono ?_; rintro e w5 ⟨rfl, hm⟩; have H5 : Hid (Rg A w1.heap.size w w5) := HR.out.below hm; clear hm; have c2 : w5.cell? ⟨w1.heap.size + 1, 17, none⟩ = some (.int .u32 7) := H5.out.f3 17 (by omega); rw [E1.out, E2.out, show errV A 0 = .nilIface from rfl]))
        go_roundw
        case rel => exact ⟨18, by omega, by go_num, H5.out⟩
        case measure => simp [intOf]
    · have hj18 : j = 18 := by omega
      subst hj18
      go_wp2
      go_ret
      exact ⟨rfl, HR.out.bel⟩
end Go.Proofs.YtheajilopplchaaDoor
