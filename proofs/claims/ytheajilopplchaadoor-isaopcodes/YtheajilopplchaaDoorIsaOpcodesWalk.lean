/- IsaOpcodes, walked: it returns true, whatever the word. -/
import Derived.Test.YtheajilopplchaaDoorOpB
import Derived.Test.YtheajilopplchaaDoorOpC
import Derived.Test.YtheajilopplchaaDoorOpD
import Derived.Test.YtheajilopplchaaDoorOpE
import Derived.Test.YtheajilopplchaaDoorOpF
namespace Go.Proofs.YtheajilopplchaaDoor
open Go.ChangeShapes Go.WideShapes Go.ChangeAt Go.RowKit
set_option linter.unusedVariables false
set_option linter.unusedSimpArgs false

namespace W
def okc (k : Nat) : Bool := [(true, false, false), (true, true, false), (false, true, true), (true, true, true), (false, false, false)].contains ((shp k).rd, (shp k).rs1, (shp k).rs2) && (!(shp k).ord || ((shp k).rd && ((shp k).rs1 && decide (59 ≤ k))))
    && kn (bits .and .u32 (code k) 127) 12 && !(nm k).isEmpty && decide (0 < kind k) && decide (0 ≤ code k ∧ code k < 4294967296)
theorem okc_all : ((List.range 70).all fun k => decide (k = 0) || okc k) = true := by decide +kernel
theorem okc_at {k : Nat} (h1 : 1 ≤ k) (h2 : k ≤ 69) : okc k = true := by
  have := List.all_eq_true.1 okc_all k (List.mem_range.2 (by omega))
  have h0 : decide (k = 0) = false := by simp; omega
  rw [h0] at this
  simpa using this
theorem and127 {x : Int} {k : Nat} (x0 : 0 ≤ x) (x1 : x < 4294967296) (c0 : 0 ≤ code k) (c1 : code k < 4294967296) (h : hit x k = true) : bits .and .u32 x 127 = bits .and .u32 (code k) 127 := by
  have hz : bits .and .u32 (bits .xor .u32 x (code k)) 127 = 0 := by
    unfold hit at h
    simp at h
    exact h.1
  refine eq_of_tb _ _ (and_lt _ _).1 (and_lt _ _).2 (and_lt _ _).1 (and_lt _ _).2 fun p hp => ?_
  have hx := xor_lt x (code k)
  have := tb_and (bits .xor .u32 x (code k)) 127 p hx.1 hx.2 (by decide) (by decide)
  rw [hz, tb_xor x (code k) p x0 x1 c0 c1, tb_zero] at this
  rw [tb_and x 127 p x0 x1 (by decide) (by decide), tb_and (code k) 127 p c0 c1 (by decide) (by decide)]
  revert this
  cases tb x p <;> cases tb (code k) p <;> cases tb 127 p <;> simp
theorem decI_none {x : Int} (h : decB x = false) : decI x = ⟨0, 0, 0, 0, 0, 0, false, false⟩ := by
  have h0 : dec x = 0 := by simpa [decB] using h
  unfold decI
  rw [h0]
  rfl
end W

set_option maxRecDepth 100000 in
set_option maxHeartbeats 6400000 in
theorem isaopcodes_none (A : Nat → Addr) (x c : Int) (w : World) (hS : Sent A w) (hd : W.decB x = false) (dI : Hid (W.decI x = ⟨0, 0, 0, 0, 0, 0, false, false⟩)) (hc : bits .and .u32 x 127 = c) :
    Calls Tryd.prog 8 #[.int .u32 x] w fun e w' => e = .returned (.bool true) ∧ Below w.heap.size w w' := by
  have hb : Below w.heap.size w w := Below.refl _ _
  have sm : W.same ⟨0, 0, 0, 0, 0, 0, false, false⟩ ⟨0, 0, 0, 0, 0, 0, false, false⟩ = true := rfl
  have HS : Hid (Sent A w) := hS
  clear hS
  go_enter Tryd.func8, Tryd.ntmps8
  go_wp2_with (first
    | (go_at_call 9; refine (from_ (first_any A _ HS.out) hb).mono ?_; clear hb; rintro e w1 ⟨rfl, hb⟩)
    | (go_at_call 10; refine (from_ (decode_any _ _) hb).mono ?_; clear hb; rintro e w2 ⟨rfl, hb⟩; have g2 : Hid (∀ t, Gy w2.heap.size 0 0 0 0 0 0 false false w (w2.alloc (.cells _ t))) := fun t => Gy.start hb; rw [dI.out]; unfold inV))
  generalize hW3 : World.alloc (World.alloc w2 _) _ = W3
  have g3 : Hid (Gy w2.heap.size 0 0 0 0 0 0 false false w W3) := (by rw [← hW3]; exact (g2.out _).alloc _ : Gy w2.heap.size 0 0 0 0 0 0 false false w W3)
  have hcell : Hid (∀ j, j < 12 → W3.cell? ⟨w2.heap.size + 1, j, none⟩ = some (.int .u32 (W.l12.getD j 0))) := (fun j hj => by
    rw [← hW3]
    match j, hj with
    | 0, _ | 1, _ | 2, _ | 3, _ | 4, _ | 5, _ | 6, _ | 7, _ | 8, _ | 9, _ | 10, _ | 11, _ => simp [go_sem, W.l12] : ∀ j, j < 12 → W3.cell? ⟨w2.heap.size + 1, j, none⟩ = some (.int .u32 (W.l12.getD j 0)))
  have hlt3 : w2.heap.size + 1 < W3.heap.size := by rw [← hW3]; simp
  clear hW3 g2 hb
  go_loopw [6, 8] (fun kv k wr => ∃ j : Nat, j ≤ 12 ∧ kv = .bool (W.kn c j) ∧ k = .int .i64 j ∧ wr = W3) (fun _ k _ => (12 - intOf k).toNat)
  case atStart => exact ⟨0, by omega, rfl, rfl, rfl⟩
  case round =>
    obtain ⟨j, hj, rfl, rfl, rfl⟩ := hrel
    by_cases hlt : j < 12
    · have ks := W.kn_succ c j hlt
      have cj := hcell.out j hlt
      have cj' : wr.cell? ⟨w2.heap.size + 1, 0 + j, none⟩ = some (.int .u32 (W.l12.getD j 0)) := by rw [Nat.zero_add]; exact cj
      cases hkn : W.kn c j <;> rw [hkn] at ks
      · have KS : Hid (W.kn c (j + 1) = (c == W.l12.getD j 0)) := (ks.trans (by rfl) : W.kn c (j + 1) = (c == W.l12.getD j 0))
        clear ks
        generalize W.l12.getD j 0 = z at *
        go_wp2
        go_roundw
        case rel => exact ⟨j + 1, by omega, by rw [KS.out], by go_num, trivial⟩
        case measure => simp [intOf]; omega
      · have KS : Hid (W.kn c (j + 1) = true) := (ks.trans (by rfl) : W.kn c (j + 1) = true)
        clear ks
        go_wp2
        go_roundw
        case rel => exact ⟨j + 1, by omega, by rw [KS.out], by go_num, trivial⟩
        case measure => simp [intOf]; omega
    · have hj12 : j = 12 := by omega
      subst hj12
      obtain ⟨_, _, r0, r1, r2, r3, r4, r5, r6, r7⟩ := g3.out
      clear hcell
      go_wp2_with (first
        | (go_at_call 14; refine (sameInst_any ⟨0, 0, 0, 0, 0, 0, false, false⟩ ⟨0, 0, 0, 0, 0, 0, false, false⟩ _).mono ?_; rintro e w5 ⟨rfl, hm⟩; have g5 : Hid (Gy w2.heap.size 0 0 0 0 0 0 false false w w5) := g3.out.below hm; clear hm))
      go_ret
      exact ⟨rfl, g5.out.bel⟩

theorem isaopcodes_walk (A : Nat → Addr) (x : Int) (x0 : 0 ≤ x) (x1 : x < 4294967296) (w : World) (hS : Sent A w) :
    Calls Tryd.prog 8 #[.int .u32 x] w fun e w' => e = .returned (.bool true) ∧ Below w.heap.size w w' := by
  cases hd : W.decB x
  · exact isaopcodes_none A x _ w hS hd (W.decI_none hd) rfl
  obtain ⟨k1, k2, hh⟩ := W.dec_hit x hd
  have ok := W.okc_at k1 k2
  simp only [W.okc, Bool.and_eq_true, decide_eq_true_eq] at ok
  obtain ⟨⟨⟨⟨⟨o1, o2⟩, o3⟩, o4⟩, o5⟩, o6⟩ := ok
  have hc := W.and127 x0 x1 o6.1 o6.2 hh
  rw [← hc] at o3
  obtain ⟨nb, nt, hn⟩ : ∃ nb nt, W.nm (W.dec x) = nb :: nt := by
    cases h : W.nm (W.dec x) with
    | nil => rw [h] at o4; simp at o4
    | cons a t => exact ⟨a, t, rfl⟩
  have H := W.heads x x0 x1
  have hq : (W.decI x).aq = ((W.shp (W.dec x)).ord && (W.bitsOf x 26 1 == 1)) := rfl
  have hrd : (W.decI x).rd = bif (W.shp (W.dec x)).rd then W.bitsOf x 7 5 else 0 := rfl
  have hrs1 : (W.decI x).rs1 = bif (W.shp (W.dec x)).rs1 then W.bitsOf x 15 5 else 0 := rfl
  have hrs2 : (W.decI x).rs2 = bif (W.shp (W.dec x)).rs2 then W.bitsOf x 20 5 else 0 := rfl
  have E : W.decI x = ⟨(W.dec x : Int), (W.decI x).rd, (W.decI x).rs1, (W.decI x).rs2, (W.decI x).csr, (W.decI x).imm, (W.decI x).aq, (W.decI x).rl⟩ := rfl
  have b1 := W.bitsOf_lt x 7 5
  have b2 := W.bitsOf_lt x 15 5
  have b3 := W.bitsOf_lt x 20 5
  have V1 : (W.shp (W.dec x)).rd = true → ((W.decI x).rd % 4294967296 != bits .and .u32 (x / 128) 31) = false := fun h => by
    rw [hrd, h, cond_true, Int.emod_eq_of_lt b1.1 b1.2]; exact H.2.1
  have V2 : (W.shp (W.dec x)).rs1 = true → ((W.decI x).rs1 % 4294967296 != bits .and .u32 (x / 32768) 31) = false := fun h => by
    rw [hrs1, h, cond_true, Int.emod_eq_of_lt b2.1 b2.2]; exact H.2.2.2.1
  have V3 : (W.shp (W.dec x)).rs2 = true → ((W.decI x).rs2 % 4294967296 != bits .and .u32 (x / 1048576) 31) = false := fun h => by
    rw [hrs2, h, cond_true, Int.emod_eq_of_lt b3.1 b3.2]; exact H.2.2.2.2.1
  have Q : (W.decI x).aq = true → (W.shp (W.dec x)).rd = true ∧ (W.shp (W.dec x)).rs1 = true ∧ (59 : Int) ≤ W.dec x := fun h => by
    rw [hq, Bool.and_eq_true] at h
    rw [h.1] at o2
    simp at o2
    exact ⟨o2.1, o2.2.1, by omega⟩
  cases hr : (W.shp (W.dec x)).rd <;> cases ha : (W.shp (W.dec x)).rs1 <;> cases hb : (W.shp (W.dec x)).rs2 <;> cases haq : (W.decI x).aq
  · rw [haq] at E; exact isaopcodes_ffff A x _ _ _ _ _ _ _ _ _ _ nb nt w hS hd E rfl o3 hr ha hb rfl trivial trivial trivial hn rfl o5 trivial
  · have := Q haq; rw [hr, ha] at this; simp at this
  · rw [hr, ha, hb] at o1; simp at o1
  · rw [hr, ha, hb] at o1; simp at o1
  · rw [hr, ha, hb] at o1; simp at o1
  · rw [hr, ha, hb] at o1; simp at o1
  · rw [haq] at E; exact isaopcodes_fttf A x _ _ _ _ _ _ _ _ _ _ nb nt w hS hd E rfl o3 hr ha hb rfl trivial (V2 ha) (V3 hb) hn rfl o5 trivial
  · have := Q haq; rw [hr, ha] at this; simp at this
  · rw [haq] at E; exact isaopcodes_tfff A x _ _ _ _ _ _ _ _ _ _ nb nt w hS hd E rfl o3 hr ha hb rfl (V1 hr) trivial trivial hn rfl o5 trivial
  · have := Q haq; rw [hr, ha] at this; simp at this
  · rw [hr, ha, hb] at o1; simp at o1
  · rw [hr, ha, hb] at o1; simp at o1
  · rw [haq] at E; exact isaopcodes_ttff A x _ _ _ _ _ _ _ _ _ _ nb nt w hS hd E rfl o3 hr ha hb rfl (V1 hr) (V2 ha) trivial hn rfl o5 trivial
  · rw [haq] at E; exact isaopcodes_ttft A x _ _ _ _ _ _ _ _ _ _ nb nt w hS hd E rfl o3 hr ha hb rfl (V1 hr) (V2 ha) trivial hn rfl o5 (Q haq).2.2
  · rw [haq] at E; exact isaopcodes_tttf A x _ _ _ _ _ _ _ _ _ _ nb nt w hS hd E rfl o3 hr ha hb rfl (V1 hr) (V2 ha) (V3 hb) hn rfl o5 trivial
  · rw [haq] at E; exact isaopcodes_tttt A x _ _ _ _ _ _ _ _ _ _ nb nt w hS hd E rfl o3 hr ha hb rfl (V1 hr) (V2 ha) (V3 hb) hn rfl o5 (Q haq).2.2
end Go.Proofs.YtheajilopplchaaDoor
