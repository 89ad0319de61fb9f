/- AluMuls, walked: it returns true, whatever the words. -/
import Derived.Test.YtheajilopplchabFirst4
import Derived.Test.YtheajilopplchabAluT
import Derived.WalkSpells
import Derived.Deep.DrawnRows
namespace Go.Proofs.Ytheajilopplchab
open Go.ChangeShapes Go.WideShapes Go.ChangeAt Go.RowKit
set_option linter.unusedVariables false
set_option linter.unusedSimpArgs false

theorem infoU : (Try.prog.info? 22).map (fun i => (i.zero, i.size, i.bytes)) = some (some (.int .u32 0), 1, 4) := by kernel_rfl
def mcells (a b : Int) (j : Nat) : List Value := (List.range j).map fun (k : Nat) => .int .u32 (W.doV (51 + (k : Int)) a b)
theorem add_off (g n : Nat) : (⟨g, 0, none⟩ : Addr).add n = ⟨g, 0 + n, none⟩ := by
  unfold Addr.add
  split
  · simp
  · rfl
theorem one_new (w : World) (t : TypeId) (a : Value) : ∀ j u, [a][j]? = some u → (w.alloc (.cells #[a] t)).cell? ((⟨w.heap.size, 0, none⟩ : Addr).add j) = some u := by
  intro j u h
  match j, h with
  | 0, h => simp at h; subst h; simp [go_sem, Addr.add]

set_option maxHeartbeats 800000 in
set_option maxRecDepth 100000 in
theorem func2_any (a b : Int) (a0 : 0 ≤ a) (a1 : a < 4294967296) (b0 : 0 ≤ b) (b1 : b < 4294967296) (w : World) :
    Calls Try.prog 27 #[.int .u32 a, .int .u32 b] w fun e w' => (∃ g cap, e = .returned (.slice (some ⟨g, 0, none⟩) 8 cap) ∧ g < w'.heap.size ∧ ∀ j, j < 8 → w'.cell? ⟨g, 0 + j, none⟩ = some (.int .u32 (W.doV (51 + j) a b))) ∧ Below w.heap.size w w' := by
  obtain ⟨i0, hi, hx⟩ := Option.map_eq_some_iff.1 infoU
  simp only [Prod.mk.injEq] at hx
  obtain ⟨hz0, hz1, hz2⟩ := hx
  go_enter Try.func27, Try.ntmps27
  go_wp2
  go_loopw [5, 6] (fun v i wr => ∃ j : Nat, j ≤ 8 ∧ i = .int .i64 (51 + j) ∧ wr.ownsRow w.heap.size 22 1 v j (mcells a b j) ∧ Below w.heap.size w wr) (fun _ i _ => (59 - intOf i).toNat)
  case atStart => exact ⟨0, by omega, rfl, World.ownsRow_nil _ _ _ _, Below.refl _ _⟩
  case round =>
    obtain ⟨j, hj, rfl, hown, hbl⟩ := hrel
    have hsz := hbl.size
    by_cases hlt : j < 8
    · go_wp2_with (first
        | (go_at_call 10; refine (do_any (51 + j) a b a0 a1 b0 b1 _).mono ?_; rintro e w' ⟨rfl, rfl⟩)
        | (at_builtin; refine wpList_append_own _ rfl _ _ 42 rfl w.heap.size 22 i0 (.int .u32 0) 1 4 Try.underlying42 hi hz0 hz1 hz2 rfl (by decide) _ j (mcells a b j) rfl ?c1 ⟨wr.heap.size, 0, none⟩ 1 1 [.int .u32 (W.doV (51 + j) a b)] rfl rfl ?c2 ?c3 ?c4 ?c5 ?c6 ?_))
      case c1 => exact World.ownsRow.alloc (w := wr) hown _
      case c2 => exact one_new wr _ _
      case c3 => intro u hu; simp at hu; subst hu; rfl
      case c4 => unfold maxLen; omega
      case c5 => omega
      case c6 => simp; omega
      intro v' w2 hown' hg _
      have hb2 : Below w.heap.size w w2 := Below.grown (hbl.alloc (by omega) _) hg (by simp; omega) (fun b hb => (hown.lt b hb).1)
      have hc : mcells a b j ++ [.int .u32 (W.doV (51 + j) a b)] = mcells a b (j + 1) := by simp [mcells, List.range_succ]
      rw [hc] at hown'
      have X : Hid (w2.ownsRow w.heap.size 22 1 v' (j + 1) (mcells a b (j + 1)) ∧ Below w.heap.size w w2) := ⟨hown', hb2⟩
      clear hown' hg hb2
      go_wp2
      go_roundw
      case rel => exact ⟨j + 1, by omega, by go_num, X.out.1, X.out.2⟩
      case measure => simp [intOf]; omega
    · have hj32 : j = 8 := by omega
      subst hj32
      rcases hown.2 with ⟨_, h32⟩ | ⟨g, cap, cur, rfl, hg, hh, hcap, hmax, hcur, htake⟩
      · omega
      have hcells := hown.cells (g := g) rfl
      have hgl := (hown.lt g rfl).2
      have X : Hid (g < wr.heap.size ∧ (∀ j, j < 8 → wr.cell? ⟨g, 0 + j, none⟩ = some (.int .u32 (W.doV (51 + j) a b))) ∧ Below w.heap.size w wr) := ⟨hgl, fun j hj => by
        have := hcells j (.int .u32 (W.doV (51 + j) a b)) (by simp [mcells, hj])
        rwa [add_off] at this, hbl⟩
      clear hown hh hcur htake hcells hgl hbl
      go_wp2
      go_ret
      exact ⟨⟨g, cap, rfl, X.out.1, X.out.2.1⟩, X.out.2.2⟩
set_option maxHeartbeats 1600000 in
set_option maxRecDepth 100000 in
theorem alumuls_go (a b m0 m1 m2 m3 m4 m5 m6 m7 : Int) (a0 : 0 ≤ a) (a1 : a < 4294967296) (b0 : 0 ≤ b) (b1 : b < 4294967296) (w : World)
    (h0 : Hid (W.doV 51 a b = m0)) (h1 : Hid (W.doV 52 a b = m1)) (h2 : Hid (W.doV 53 a b = m2)) (h3 : Hid (W.doV 54 a b = m3)) (h4 : Hid (W.doV 55 a b = m4)) (h5 : Hid (W.doV 56 a b = m5)) (h6 : Hid (W.doV 57 a b = m6)) (h7 : Hid (W.doV 58 a b = m7))
    (ca cb : Bool) (t1 : (m0 != IntKind.u64.wrap (a * b) % 4294967296) = false) (t2 : (m3 != IntKind.u64.wrap (a * b) / 4294967296 % 4294967296) = false) (t3 : (a / 2147483648 == 1) = ca) (t5 : (b / 2147483648 == 1) = cb)
    (t4 : (m2 != (bif ca then (m3 - b) % 4294967296 else m3)) = false) (t6 : (m1 == (bif cb then (bif ca then (m3 - b - a) % 4294967296 else (m3 - a) % 4294967296) else (bif ca then (m3 - b) % 4294967296 else m3))) = true)
    (t7 : (IntKind.u32.wrap (IntKind.u32.wrap (m4 * b) + m6) == a) = true) (t8 : (IntKind.u32.wrap (IntKind.u32.wrap (m5 * b) + m7) == a) = true) :
    Calls Try.prog 7 #[.int .u32 a, .int .u32 b] w fun e w' => e = .returned (.bool true) ∧ Below w.heap.size w w' := by
  have hb : Below w.heap.size w w := Below.refl _ _
  cases ca <;> cases cb
  all_goals
   simp only [cond_true, cond_false] at t4 t6
   go_enter Try.func7, Try.ntmps7
   go_wp2_with (first
      | (go_at_call 9; refine (from_ (first4_any _) hb).mono ?_; clear hb; rintro e w1 ⟨rfl, hb⟩)
      | (go_at_call 27; refine (func2_any a b a0 a1 b0 b1 _).mono ?_; rintro e w2 ⟨⟨g, cap, rfl, hg, hc⟩, hm⟩; have hb2 := hb.trans (hm.mono hb.size); clear hm;
         have c0 : w2.cell? ⟨g, 0, none⟩ = some (.int .u32 m0) := by rw [← h0.out]; exact hc 0 (by omega)
         have c1 : w2.cell? ⟨g, 1, none⟩ = some (.int .u32 m1) := by rw [← h1.out]; exact hc 1 (by omega)
         have c2 : w2.cell? ⟨g, 2, none⟩ = some (.int .u32 m2) := by rw [← h2.out]; exact hc 2 (by omega)
         have c3 : w2.cell? ⟨g, 3, none⟩ = some (.int .u32 m3) := by rw [← h3.out]; exact hc 3 (by omega)
         have c4 : w2.cell? ⟨g, 4, none⟩ = some (.int .u32 m4) := by rw [← h4.out]; exact hc 4 (by omega)
         have c5 : w2.cell? ⟨g, 5, none⟩ = some (.int .u32 m5) := by rw [← h5.out]; exact hc 5 (by omega)
         have c6 : w2.cell? ⟨g, 6, none⟩ = some (.int .u32 m6) := by rw [← h6.out]; exact hc 6 (by omega)
         have c7 : w2.cell? ⟨g, 7, none⟩ = some (.int .u32 m7) := by rw [← h7.out]; exact hc 7 (by omega)
         clear hc))
   go_quiet (fail)
   go_wp2
   go_ret
   exact ⟨rfl, below_drewN hb2 _⟩

theorem alumuls_walk (a b : Int) (a0 : 0 ≤ a) (a1 : a < 4294967296) (b0 : 0 ≤ b) (b1 : b < 4294967296) (w : World) :
    Calls Try.prog 7 #[.int .u32 a, .int .u32 b] w fun e w' => e = .returned (.bool true) ∧ Below w.heap.size w w' := by
  have hff : W.high a b false false = a * b / 4294967296 % 4294967296 := by rw [W.high_eq, W.wide_f a a0 a1, W.wide_f b b0 b1]
  refine alumuls_go a b (a * b % 4294967296) (W.high a b true true) (W.high a b true false) (W.high a b false false) (W.div a b true) (W.div a b false) (W.rem a b true) (W.rem a b false) a0 a1 b0 b1 w
    (rfl : W.doV 51 a b = _) (rfl : W.doV 52 a b = _) (rfl : W.doV 53 a b = _) (rfl : W.doV 54 a b = _) (rfl : W.doV 55 a b = _) (rfl : W.doV 56 a b = _) (rfl : W.doV 57 a b = _) (rfl : W.doV 58 a b = _)
    (decide (2147483648 ≤ a)) (decide (2147483648 ≤ b)) ?_ ?_ (W.div31 a a0 a1) (W.div31 b b0 b1) ?_ ?_ ?_ ?_
  · rw [W.u64_wrap, bne_eq_false_iff_eq]; generalize a * b = p; omega
  · rw [W.u64_wrap, bne_eq_false_iff_eq, hff]; generalize a * b = p; omega
  · rw [bne_eq_false_iff_eq, W.high_s a b a0 a1 b0 b1]; by_cases h : 2147483648 ≤ a <;> simp [h]
  · rw [beq_iff_eq, W.high_ss a b a0 a1 b0 b1, W.high_s a b a0 a1 b0 b1]; by_cases h : 2147483648 ≤ a <;> by_cases h' : 2147483648 ≤ b <;> simp [h, h']
  · have := W.div_back a b true a0 a1 b0 b1
    rw [beq_iff_eq, IntKind.wrap_u32', IntKind.wrap_u32']; generalize W.div a b true * b = p at *; omega
  · have := W.div_back a b false a0 a1 b0 b1
    rw [beq_iff_eq, IntKind.wrap_u32', IntKind.wrap_u32']; generalize W.div a b false * b = p at *; omega

end Go.Proofs.Ytheajilopplchab
