/- home: Busy, Owner, waits, Sharers, Data; msg, dataTo; Takes. -/
import Derived.Test.YtadkpelcbnljbaaHomE
import Derived.Deep.RegionHeld3
namespace Go.Proofs.Ytadkpelcbnljbaa
open Go.ChangeShapes Go.WideShapes Go.ChangeAt Go.RowKit
set_option linter.unusedVariables false
set_option linter.unusedSimpArgs false
attribute [local go_sem ↓] ldM_eq stM_eq bdM_eq bsM_eq
variable {n0 hb : Nat} {s s' : W.Hm} {sv av sv' av' sv'' av'' : Value} {w w' w'' : World}

abbrev z11 : Array Value := #[.int .i64 0, .int .i64 0, .int .i64 0, .int .i64 0, .int .u32 0, .int .u32 0, .int .u32 0, .int .u32 0, .bool false, .bool false, .bool false]
theorem On.len {b : Nat} {v : Value} {l : List Int} (h : On b v l w) : ∃ a cap, v = .slice a l.length cap ∧ l.length ≤ cap := by
  rcases h.form with ⟨rfl, rfl⟩ | ⟨g, cap, rfl, _, _, h, _⟩
  · exact ⟨none, 0, rfl, Nat.le_refl _⟩
  · exact ⟨_, cap, rfl, h⟩
theorem busy_any (H : Ho n0 hb s sv av w) : Calls Try.prog 18 #[.pointer (some ⟨hb, 0, none⟩)] w fun e w' => e = .returned (.bool (s.sv != -1)) ∧ w = w' := by
  have c : w.cell? ⟨hb, 8, none⟩ = some (.int .i64 s.sv) := H.c 8 (by decide)
  clear H
  go_enter Try.func18, Try.ntmps18
  go_wp2
  go_ret
  exact ⟨rfl, rfl⟩
theorem owner_any (H : Ho n0 hb s sv av w) : Calls Try.prog 14 #[.pointer (some ⟨hb, 0, none⟩)] w fun e w' => e = .returned (.int .i64 s.ow) ∧ w = w' := by
  have c : w.cell? ⟨hb, 6, none⟩ = some (.int .i64 s.ow) := H.c 6 (by decide)
  clear H
  go_enter Try.func14, Try.ntmps14
  go_wp2
  go_ret
  exact ⟨rfl, rfl⟩
theorem waits_any (H : Ho n0 hb s sv av w) : Calls Try.prog 25 #[.pointer (some ⟨hb, 0, none⟩)] w fun e w' => e = .returned (.bool (W.wt s)) ∧ w = w' := by
  have c10 : w.cell? ⟨hb, 10, none⟩ = some av := H.c 10 (by decide)
  have c11 : w.cell? ⟨hb, 11, none⟩ = some (.int .i64 s.te) := H.c 11 (by decide)
  obtain ⟨a, cap, rfl, hc⟩ := H.oa.len
  clear H
  cases hq : s.ac with
  | nil =>
    have HW : Hid (W.wt s = (s.te != -1)) := by
      show W.wt s = _
      unfold W.wt
      rw [hq]
      by_cases e : s.te = -1 <;> simp [e]
    rw [hq] at c10 hc
    clear hq
    have hz : ([] : List Int).length = 0 := rfl
    rw [hz] at c10 hc
    clear hz
    rw [HW.out]
    go_enter Try.func25, Try.ntmps25
    go_wp2
    go_ret
    exact ⟨rfl, rfl⟩
  | cons x l =>
    have HW : Hid (W.wt s = true) := by
      show W.wt s = _
      unfold W.wt
      rw [hq]
      rfl
    rw [hq] at c10 hc
    clear hq
    have hz : (x :: l).length = l.length + 1 := rfl
    rw [hz] at c10 hc
    clear hz
    generalize l.length = n at *
    have hp : (0 : Int) < ((n + 1 : Nat) : Int) := by omega
    rw [HW.out]
    go_enter Try.func25, Try.ntmps25
    go_wp2
    go_ret
    exact ⟨rfl, rfl⟩

theorem sharers_any (H : Ho n0 hb s sv av w) (hl : s.sh.length ≤ 4096) : Calls Try.prog 20 #[.pointer (some ⟨hb, 0, none⟩)] w fun e w' => (∃ t, e = .returned t ∧ On w.heap.size t s.sh w') ∧ Below w.heap.size w w' := by
  have c7 : w.cell? ⟨hb, 7, none⟩ = some sv := H.c 7 (by decide)
  have HC : Hid (Calls _ _ _ _ _) := clone_any n0 sv s.sh hl w H.os
  clear H
  go_enter Try.func20, Try.ntmps20
  go_wp2_with (fail)
  refine HC.out.mono ?_
  rintro e w1 ⟨⟨t, rfl, ho⟩, hb⟩
  have HO : Hid (_ ∧ _) := ⟨ho, hb⟩
  clear ho hb
  go_wp2
  go_ret
  exact ⟨⟨t, rfl, HO.out.1⟩, HO.out.2⟩

theorem data_any (H : Ho n0 hb s sv av w) : Calls Try.prog 22 #[.pointer (some ⟨hb, 0, none⟩)] w fun e w' => e = .returned (.agg #[.int .u32 s.e0, .int .u32 s.e1, .int .u32 s.e2, .int .u32 s.e3]) ∧ Below w.heap.size w w' := by
  have hba := below_alloc w (.cells #[.int .u32 0, .int .u32 0, .int .u32 0, .int .u32 0] 23)
  have hl := H.b.lt
  have c2 : w.cell? ⟨hb, 2, none⟩ = some (.int .u32 s.e0) := H.c 2 (by decide)
  have c3 : w.cell? ⟨hb, 3, none⟩ = some (.int .u32 s.e1) := H.c 3 (by decide)
  have c4 : w.cell? ⟨hb, 4, none⟩ = some (.int .u32 s.e2) := H.c 4 (by decide)
  have c5 : w.cell? ⟨hb, 5, none⟩ = some (.int .u32 s.e3) := H.c 5 (by decide)
  clear H
  go_enter Try.func22, Try.ntmps22
  go_wp2
  exact bodyPost_ret (v := .agg #[.int .u32 s.e0, .int .u32 s.e1, .int .u32 s.e2, .int .u32 s.e3]) (by simp [results, Try.results22, asAddr, go_sem]) rfl ⟨rfl, by
    repeat (first | exact below_alloc _ _ | (refine Below.setCell ?_ (by simp) _))⟩

theorem bdM_4 (k l f t : Int) (w : World) : (bdM #[(0, .int .i64 k), (1, .int .i64 l), (2, .int .i64 f), (3, .int .i64 t)]).run Try.prog w = .ok (mgV ⟨k, l, f, t, 0, 0, 0, 0, false, false, false⟩) w := by kernel_rfl
theorem msg_any (hc : w.cell? ⟨hb, 0, none⟩ = some (.int .i64 s.ln)) (k t : Int) : Calls Try.prog 41 #[.pointer (some ⟨hb, 0, none⟩), .int .i64 k, .int .i64 t] w fun e w' => e = .returned (mgV (W.msg s k t)) ∧ Below w.heap.size w w' := by
  have hl := World.block_lt_of_cell? _ _ hc
  have bd := bdM_4 k s.ln (-1) t
  have hst := stM_new w (W.msg s k t) z11 rfl
  have hld := (msgAt_new w (W.msg s k t)).ld
  have hB := below_alloc w (.cells (mgL (W.msg s k t)).toArray 35)
  have HB : Hid (_) := hB
  have e : (⟨k, s.ln, -1, t, 0, 0, 0, 0, false, false, false⟩ : W.Mg) = W.msg s k t := rfl
  rw [e] at bd
  clear hB e
  generalize W.msg s k t = M at *
  go_enter Try.func41, Try.ntmps41
  go_wp2
  exact bodyPost_ret (v := mgV M) (by simp [results, Try.results41, asAddr, ldM_eq, hld]) rfl ⟨rfl, HB.out⟩

end Go.Proofs.Ytadkpelcbnljbaa
