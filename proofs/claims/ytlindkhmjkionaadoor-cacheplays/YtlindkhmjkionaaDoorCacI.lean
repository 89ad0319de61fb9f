/- cache: New; the chapter's examples. -/
import Derived.Test.YtlindkhmjkionaaDoorCacH
namespace Go.Proofs.YtlindkhmjkionaaDoor
open Go.ChangeShapes Go.WideShapes Go.ChangeAt Go.RowKit
set_option linter.unusedVariables false
set_option linter.unusedSimpArgs false
attribute [local go_sem ↓] ldE_eq stE_eq bdE_eq bsE_eq
variable {n0 cb sb K : Nat} {ways : Int} {sv sv' sv'' : Nat → Value} {S S' : Nat → List W.En} {w w' w'' : World}

def nilS : Nat → List W.En := fun _ => []
def nilV : Nat → Value := fun _ => .slice none 0 0
def nilC (K : Nat) : Array Value := (List.replicate K (.slice none 0 0)).toArray
theorem ct_new (w : World) (K : Nat) (ways : Int) (T1 T2 : TypeId) : Ct w.heap.size (w.heap.size + 1) w.heap.size K ways nilV nilS ((w.alloc (.cells (nilC K) T1)).alloc (.cells #[.int .i64 ways, .slice (some ⟨w.heap.size, 0, none⟩) K K] T2)) := by
  have e2 : (w.alloc (.cells (nilC K) T1)).heap.size = w.heap.size + 1 := by simp
  refine ⟨?_, ?_, fun i hi => ⟨by simp [nilS, enX], Or.inl ⟨rfl, by simp [nilS]⟩⟩, by omega, (fun i hi e => by cases e), (fun i hi e => by cases e), (fun i j g _ _ e => by cases e), by omega, Nat.le_refl _⟩
  · have := bc_row (b := w.heap.size + 1) (n := 2) (f := ctF ways w.heap.size K) (w := (w.alloc (.cells (nilC K) T1)).alloc (.cells #[.int .i64 ways, .slice (some ⟨w.heap.size, 0, none⟩) K K] T2)) (cs := #[.int .i64 ways, .slice (some ⟨w.heap.size, 0, none⟩) K K]) (T := T2) (by rw [← e2]; exact heap_alloc_last _ _) (fun j hj => by
      match j, hj with
      | 0, _ | 1, _ => rfl)
    exact this
  · have h1 : Bc w.heap.size K nilV (w.alloc (.cells (nilC K) T1)) := bc_row (heap_alloc_last w _) (fun j hj => by simp [nilC, nilV, hj])
    exact h1.below (below_alloc _ _)
theorem made_sets (K : Nat) (hK : K = 1 ∨ K = 2 ∨ K = 4 ∨ K = 8 ∨ K = 16 ∨ K = 32 ∨ K = 64) (w : World) : (Instr.makeSlice 66 (.int .i64 (K : Int)) (.int .i64 (K : Int))).run Tryd.prog w = .ok (.slice (some ⟨w.heap.size, 0, none⟩) K K) (w.alloc (.cells (nilC K) 57)) := by
  rcases hK with rfl | rfl | rfl | rfl | rfl | rfl | rfl <;> kernel_rfl
def mkS (x y : Value) : Sem Value := Instr.makeSlice 66 x y
theorem mkS_eq (x y : Value) : Instr.makeSlice 66 x y = mkS x y := rfl
attribute [local go_sem ↓] mkS_eq
theorem pow_and (K : Nat) (hK : K = 1 ∨ K = 2 ∨ K = 4 ∨ K = 8 ∨ K = 16 ∨ K = 32 ∨ K = 64) : bits .and .i64 (K : Int) ((K : Int) - 1) = 0 := by
  rcases hK with rfl | rfl | rfl | rfl | rfl | rfl | rfl <;> kernel_rfl

set_option maxRecDepth 10000 in
set_option maxHeartbeats 1600000 in
theorem new_ok (K : Nat) (hK : K = 1 ∨ K = 2 ∨ K = 4 ∨ K = 8 ∨ K = 16 ∨ K = 32 ∨ K = 64) (ways : Int) (h1 : 1 ≤ ways) (h8 : ways ≤ 8) (w : World) :
    Calls Tryd.prog 7 #[.int .i64 (K : Int), .int .i64 ways] w fun e w' => e = .returned (.tuple #[.pointer (some ⟨w.heap.size + 1, 0, none⟩), .nilIface]) ∧ Ct w.heap.size (w.heap.size + 1) w.heap.size K ways nilV nilS w' ∧ Below w.heap.size w w' := by
  have hm : ∀ w, (mkS (.int .i64 (K : Int)) (.int .i64 (K : Int))).run Tryd.prog w = .ok (.slice (some ⟨w.heap.size, 0, none⟩) K K) (w.alloc (.cells (nilC K) 57)) := made_sets K hK
  have hand := pow_and K hK
  have k1 : (1 : Int) ≤ K := by omega
  have k2 : (K : Int) ≤ 64 := by omega
  clear hK
  have HN : Hid (Ct w.heap.size (w.heap.size + 1) w.heap.size K ways nilV nilS ((w.alloc (.cells (nilC K) 57)).alloc (.cells #[.int .i64 ways, .slice (some ⟨w.heap.size, 0, none⟩) K K] 68))) := ct_new w K ways _ _
  generalize nilC K = NC at *
  go_enter Tryd.func7, Tryd.ntmps7
  go_wp2
  exact bodyPost_ret (v := .tuple #[.pointer (some ⟨w.heap.size + 1, 0, none⟩), .nilIface]) (by simp [results, Tryd.results7, go_sem]) rfl ⟨rfl, HN.out, ((below_alloc _ _).alloc (by simp) _)⟩

theorem bdE_2 (x s : Int) (w : World) : (bdE #[(0, .int .i64 x), (1, .int .i64 s)]).run Tryd.prog w = .ok (enV ⟨x, s, 0, 0, 0, 0⟩) w := by kernel_rfl
def en2 (x s : Int) : W.En := ⟨x, s, 0, 0, 0, 0⟩
theorem enV2 (x s : Int) : enV ⟨x, s, 0, 0, 0, 0⟩ = enV (en2 x s) := rfl
theorem Cu.sent {A : Nat → Addr} (hU : Cu sb K sv sv' w w') (H : Ct n0 cb sb K ways sv S w) (hA : Sent A w) (h11 : ∀ j, j < 11 → j < n0 ∧ (A j).block < n0) : Sent A w' where
  cell := fun j hj => (World.cell?_of_block (a := ⟨j, 0, none⟩) (hU.other (World.block_lt_of_cell? _ _ (hA.cell j hj)) (H.apt_low (h11 j hj).1))).trans (hA.cell j hj)
  apart := hA.apart
  held := fun j hj => by
    obtain ⟨c, t, hc⟩ := hA.held j hj
    exact ⟨c, t, (hU.other (Array.getElem?_eq_some_iff.1 hc).1 (H.apt_low (h11 j hj).2)).trans hc⟩
theorem Sent.low {A : Nat → Addr} (hs : Sent A w) : ∀ j, j < 11 → j < w.heap.size ∧ (A j).block < w.heap.size := fun j hj => by
  obtain ⟨c, t, hc⟩ := hs.held j hj
  exact ⟨World.block_lt_of_cell? _ _ (hs.cell j hj), (Array.getElem?_eq_some_iff.1 hc).1⟩
theorem f_1 : W.pt 2 1 nilS (en2 0 1) = 0 := by decide +kernel
def S1 : Nat → List W.En := W.updS nilS (W.ix 2 0) (W.lst (nilS (W.ix 2 0)) (en2 0 1))
theorem f_2 : W.pt 2 1 S1 (en2 1 1) = 0 := by decide +kernel
def S2 : Nat → List W.En := W.updS S1 (W.ix 2 1) (W.lst (S1 (W.ix 2 1)) (en2 1 1))
theorem f_3 : W.pt 2 1 S2 (en2 2 1) = 3 := by decide +kernel
theorem f_4 : W.vic (W.st 2 S2 2) [] = some (en2 0 1) := by decide +kernel
theorem n_0 : ∀ i, i < 2 → (nilS i).length ≤ 4096 := fun i _ => by simp [nilS]
theorem n_1 : ∀ i, i < 2 → (S1 i).length ≤ 4096 := fun i h => by
  match i, h with
  | 0, _ | 1, _ => decide +kernel
theorem n_2 : ∀ i, i < 2 → (S2 i).length ≤ 4096 := fun i h => by
  match i, h with
  | 0, _ | 1, _ => decide +kernel
theorem li_nil (w : World) : Li ⟨none, 0, 0⟩ [] w := ⟨rfl, by show 0 ≤ 4096; decide, Nat.le_refl _, fun h => absurd h (Nat.lt_irrefl 0)⟩

set_option maxRecDepth 10000 in
set_option maxHeartbeats 1600000 in
theorem first17_any (A : Nat → Addr) (w : World) (hS : Sent A w) : Calls Tryd.prog 6 #[] w fun e w' => e = .returned (.bool true) ∧ Below w.heap.size w w' := by
  have bd := fun x w => bdE_2 x 1 w
  simp only [enV2] at bd
  have HS : Hid (Sent A w) := hS
  have HL : Hid (_) := hS.low
  clear hS
  go_enter Tryd.func6, Tryd.ntmps6
  go_wp2_with (fail)
  refine (new_ok 2 (by decide) 1 (by decide) (by decide) w).mono ?_
  rintro e w1 ⟨rfl, hN, hB⟩
  have H1 : Hid (_ ∧ _) := ⟨hN, hB⟩
  clear hN hB
  go_wp2_with (fail)
  refine (put_ok H1.out.1 (by decide) n_0 (en2 0 1) f_1).mono ?_
  rintro e w2 ⟨rfl, sv2, hC2, hU2⟩
  have H2 : Hid (Ct w.heap.size (w.heap.size + 1) w.heap.size 2 1 sv2 S1 w2 ∧ Below w.heap.size w w2) := ⟨hC2, H1.out.2.trans (hU2.below H1.out.1 _ (Nat.le_refl _) H1.out.2.size)⟩
  clear hC2 hU2 H1
  go_wp2_with (fail)
  refine (put_ok H2.out.1 (by decide) n_1 (en2 1 1) f_2).mono ?_
  rintro e w3 ⟨rfl, sv3, hC3, hU3⟩
  have H3 : Hid (Ct w.heap.size (w.heap.size + 1) w.heap.size 2 1 sv3 S2 w3 ∧ Below w.heap.size w w3) := ⟨hC3, H2.out.2.trans (hU3.below H2.out.1 _ (Nat.le_refl _) H2.out.2.size)⟩
  clear hC3 hU3 H2
  go_wp2_with (fail)
  refine (put_err A H3.out.1 (by decide) n_2 (HS.out.below H3.out.2) (en2 2 1) 3 f_3 (by decide)).mono ?_
  rintro e w4 ⟨rfl, hb4⟩
  have H4 : Hid (Ct w.heap.size (w.heap.size + 1) w.heap.size 2 1 sv3 S2 w4 ∧ Below w.heap.size w w4) := ⟨H3.out.1.below hb4, H3.out.2.trans (hb4.mono H3.out.2.size)⟩
  clear hb4 H3
  have HV : Hid (Calls _ _ _ _ _) := victim_any ⟨none, 0, 0⟩ [] H4.out.1 (by decide) n_2 2 (li_nil w4)
  rw [f_4] at HV
  have hE4 := fun w => stE_new w (en2 0 1) z6 rfl
  have HI : Hid (∀ w', Below w.heap.size w w' → Calls Tryd.prog 9 #[errV A 3, .int .i64 107] w' fun e w'' => e = .returned (.bool true) ∧ Below w'.heap.size w' w'') := fun w' hb => is_any A 3 (by decide) 107 w' (HS.out.below hb)
  unfold slV at HV
  have hg : (some (en2 0 1)).getD W.en0 = en2 0 1 := rfl
  rw [hg] at HV
  clear hg
  generalize errV A 3 = er at *
  go_wp2_with (fail)
  refine HV.out.mono ?_
  rintro e w5 ⟨rfl, hb5⟩
  have hba := below_alloc w5 (.cells (enL (en2 0 1)).toArray 37)
  have hE5 := enAt_new w5 (en2 0 1)
  have H5 : Hid (Below w.heap.size w (w5.alloc (.cells (enL (en2 0 1)).toArray 37)) ∧ EnAt w5.heap.size (en2 0 1) (w5.alloc (.cells (enL (en2 0 1)).toArray 37))) := ⟨H4.out.2.trans ((hb5.trans (hba.mono hb5.size)).mono H4.out.2.size), hE5⟩
  clear hb5 hba hE5
  go_wp2_with (fail)
  refine (HI.out _ H5.out.1).mono ?_
  rintro e w6 ⟨rfl, hb6⟩
  have c6 : w6.cell? ⟨w5.heap.size, 0, none⟩ = some (.int .i64 0) := (H5.out.2.below hb6).cAt 0 (by decide)
  have H6 : Hid (_) := H5.out.1.trans (hb6.mono H5.out.1.size)
  go_wp2
  go_ret
  exact ⟨rfl, H6.out⟩
end Go.Proofs.YtlindkhmjkionaaDoor
