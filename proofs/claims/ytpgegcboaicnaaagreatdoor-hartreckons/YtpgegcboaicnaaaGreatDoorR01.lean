/- Texts in one: HartP4, HartReckonsWalk. -/
import Derived.Test.YtpgegcboaicnaaaGreatDoorJ10
import Derived.Test.YtpgegcboaicnaaaGreatDoorK01
/- The ops of two registers; without any Go. -/
namespace Go.Proofs.YtpgegcboaicnaaaGreatDoor.W
open Go.RowKit
set_option linter.unusedVariables false
set_option linter.unusedSimpArgs false

def ops18 : List Int := [28, 29, 30, 31, 32, 33, 34, 35, 36, 37, 51, 52, 53, 54, 55, 56, 57, 58]
def okR (x : Int) : Bool := known x && ((shp x).rd && ((shp x).rs1 && ((shp x).rs2 && (!(shp x).csr && (!hasImm (shp x) && (decide (1 ≤ kind x) && (decide (kind x ≤ 3) && (!(x == 1) && (!(x == 2) && (!(x == 3) && (!(x == 4) && (!takB x && doB x))))))))))))
theorem okR_all : ops18.all okR = true := by decide +kernel
theorem ops18_at (j : Nat) (hj : j < 18) : okR (ops18.getD j 0) = true := by
  have h := List.all_eq_true.1 okR_all (ops18.getD j 0)
  apply h
  rw [List.getD_eq_getElem?_getD, List.getElem?_eq_getElem (show j < ops18.length from hj)]
  exact List.getElem_mem _
theorem reck_R (x : Int) (h : okR x = true) (rd rs1 rs2 : Int) (r0 : 0 ≤ rd ∧ rd < 32) (s0 : 0 ≤ rs1 ∧ rs1 < 32) (t0 : 0 ≤ rs2 ∧ rs2 < 32) : encE (in5 x rd rs1 rs2 0) = 0 ∧ (decide (1 ≤ kind x) && decide (kind x ≤ 3)) = true ∧ (∀ pc a b, nextV x 0 pc a b = (pc + 4) % 4294967296) ∧ ∀ pc a b, resV x 0 pc a b = doV x a b := by
  simp only [okR, Bool.and_eq_true, Bool.not_eq_true'] at h
  obtain ⟨h1, h2, h3, h4, h5, h6, h7, h8, h9, h10, h11, h12, h13, h14⟩ := h
  refine ⟨enc_in5 h1 ?_ (range_in5 r0 s0 t0) ?_, ?_, fun pc a b => ?_, fun pc a b => ?_⟩
  · simp only [layIB, h6, cond_false]
  · simp [same, only, in5, h2, h3, h4, h5, h6]
  · rw [h7, h8]; rfl
  · have : takV x a b = false := by
      obtain ⟨q1, q2, q3, q4, q5, q6⟩ := takB_none h13
      simp only [takV, q1, q2, q3, q4, q5, q6, cond_false]
    simp only [nextV, h11, h12, this, cond_false]
  · simp only [resV, h9, h10, h11, h12, Bool.or_false, cond_false, resE, h6]
end Go.Proofs.YtpgegcboaicnaaaGreatDoor.W

/- HartReckons, walked: it returns true, whatever the op and the words. -/
namespace Go.Proofs.YtpgegcboaicnaaaGreatDoor
open Go.ChangeShapes Go.WideShapes Go.ChangeAt Go.RowKit
set_option linter.unusedVariables false
set_option linter.unusedSimpArgs false

/-- The hart with two registers put. -/
def W.K2 (a b : Int) : W.Ht := W.lu2 (W.lu2 (W.H0 0 4096) 1 a) 2 b
theorem K2_ready (a b : Int) (a0 : 0 ≤ a) (a1 : a < 4294967296) (b0 : 0 ≤ b) (b1 : b < 4294967296) : Ready (W.K2 a b) 16 :=
  (Ready.lu2 (⟨H0_ok 0 4096, rfl, rfl, rfl⟩ : Ready (W.H0 0 4096) 0) 1 a a0 a1 (by decide) (by decide)).lu2 2 b b0 b1 (by decide) (by decide)
theorem K2_get (a b i : Int) (i0 : 0 ≤ i) (i1 : i < 32) : W.xget (W.K2 a b) i = if i = 2 then b else if i = 1 then a else 0 := by
  unfold W.K2
  rw [lu_get _ 2 b i (by decide) i0 i1, lu_get _ 1 a i (by decide) i0 i1]
  have : W.xget (W.H0 0 4096) i = 0 := by
    unfold W.xget W.H0
    cases decide (i < 0) <;> cases decide (32 ≤ i) <;> rfl
  rw [this]

def opsV : Array Value := #[.int .i64 28, .int .i64 29, .int .i64 30, .int .i64 31, .int .i64 32, .int .i64 33, .int .i64 34, .int .i64 35, .int .i64 36, .int .i64 37, .int .i64 51, .int .i64 52, .int .i64 53, .int .i64 54, .int .i64 55, .int .i64 56, .int .i64 57, .int .i64 58]
theorem opsV_at (j : Nat) (hj : j < 18) : opsV[j]? = some (.int .i64 (W.ops18.getD j 0)) := by
  rcases (by omega : j = 0 ∨ j = 1 ∨ j = 2 ∨ j = 3 ∨ j = 4 ∨ j = 5 ∨ j = 6 ∨ j = 7 ∨ j = 8 ∨ j = 9 ∨ j = 10 ∨ j = 11 ∨ j = 12 ∨ j = 13 ∨ j = 14 ∨ j = 15 ∨ j = 16 ∨ j = 17) with rfl | rfl | rfl | rfl | rfl | rfl | rfl | rfl | rfl | rfl | rfl | rfl | rfl | rfl | rfl | rfl | rfl | rfl <;> rfl

set_option maxHeartbeats 1600000 in
theorem hartreckons_walk (E : Addr) (op a b : Int) (o0 : -9223372036854775808 ≤ op) (o1 : op ≤ 9223372036854775807) (a0 : 0 ≤ a) (a1 : a < 4294967296) (b0 : 0 ≤ b) (b1 : b < 4294967296) (w : World) (hE : Tr E w) :
    Calls Tryz.prog 6 #[.int .i64 op, .int .u32 a, .int .u32 b] w fun e w' => e = .returned (.bool true) ∧ Below w.heap.size w w' := by
  have hnum := fun w => number_any op 18 o0 o1 (by decide) (by decide) w
  obtain ⟨j, hj⟩ : ∃ j : Nat, op % 18 = (j : Int) := ⟨(op % 18).toNat, by omega⟩
  have hj18 : j < 18 := by omega
  rw [hj] at hnum
  have hx := W.ops18_at j hj18
  have hcell : ∀ w1 : World, (w1.alloc (.cells opsV 3)).cell? ⟨w1.heap.size, j, none⟩ = some (.int .i64 (W.ops18.getD j 0)) := fun w1 => by
    rw [cell_of_row _ _ j opsV 3 (0, 0) (heap_alloc_last w1 _)]
    exact opsV_at j hj18
  obtain ⟨hE0, hk, hnx, hrs⟩ := W.reck_R _ hx 3 1 2 (by decide) (by decide) (by decide)
  generalize W.ops18.getD j 0 = x at *
  have hwd := fun w => cword_any x 3 1 2 0 (by decide) (by decide) _ hE0 rfl w
  have hR := K2_ready a b a0 a1 b0 b1
  have e1 := K2_get a b 1 (by decide) (by decide)
  have e2 := K2_get a b 2 (by decide) (by decide)
  rw [if_neg (by decide), if_pos rfl] at e1
  rw [if_pos rfl] at e2
  have hdo := fun w => do_any x a b a0 a1 b0 b1 w
  have hrep := fun c w1 => replay_reck c (W.K2 a b) (W.in5 x 3 1 2 0) _ 16 20 (W.doV x a b) E hR.ok hR.m hR.pc (by decide) (by rw [hR.by_]; decide) hE0 rfl hk (by show W.nextV x 0 16 _ _ = 20; rw [hnx]; rfl) (by show W.resV x 0 16 (W.xget (W.K2 a b) 1) (W.xget (W.K2 a b) 2) = _; rw [hrs, e1, e2]) (by decide) w1
  have hput := fun c w k t c0 => putl_any E c a b a0 a1 b0 b1 w k t c0
  rw [show W.lu2 (W.lu2 (W.H0 0 4096) 1 a) 2 b = W.K2 a b from rfl] at hput
  have x3 := W.xget_put (W.K2 a b) 3 (W.doV x a b) 20 3 (by decide) (by decide)
  have x1 := W.xget_put (W.K2 a b) 3 (W.doV x a b) 20 1 (by decide) (by decide)
  have x2 := W.xget_put (W.K2 a b) 3 (W.doV x a b) 20 2 (by decide) (by decide)
  rw [if_pos (by decide)] at x3
  rw [if_neg (by decide), e1] at x1
  rw [if_neg (by decide), e2] at x2
  have g1 := fun c w (h : HAt c { W.hput (W.K2 a b) 3 (W.doV x a b) with pc := 20 } w) => x_g c _ 1 a x1 w h.xh
  have g2 := fun c w (h : HAt c { W.hput (W.K2 a b) 3 (W.doV x a b) with pc := 20 } w) => x_g c _ 2 b x2 w h.xh
  have g3 := fun c w (h : HAt c { W.hput (W.K2 a b) 3 (W.doV x a b) with pc := 20 } w) => x_g c _ 3 (W.doV x a b) x3 w h.xh
  have hpc : ∀ c w1, HAt c { W.hput (W.K2 a b) 3 (W.doV x a b) with pc := 20 } w1 → Calls Tryz.prog 24 #[.pointer (some ⟨c, 0, none⟩)] w1 fun z w' => z = .returned (.int .u32 20) ∧ w1 = w' := fun c w1 k => pc_any c _ w1 k
  have hN := hnew_any 0 4096
  have hF := first10_any E w hE
  rw [show (W.in5 x 3 1 2 0).rd = 3 from rfl] at hrep
  clear x1 x2 x3 e1 e2 hR hnx hrs hk hE0 hx
  generalize W.encV (W.in5 x 3 1 2 0) = y at *
  generalize ({ W.hput (W.K2 a b) 3 (W.doV x a b) with pc := 20 } : W.Ht) = h2 at *
  generalize W.K2 a b = h1 at *
  generalize W.H0 0 4096 = h0 at *
  generalize W.doV x a b = v at *
  generalize W.doB x = bb at *
  unfold opsV at hcell
  have HH : Hid (_ ∧ _ ∧ _ ∧ _ ∧ _ ∧ _ ∧ _) := ⟨hF, hnum, hN, hput, hwd, hrep, hdo⟩
  have HG : Hid (_ ∧ _ ∧ _ ∧ _) := ⟨g1, g2, g3, hpc⟩
  clear hF hnum hN hput hwd hrep hdo g1 g2 g3 hpc
  have hw0 := hE.lt
  have HE : Hid (Tr E w) := hE
  have HC : Hid (∀ w1 : World, _) := hcell
  clear hE hcell
  go_enter Tryz.func6, Tryz.ntmps6
  go_wp2_with (fail)
  refine HH.out.1.mono ?_
  rintro e w1 ⟨rfl, b1'⟩
  go_wp2_with (fail)
  refine (HH.out.2.1 _).mono ?_
  rintro e w' ⟨rfl, rfl⟩
  have hc1 := HC.out w1
  have B1 : Below w.heap.size w (w1.alloc (.cells #[.int .i64 28, .int .i64 29, .int .i64 30, .int .i64 31, .int .i64 32, .int .i64 33, .int .i64 34, .int .i64 35, .int .i64 36, .int .i64 37, .int .i64 51, .int .i64 52, .int .i64 53, .int .i64 54, .int .i64 55, .int .i64 56, .int .i64 57, .int .i64 58] 3)) := b1'.alloc b1'.size _
  have L1 : w1.heap.size < (w1.alloc (.cells #[.int .i64 28, .int .i64 29, .int .i64 30, .int .i64 31, .int .i64 32, .int .i64 33, .int .i64 34, .int .i64 35, .int .i64 36, .int .i64 37, .int .i64 51, .int .i64 52, .int .i64 53, .int .i64 54, .int .i64 55, .int .i64 56, .int .i64 57, .int .i64 58] 3)).heap.size := by simp
  generalize World.alloc w1 (.cells #[.int .i64 28, .int .i64 29, .int .i64 30, .int .i64 31, .int .i64 32, .int .i64 33, .int .i64 34, .int .i64 35, .int .i64 36, .int .i64 37, .int .i64 51, .int .i64 52, .int .i64 53, .int .i64 54, .int .i64 55, .int .i64 56, .int .i64 57, .int .i64 58] 3) = W1 at *
  generalize w1.heap.size = l at *
  go_wp2_with (fail)
  refine (HH.out.2.2.1 _).mono ?_
  rintro e w2 ⟨c, hc, rfl, k2, b2⟩
  have S2 := Hb.new (HE.out.below B1) hc k2 b2
  clear k2 b2
  have c0 : 0 < c := by have := S2.n0; omega
  go_wp2_with (fail)
  refine (HH.out.2.2.2.1 c _ S2.k S2.t c0).mono ?_
  rintro e w3 ⟨rfl, k3, g3⟩
  have S3 := S2.step k3 g3
  clear S2 k3 g3
  go_wp2_with (fail)
  refine (HH.out.2.2.2.2.1 _).mono ?_
  rintro e w4 ⟨rfl, b4⟩
  have S4 := S3.below b4
  clear S3 b4
  go_wp2_with (fail)
  refine (HH.out.2.2.2.2.2.1 c _ S4.k S4.t).mono ?_
  rintro e w5 ⟨rfl, k5, g5⟩
  have S5 := S4.step k5 g5
  clear S4 k5 g5
  have hl5 := S5.k.lt
  go_wp2_with (fail)
  refine (HH.out.2.2.2.2.2.2 _).mono ?_
  rintro e w' ⟨rfl, rfl⟩
  have S6 := S5.alloc (.cells #[.int .i64 0, .int .u32 0, .int .i64 0, .int .u32 0, .bool false, .bool false, .bool false] 35)
  generalize World.alloc w5 (.cells #[.int .i64 0, .int .u32 0, .int .i64 0, .int .u32 0, .bool false, .bool false, .bool false] 35) = W6 at *
  have hl6 := S6.k.lt
  go_wp2_with (fail)
  refine (HG.out.2.2.1 c _ S6.k).mono ?_
  rintro e w' ⟨rfl, rfl⟩
  go_wp2_with (fail)
  refine (HG.out.2.2.2 c _ S6.k).mono ?_
  rintro e w' ⟨rfl, rfl⟩
  go_wp2_with (fail)
  refine (HG.out.1 c _ S6.k).mono ?_
  rintro e w' ⟨rfl, rfl⟩
  go_wp2_with (fail)
  refine (HG.out.2.1 c _ S6.k).mono ?_
  rintro e w' ⟨rfl, rfl⟩
  go_wp2
  go_ret
  exact ⟨rfl, B1.trans (S6.b.mono B1.size)⟩
end Go.Proofs.YtpgegcboaicnaaaGreatDoor
