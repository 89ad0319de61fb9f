/- Texts in one: HartBranchesWalk. -/
import Derived.Test.YtpgegcboaicnaaaGreatDoorJ10
import Derived.Test.YtpgegcboaicnaaaGreatDoorL01
/- HartBranches, walked: it returns true, whatever the op, the words and the place. -/
namespace Go.Proofs.YtpgegcboaicnaaaGreatDoor
open Go.ChangeShapes Go.WideShapes Go.ChangeAt Go.RowKit
set_option linter.unusedVariables false
set_option linter.unusedSimpArgs false

set_option maxHeartbeats 3200000 in
theorem hartbranches_walk (E : Addr) (op a b to : Int) (o0 : -9223372036854775808 ≤ op) (o1 : op ≤ 9223372036854775807) (a0 : 0 ≤ a) (a1 : a < 4294967296) (b0 : 0 ≤ b) (b1 : b < 4294967296) (t0 : -9223372036854775808 ≤ to) (t1 : to ≤ 9223372036854775807) (w : World) (hE : Tr E w) :
    Calls Tryz.prog 7 #[.int .i64 op, .int .u32 a, .int .u32 b, .int .i64 to] w fun e w' => e = .returned (.bool true) ∧ Below w.heap.size w w' := by
  have hn1 := fun w => number_any op 6 o0 o1 (by decide) (by decide) w
  have hn2 := fun w => number_any to 64 t0 t1 (by decide) (by decide) w
  have q0 : 0 ≤ op % 6 := by omega
  have q1 : op % 6 < 6 := by omega
  obtain ⟨t, ht⟩ : ∃ t : Nat, to % 64 = (t : Int) := ⟨(to % 64).toNat, by omega⟩
  have ht64 : t < 64 := by omega
  rw [ht] at hn2
  have hx := W.okB_at (op % 6) q0 q1
  generalize op % 6 = j at *
  obtain ⟨hE0, hk, hnx⟩ := W.reck_B (5 + j) hx t ht64
  have hlt := W.offs_lt t
  have hwd := fun w => cword_any (5 + j) 0 1 2 (W.offs t) hlt.1 hlt.2 _ hE0 rfl w
  have hR := KB_ready a b a0 a1 b0 b1
  have e1 := KB_get a b 1 (by decide) (by decide)
  have e2 := KB_get a b 2 (by decide) (by decide)
  rw [if_neg (by decide), if_pos rfl] at e1
  rw [if_pos rfl] at e2
  have htk := fun w => tak_any (5 + j) a b a0 a1 b0 b1 w
  have hsum := W.offs_sum t ht64
  have hoff : (2 * (t : Int) - 16) % 4294967296 = W.offs t := rfl
  have hnx2 : W.nextV (5 + j) (W.offs t) 16 (W.xget (W.KB a b) 1) (W.xget (W.KB a b) 2) = bif W.takV (5 + j) a b then 2 * (t : Int) else 20 := by
    rw [hnx, e1, e2, hsum]
    rfl
  have hrep := fun c w1 (nx v : Int) (h1 : W.nextV (5 + j) (W.offs t) 16 (W.xget (W.KB a b) 1) (W.xget (W.KB a b) 2) = nx) (h2 : W.resV (5 + j) (W.offs t) 16 (W.xget (W.KB a b) 1) (W.xget (W.KB a b) 2) = v) (h3 : nx % 4 = 0) => replay_reck c (W.KB a b) (W.in5 (5 + j) 0 1 2 (W.offs t)) _ 16 nx v E hR.ok hR.m hR.pc (by decide) (by rw [hR.by_]; decide) hE0 rfl hk h1 h2 h3 w1
  have hbent := fun c w1 (nx : Int) (h1 : W.nextV (5 + j) (W.offs t) 16 (W.xget (W.KB a b) 1) (W.xget (W.KB a b) 2) = nx) (h3 : nx % 4 ≠ 0) => replay_bent c (W.KB a b) (W.in5 (5 + j) 0 1 2 (W.offs t)) _ 16 nx E hR.ok hR.m hR.pc (by decide) (by rw [hR.by_]; decide) hE0 rfl hk h1 h3 w1
  have hput := fun c w k t c0 => putl_any E c a b a0 a1 b0 b1 w k t c0
  rw [show W.lu2 (W.lu2 (W.H0 0 4096) 1 a) 2 b = W.KB a b from rfl] at hput
  have hN := hnew_any 0 4096
  have hF := first10_any E w hE
  have hG := KB_G a b
  have hpc0 := hR.pc
  rw [show (W.in5 (5 + j) 0 1 2 (W.offs t)).rd = 0 from rfl] at hrep
  clear hR hk hnx hE0 hx e1 e2
  generalize W.encV (W.in5 (5 + j) 0 1 2 (W.offs t)) = y at *
  generalize W.resV (5 + j) (W.offs t) 16 (W.xget (W.KB a b) 1) (W.xget (W.KB a b) 2) = rv at *
  generalize W.nextV (5 + j) (W.offs t) 16 (W.xget (W.KB a b) 1) (W.xget (W.KB a b) 2) = nv at *
  generalize W.takB (5 + j) = bb at *
  generalize W.takV (5 + j) a b = tk at *
  have off4 : W.offs t % 4 = (2 * (t : Int)) % 4 := by unfold W.offs; omega
  have omod : (W.offs t).tmod 4 = W.offs t % 4 := Int.tmod_eq_emod_of_nonneg hlt.1
  generalize W.offs t = off at *
  have hlt0 := hlt.1
  have hlt1 := hlt.2
  have hw0 := hE.lt
  have HE : Hid (Tr E w) := hE
  clear hE hlt
  cases tk
  · skip
    have hN2 : nv = 20 := by rw [hnx2]; rfl
    have hr := fun c w1 => hrep c w1 20 rv hN2 rfl (by decide)
    have hpc : ∀ c w1, HAt c { W.hput (W.KB a b) 0 rv with pc := 20 } w1 → Calls Tryz.prog 24 #[.pointer (some ⟨c, 0, none⟩)] w1 fun z w' => z = .returned (.int .u32 20) ∧ w1 = w' := fun c w1 k => pc_any c _ w1 k
    have hget : ∀ c w1, HAt c { W.hput (W.KB a b) 0 rv with pc := 20 } w1 → Calls Tryz.prog 28 #[.pointer (some ⟨c, 0, none⟩), .int .i64 833] w1 fun z w' => ∃ v g, z = .returned (.tuple #[.int .u32 v, .bool g]) ∧ w1 = w' := fun c w1 k => (get_any _ c _ 833 w1 k).mono fun z w' ⟨h1, h2⟩ => ⟨_, _, h1, h2⟩
    clear hrep hbent hnx2 hN2 hG hpc0
    generalize ({ W.hput (W.KB a b) 0 rv with pc := 20 } : W.Ht) = h2 at *
    generalize W.KB a b = h1 at *
    generalize W.H0 0 4096 = h0 at *
    have HH : Hid (_ ∧ _ ∧ _ ∧ _ ∧ _ ∧ _ ∧ _) := ⟨hF, hn1, hn2, hN, hput, hwd, htk⟩
    have HG : Hid (_ ∧ _ ∧ _) := ⟨hr, hget, hpc⟩
    clear hF hn1 hn2 hN hput hwd htk hr hget hpc
    go_enter Tryz.func7, Tryz.ntmps7
    go_wp2_with (fail)
    refine HH.out.1.mono ?_
    rintro e w1 ⟨rfl, B1⟩
    go_wp2_with (fail)
    refine (HH.out.2.1 _).mono ?_
    rintro e w' ⟨rfl, rfl⟩
    go_wp2_with (fail)
    refine (HH.out.2.2.1 _).mono ?_
    rintro e w' ⟨rfl, rfl⟩
    go_wp2_with (fail)
    refine (HH.out.2.2.2.1 _).mono ?_
    rintro e w2 ⟨c, hc, rfl, k2, b2⟩
    have S2 := Hb.new (HE.out.below B1) hc k2 b2
    clear k2 b2
    have c0 : 0 < c := by have := S2.n0; omega
    go_wp2_with (fail)
    refine (HH.out.2.2.2.2.1 c _ S2.k S2.t c0).mono ?_
    rintro e w3 ⟨rfl, k3, g3⟩
    have S3 := S2.step k3 g3
    clear S2 k3 g3
    go_wp2_with (fail)
    refine (HH.out.2.2.2.2.2.1 _).mono ?_
    rintro e w4 ⟨rfl, b4⟩
    have S4 := S3.below b4
    clear S3 b4
    go_wp2_with (fail)
    refine (HH.out.2.2.2.2.2.2 _).mono ?_
    rintro e w' ⟨rfl, rfl⟩
    go_wp2_with (fail)
    refine (HG.out.1 c _ (S4.alloc _).k (S4.alloc _).t).mono ?_
    rintro e w5 ⟨rfl, k5, g5⟩
    have S5 := (S4.alloc _).step k5 g5
    clear S4 k5 g5
    have hl5 := S5.k.lt
    go_wp2_with (fail)
    refine (HG.out.2.1 c _ (S5.alloc _).k).mono ?_
    rintro e w' ⟨v, g, rfl, rfl⟩
    go_wp2_with (fail)
    refine (HG.out.2.2 c _ (S5.alloc _).k).mono ?_
    rintro e w' ⟨rfl, rfl⟩
    go_wp2
    go_ret
    exact ⟨rfl, B1.trans ((S5.alloc _).b.mono B1.size)⟩
  · by_cases h4 : (2 * (t : Int)) % 4 = 0
    · skip
      have hN2 : nv = 2 * (t : Int) := by rw [hnx2]; rfl
      have hr := fun c w1 => hrep c w1 (2 * (t : Int)) rv hN2 rfl (by omega)
      have hpc : ∀ c w1, HAt c { W.hput (W.KB a b) 0 rv with pc := 2 * (t : Int) } w1 → Calls Tryz.prog 24 #[.pointer (some ⟨c, 0, none⟩)] w1 fun z w' => z = .returned (.int .u32 (2 * (t : Int))) ∧ w1 = w' := fun c w1 k => pc_any c _ w1 k
      have hget : ∀ c w1, HAt c { W.hput (W.KB a b) 0 rv with pc := 2 * (t : Int) } w1 → Calls Tryz.prog 28 #[.pointer (some ⟨c, 0, none⟩), .int .i64 833] w1 fun z w' => ∃ v g, z = .returned (.tuple #[.int .u32 v, .bool g]) ∧ w1 = w' := fun c w1 k => (get_any _ c _ 833 w1 k).mono fun z w' ⟨h1, h2⟩ => ⟨_, _, h1, h2⟩
      clear hrep hbent hnx2 hN2 hG hpc0
      generalize ({ W.hput (W.KB a b) 0 rv with pc := 2 * (t : Int) } : W.Ht) = h2 at *
      generalize W.KB a b = h1 at *
      generalize W.H0 0 4096 = h0 at *
      have HH : Hid (_ ∧ _ ∧ _ ∧ _ ∧ _ ∧ _ ∧ _) := ⟨hF, hn1, hn2, hN, hput, hwd, htk⟩
      have HG : Hid (_ ∧ _ ∧ _) := ⟨hr, hget, hpc⟩
      clear hF hn1 hn2 hN hput hwd htk hr hget hpc
      go_enter Tryz.func7, Tryz.ntmps7
      go_wp2_with (fail)
      refine HH.out.1.mono ?_
      rintro e w1 ⟨rfl, B1⟩
      go_wp2_with (fail)
      refine (HH.out.2.1 _).mono ?_
      rintro e w' ⟨rfl, rfl⟩
      go_wp2_with (fail)
      refine (HH.out.2.2.1 _).mono ?_
      rintro e w' ⟨rfl, rfl⟩
      go_wp2_with (fail)
      refine (HH.out.2.2.2.1 _).mono ?_
      rintro e w2 ⟨c, hc, rfl, k2, b2⟩
      have S2 := Hb.new (HE.out.below B1) hc k2 b2
      clear k2 b2
      have c0 : 0 < c := by have := S2.n0; omega
      go_wp2_with (fail)
      refine (HH.out.2.2.2.2.1 c _ S2.k S2.t c0).mono ?_
      rintro e w3 ⟨rfl, k3, g3⟩
      have S3 := S2.step k3 g3
      clear S2 k3 g3
      go_wp2_with (fail)
      refine (HH.out.2.2.2.2.2.1 _).mono ?_
      rintro e w4 ⟨rfl, b4⟩
      have S4 := S3.below b4
      clear S3 b4
      go_wp2_with (fail)
      refine (HH.out.2.2.2.2.2.2 _).mono ?_
      rintro e w' ⟨rfl, rfl⟩
      go_wp2_with (fail)
      refine (HG.out.1 c _ (S4.alloc _).k (S4.alloc _).t).mono ?_
      rintro e w5 ⟨rfl, k5, g5⟩
      have S5 := (S4.alloc _).step k5 g5
      clear S4 k5 g5
      have hl5 := S5.k.lt
      go_wp2_with (fail)
      refine (HG.out.2.1 c _ (S5.alloc _).k).mono ?_
      rintro e w' ⟨v, g, rfl, rfl⟩
      go_wp2_with (fail)
      refine (HG.out.2.2 c _ (S5.alloc _).k).mono ?_
      rintro e w' ⟨rfl, rfl⟩
      go_wp2
      go_ret
      exact ⟨rfl, B1.trans ((S5.alloc _).b.mono B1.size)⟩
    · skip
      have hN2 : nv = 2 * (t : Int) := by rw [hnx2]; rfl
      have hr := fun c w1 => hbent c w1 (2 * (t : Int)) hN2 (by omega)
      have hpc : ∀ c w1, HAt c { W.KB a b with G := W.trap (W.KB a b).G 0 (2 * (t : Int)) (W.KB a b).pc, pc := (W.KB a b).G.tvec } w1 → Calls Tryz.prog 24 #[.pointer (some ⟨c, 0, none⟩)] w1 fun z w' => z = .returned (.int .u32 0) ∧ w1 = w' := fun c w1 k => by
        have := pc_any c _ w1 k
        dsimp only at this
        rw [hG] at this
        exact this
      have hget : ∀ c w1, HAt c { W.KB a b with G := W.trap (W.KB a b).G 0 (2 * (t : Int)) (W.KB a b).pc, pc := (W.KB a b).G.tvec } w1 → Calls Tryz.prog 28 #[.pointer (some ⟨c, 0, none⟩), .int .i64 833] w1 fun z w' => ∃ g, z = .returned (.tuple #[.int .u32 16, .bool g]) ∧ w1 = w' := fun c w1 k => by
        have hv : W.getV (W.trap (W.KB a b).G 0 (2 * (t : Int)) (W.KB a b).pc) 833 = 16 := by rw [hpc0]; rfl
        have hq := get_any _ c _ 833 w1 k
        dsimp only at hq
        rw [hv] at hq
        exact hq.mono fun z w' ⟨h1, h2⟩ => ⟨_, h1, h2⟩
      clear hrep hbent hnx2 hN2 hG hpc0
      generalize ({ W.KB a b with G := W.trap (W.KB a b).G 0 (2 * (t : Int)) (W.KB a b).pc, pc := (W.KB a b).G.tvec } : W.Ht) = h2 at *
      generalize W.KB a b = h1 at *
      generalize W.H0 0 4096 = h0 at *
      have HH : Hid (_ ∧ _ ∧ _ ∧ _ ∧ _ ∧ _ ∧ _) := ⟨hF, hn1, hn2, hN, hput, hwd, htk⟩
      have HG : Hid (_ ∧ _ ∧ _) := ⟨hr, hget, hpc⟩
      clear hF hn1 hn2 hN hput hwd htk hr hget hpc
      go_enter Tryz.func7, Tryz.ntmps7
      go_wp2_with (fail)
      refine HH.out.1.mono ?_
      rintro e w1 ⟨rfl, B1⟩
      go_wp2_with (fail)
      refine (HH.out.2.1 _).mono ?_
      rintro e w' ⟨rfl, rfl⟩
      go_wp2_with (fail)
      refine (HH.out.2.2.1 _).mono ?_
      rintro e w' ⟨rfl, rfl⟩
      go_wp2_with (fail)
      refine (HH.out.2.2.2.1 _).mono ?_
      rintro e w2 ⟨c, hc, rfl, k2, b2⟩
      have S2 := Hb.new (HE.out.below B1) hc k2 b2
      clear k2 b2
      have c0 : 0 < c := by have := S2.n0; omega
      go_wp2_with (fail)
      refine (HH.out.2.2.2.2.1 c _ S2.k S2.t c0).mono ?_
      rintro e w3 ⟨rfl, k3, g3⟩
      have S3 := S2.step k3 g3
      clear S2 k3 g3
      go_wp2_with (fail)
      refine (HH.out.2.2.2.2.2.1 _).mono ?_
      rintro e w4 ⟨rfl, b4⟩
      have S4 := S3.below b4
      clear S3 b4
      go_wp2_with (fail)
      refine (HH.out.2.2.2.2.2.2 _).mono ?_
      rintro e w' ⟨rfl, rfl⟩
      go_wp2_with (fail)
      refine (HG.out.1 c _ (S4.alloc _).k (S4.alloc _).t).mono ?_
      rintro e w5 ⟨rfl, k5, g5⟩
      have S5 := (S4.alloc _).step k5 g5
      clear S4 k5 g5
      have hl5 := S5.k.lt
      go_wp2_with (fail)
      refine (HG.out.2.1 c _ (S5.alloc _).k).mono ?_
      rintro e w' ⟨g, rfl, rfl⟩
      go_wp2_with (fail)
      refine (HG.out.2.2 c _ (S5.alloc _).k).mono ?_
      rintro e w' ⟨rfl, rfl⟩
      go_wp2
      go_ret
      exact ⟨rfl, B1.trans ((S5.alloc _).b.mono B1.size)⟩
end Go.Proofs.YtpgegcboaicnaaaGreatDoor
