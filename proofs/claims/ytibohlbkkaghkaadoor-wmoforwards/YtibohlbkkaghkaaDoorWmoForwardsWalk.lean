/- WmoForwards. -/
import Derived.Test.YtibohlbkkaghkaaDoorWmoU2
import Derived.Test.YtibohlbkkaghkaaDoorWmoW
namespace Go.Proofs.YtibohlbkkaghkaaDoor
open Go.ChangeShapes Go.WideShapes Go.ChangeAt Go.RowKit Go.Maps
set_option linter.unusedVariables false
set_option linter.unusedSimpArgs false

namespace W
def LLw (a b : Int) : List (List Opr) := [[oW 4 0 a, oR 4 0 a], [oW 4 0 b]]
def r1 : List (Nat × Nat) := [(0, 1), (1, 0), (0, 0)]
def r2 : List (Nat × Nat) := [(1, 0), (0, 1), (0, 0)]
def r3 : List (Nat × Nat) := [(0, 0), (1, 0), (0, 1)]
/-- A word out of its bytes. -/
def wd (a : Int) : Int := 0 + bta a 0 * 2 ^ (8 * 0) + bta a 1 * 2 ^ (8 * 1) + bta a 2 * 2 ^ (8 * 2) + bta a 3 * 2 ^ (8 * 3)
theorem wd_eq (a : Int) (h0 : 0 ≤ a) (h1 : a < 4294967296) : wd a = a := by
  unfold wd bta
  simp only [Nat.mul_zero, Nat.mul_one, Nat.reduceMul, Int.reducePow, Int.pow_zero]
  omega
theorem ckw1 (a b : Int) : ckE (LLw a b) r1 = true := by kernel_rfl
theorem ckw2 (a b : Int) : ckE (LLw a b) r2 = true := by kernel_rfl
theorem ckw3 (a b : Int) : ckE (LLw a b) r3 = true := by kernel_rfl
theorem tuw1 (a b : Int) : tuM (LLw a b) r1 = 0 := by kernel_rfl
theorem tuw2 (a b : Int) : tuM (LLw a b) r2 = 0 := by kernel_rfl
theorem tuw3 (a b : Int) : tuM (LLw a b) r3 = 0 := by kernel_rfl
theorem rdw1 (a b : Int) : rdV (stM (LLw a b) r1) 1 4 = wd a := by kernel_rfl
theorem rdw2 (a b : Int) : rdV (stM (LLw a b) r2) 2 4 = wd a := by kernel_rfl
theorem rdw3 (a b : Int) : rdV (stM (LLw a b) r3) 3 4 = wd b := by kernel_rfl
theorem not_rd {q : Nat → StR} {p : Nat} (h : rds (q p).o.k = false) : okR q p := fun e => by rw [h] at e; cases e
theorem okw1 (a b : Int) (h0 : 0 ≤ a) (h1 : a < 4294967296) (p : Nat) (hp : p < 4) : okR (stM (LLw a b) r1) p := by
  match p, hp with
  | 0, _ => exact not_rd (by kernel_rfl)
  | 1, _ => exact fun _ => ((rdw1 a b).trans (wd_eq a h0 h1)).symm
  | 2, _ => exact not_rd (by kernel_rfl)
  | 3, _ => exact not_rd (by kernel_rfl)
theorem okw2 (a b : Int) (h0 : 0 ≤ a) (h1 : a < 4294967296) (p : Nat) (hp : p < 4) : okR (stM (LLw a b) r2) p := by
  match p, hp with
  | 0, _ => exact not_rd (by kernel_rfl)
  | 1, _ => exact not_rd (by kernel_rfl)
  | 2, _ => exact fun _ => ((rdw2 a b).trans (wd_eq a h0 h1)).symm
  | 3, _ => exact not_rd (by kernel_rfl)
theorem okw3 (a b : Int) (p : Nat) (hp : p < 3) : okR (stM (LLw a b) r3) p := by
  match p, hp with
  | 0, _ => exact not_rd (by kernel_rfl)
  | 1, _ => exact not_rd (by kernel_rfl)
  | 2, _ => exact not_rd (by kernel_rfl)
theorem okw3e (a b : Int) (h0 : 0 ≤ b) (h1 : b < 4294967296) : okR (stM (LLw a b) r3) 3 ↔ a = b := by
  have e : okR (stM (LLw a b) r3) 3 ↔ a = rdV (stM (LLw a b) r3) 3 4 := ⟨fun h => h (by kernel_rfl), fun h _ => h⟩
  rw [e, rdw3, wd_eq b h0 h1]
theorem okp1 (a b : Int) (p : Nat) (hp : p < 4) : okP (stM (LLw a b) r1) p := by
  match p, hp with
  | 0, _ => exact (okPb_iff _ _).1 (by kernel_rfl)
  | 1, _ => exact (okPb_iff _ _).1 (by kernel_rfl)
  | 2, _ => exact (okPb_iff _ _).1 (by kernel_rfl)
  | 3, _ => exact (okPb_iff _ _).1 (by kernel_rfl)
theorem okp2 (a b : Int) (p : Nat) (hp : p < 4) : okP (stM (LLw a b) r2) p := by
  match p, hp with
  | 0, _ => exact (okPb_iff _ _).1 (by kernel_rfl)
  | 1, _ => exact (okPb_iff _ _).1 (by kernel_rfl)
  | 2, _ => exact (okPb_iff _ _).1 (by kernel_rfl)
  | 3, _ => exact (okPb_iff _ _).1 (by kernel_rfl)
theorem okp3 (a b : Int) (p : Nat) (hp : p < 4) : okP (stM (LLw a b) r3) p := by
  match p, hp with
  | 0, _ => exact (okPb_iff _ _).1 (by kernel_rfl)
  | 1, _ => exact (okPb_iff _ _).1 (by kernel_rfl)
  | 2, _ => exact (okPb_iff _ _).1 (by kernel_rfl)
  | 3, _ => exact (okPb_iff _ _).1 (by kernel_rfl)
theorem vlw (a b : Int) (a0 : 0 ≤ a) (a1 : a < 4294967296) (b0 : 0 ≤ b) (b1 : b < 4294967296) (h i : Nat) : 0 ≤ (xM (LLw a b) h i).o.vl ∧ (xM (LLw a b) h i).o.vl < 4294967296 :=
  vl_2 _ _ (fun o ho => by
    simp only [List.mem_cons, List.mem_nil_iff, or_false] at ho
    rcases ho with rfl | rfl
    · exact ⟨a0, a1⟩
    · exact ⟨Int.le_refl _, (by decide : (0 : Int) < 4294967296)⟩) (fun o ho => by
    simp only [List.mem_cons, List.mem_nil_iff, or_false] at ho
    rcases ho with rfl
    exact ⟨b0, b1⟩) h i
end W
theorem bdO_wv (v : Int) (w : World) : (bdO #[(0, .int .i64 2), (1, .int .i64 4), (3, .int .u32 v)]).run Tryd.prog w = .ok (.agg (opN (W.oW 4 0 v))) w := by kernel_rfl
theorem bdO_rv (v : Int) (w : World) : (bdO #[(0, .int .i64 1), (1, .int .i64 4), (4, .int .u32 v)]).run Tryd.prog w = .ok (.agg (opN (W.oR 4 0 v))) w := by kernel_rfl
attribute [local go_sem ↓] bdO_eq bsO_eq ldO_eq
set_option maxRecDepth 10000 in
set_option maxHeartbeats 1600000 in
theorem forwards_any (A : Nat → Addr) (a b : Int) (a0 : 0 ≤ a) (a1 : a < 4294967296) (b0 : 0 ≤ b) (b1 : b < 4294967296) (w : World) (hS : Sent A w) :
    Calls Tryd.prog 4 #[.int .u32 a, .int .u32 b] w fun e w' => e = .returned (.bool true) ∧ Below w.heap.size w w' := by
  have q1 := bdO_wv
  have q2 := bdO_rv
  have q4 := bsO_1
  have q5 := bsO_2
  have HH : Hid (Calls _ _ _ _ _ ∧ _) := ⟨first14_any A w hS, hS⟩
  clear hS
  go_enter Tryd.func4, Tryd.ntmps4
  go_wp2_with (fail)
  refine HH.out.1.mono ?_
  rintro e w1 ⟨rfl, bw1⟩
  have M0 := mh_2 w1 [W.oW 4 0 a, W.oR 4 0 a] [W.oW 4 0 b] 2 1 rfl rfl 34
  have Bn : Below w1.heap.size w1 (((w1.alloc (.cells (opsR [W.oW 4 0 a, W.oR 4 0 a]) 38)).alloc (.cells (opsR [W.oW 4 0 b]) 38)).alloc (.cells #[.slice (some ⟨w1.heap.size, 0, none⟩) 2 2, .slice (some ⟨w1.heap.size + 1, 0, none⟩) 1 1] 34)) := (((Below.refl _ _).alloc (Nat.le_refl _) _).alloc (by simp) _).alloc (by simp; omega) _
  have Bm := bw1.trans (Bn.mono bw1.size)
  have HM : Hid (_ ∧ _ ∧ _) := ⟨M0, Bm, HH.out.2.below Bm⟩
  clear M0 Bm Bn bw1 HH
  go_wp2_with (fail)
  generalize hb : w1.heap.size + 1 + 1 = hbk at *
  generalize World.alloc _ _ = W1 at *
  refine (bytesOf_nil W1).mono ?_
  rintro e w2 ⟨⟨cb, rfl, hcb, hF⟩, bb⟩
  have B2 := HM.out.2.1.trans (bb.mono HM.out.2.1.size)
  have M2 := HM.out.1.below bb
  have S2 := HM.out.2.2.below bb
  have mem : ∀ w3, Below w2.heap.size w2 w3 → ∀ r : List (Nat × Nat), ∀ x0 x1 x2 x3 x4 x5 : Nat, r = [(x0, x1), (x2, x3), (x4, x5)] → Mem hbk w3.heap.size cb (W.LLw a b) r (fun h => w1.heap.size + h) A (w3.alloc (.cells #[.int .i64 (x0 : Int), .int .i64 (x1 : Int), .int .i64 (x2 : Int), .int .i64 (x3 : Int), .int .i64 (x4 : Int), .int .i64 (x5 : Int)] 41)) := fun w3 h3 r x0 x1 x2 x3 x4 x5 e => by
    have al3 := h3.alloc h3.size (.cells #[.int .i64 (x0 : Int), .int .i64 (x1 : Int), .int .i64 (x2 : Int), .int .i64 (x3 : Int), .int .i64 (x4 : Int), .int .i64 (x5 : Int)] 41)
    rw [e]
    exact ⟨(M2.below al3).bl, (M2.below al3).o, (M2.below al3).i, by simp, or_3 w3 x0 x1 x2 x3 x4 x5 41, hF.below al3, S2.below al3⟩
  have vl := W.vlw a b a0 a1 b0 b1
  have ok1 := check2_ok hbk _ 2 _ _ _ _ _ _ _ 3 _ cb A _ ((mem w2 (Below.refl _ _) W.r1 0 1 1 0 0 0 rfl).ckE 2 (W.ckw1 a b) vl) (W.tuw1 a b) 4 rfl 4 rfl (W.okw1 a b a0 a1) (fun h => absurd h (by decide)) (W.okp1 a b) (fun h => absurd h (by decide))
  have ok2 := fun w3 h3 => check2_ok hbk _ 2 _ _ _ _ _ _ _ 3 _ cb A _ ((mem w3 h3 W.r2 1 0 0 1 0 0 rfl).ckE 2 (W.ckw2 a b) vl) (W.tuw2 a b) 4 rfl 4 rfl (W.okw2 a b a0 a1) (fun h => absurd h (by decide)) (W.okp2 a b) (fun h => absurd h (by decide))
  have H2 : Hid (_ ∧ _ ∧ _) := ⟨ok1, ok2, B2⟩
  by_cases hab : a = b
  · have ok3 := fun w3 h3 => check2_ok hbk _ 2 _ _ _ _ _ _ _ 3 _ cb A _ ((mem w3 h3 W.r3 0 0 1 0 0 1 rfl).ckE 2 (W.ckw3 a b) vl) (W.tuw3 a b) 4 rfl 4 rfl (fun p hp => by
      by_cases h3 : p = 3
      · rw [h3]; exact (W.okw3e a b b0 b1).2 hab
      · exact W.okw3 a b p (by omega)) (fun h => absurd h (by decide)) (W.okp3 a b) (fun h => absurd h (by decide))
    have H3 : Hid _ := ok3
    clear ok1 ok2 ok3 B2 M2 hF bb hcb HM mem S2 vl
    have hq : (a == b) = true := by simpa using hab
    clear hab
    generalize fvZ cb = FV at *
    go_wp2_with (fail)
    refine H2.out.1.mono ?_
    rintro e w3 ⟨rfl, b3⟩
    have b4 := ((Below.refl w2.heap.size w2).alloc (Nat.le_refl _) _).trans (b3.mono (by simp))
    clear b3
    go_wp2_with (fail)
    refine (H2.out.2.1 _ b4).mono ?_
    rintro e w5 ⟨rfl, b5⟩
    have b6 := b4.trans ((((Below.refl _ _).alloc (Nat.le_refl _) _).trans (b5.mono (by simp))).mono b4.size)
    clear b5 b4
    go_wp2_with (fail)
    refine (H3.out _ b6).mono ?_
    rintro e w7 ⟨rfl, b7⟩
    have B8 := H2.out.2.2.trans ((b6.trans ((((Below.refl _ _).alloc (Nat.le_refl _) _).trans (b7.mono (by simp))).mono b6.size)).mono H2.out.2.2.size)
    clear b6 b7 H2 H3
    go_wp2
    go_ret
    exact ⟨rfl, B8⟩
  · have ok3 := fun w3 h3 => check2_val hbk _ 2 _ _ _ _ _ _ _ 3 _ cb A _ ((mem w3 h3 W.r3 0 0 1 0 0 1 rfl).ckE 2 (W.ckw3 a b) vl) (W.tuw3 a b) 3 ⟨by decide, by decide⟩ 4 (by decide) (W.okw3 a b) (fun _ h => hab ((W.okw3e a b b0 b1).1 h)) (W.okp3 a b) (fun h => absurd h (by decide))
    have H3 : Hid _ := ok3
    clear ok1 ok2 ok3 B2 M2 hF bb hcb HM mem S2 vl
    have hq : (a == b) = false := by simpa using hab
    clear hab
    generalize fvZ cb = FV at *
    go_wp2_with (fail)
    refine H2.out.1.mono ?_
    rintro e w3 ⟨rfl, b3⟩
    have b4 := ((Below.refl w2.heap.size w2).alloc (Nat.le_refl _) _).trans (b3.mono (by simp))
    clear b3
    go_wp2_with (fail)
    refine (H2.out.2.1 _ b4).mono ?_
    rintro e w5 ⟨rfl, b5⟩
    have b6 := b4.trans ((((Below.refl _ _).alloc (Nat.le_refl _) _).trans (b5.mono (by simp))).mono b4.size)
    clear b5 b4
    go_wp2_with (fail)
    refine (H3.out _ b6).mono ?_
    rintro e w7 ⟨⟨q, rfl, hq7⟩, b7⟩
    have B8 := H2.out.2.2.trans ((b6.trans ((((Below.refl _ _).alloc (Nat.le_refl _) _).trans (b7.mono (by simp))).mono b6.size)).mono H2.out.2.2.size)
    clear b6 b7 H2 H3 hq7
    go_wp2
    go_ret
    exact ⟨rfl, B8⟩
end Go.Proofs.YtibohlbkkaghkaaDoor
