/- Texts in one: DgD, NuA, DgE, NuD, TxA, AsmQ. -/
import Derived.Test.YtmihcicepgjogaaGreatDoorJ11
import Derived.Test.YtmihcicepgjogaaGreatDoorJ19
import Derived.Test.YtmihcicepgjogaaGreatDoorJ20
/- The document's digits, other cases. -/
namespace Go.Proofs.YtmihcicepgjogaaGreatDoor
open Go.ChangeShapes Go.WideShapes Go.ChangeAt Go.RowKit
set_option linter.unusedVariables false
set_option linter.unusedSimpArgs false

set_option maxRecDepth 1000000 in
set_option maxHeartbeats 1600000 in
theorem digits_n10 (L : List UInt8) (hmax : L.length ≤ 1000) (w : World) : Calls Tryz.prog 72 #[.string ⟨(45 :: L).toArray⟩, .int .i64 10] w fun e w' => e = .returned (.tuple #[.int .i64 (W.fin true L (W.dgs 10 0 L)).1, .bool (W.fin true L (W.dgs 10 0 L)).2]) ∧ w' = w := by
  generalize hR : W.fin true L (W.dgs 10 0 L) = R
  have HR : Hid (W.fin true L (W.dgs 10 0 L) = R) := hR
  have hsl : ∀ w, (Instr.slice 9 (.string ⟨(45 :: L).toArray⟩) (some (.int .i64 1)) none none).run Tryz.prog w = .ok (.string ⟨L.toArray⟩) w := slice_tail L
  clear hR
  go_enter Tryz.func72, Tryz.ntmps72
  go_wp2
  go_loop [7, 8, 9] (fun vn vi vd => ∃ (k : Nat) (n : Int), k ≤ L.length ∧ vi = .int .i64 k ∧ vn = .int .i64 n ∧ n ≤ 0 ∧ -9223372036854775808 ≤ n ∧ Hid (W.dgs 10 0 L = W.dgs 10 n (L.drop k))) (fun _ vi _ => L.length - (intOf vi).toNat)
  case atStart => exact ⟨0, 0, by omega, rfl, rfl, by decide, by decide, rfl⟩
  case round =>
    obtain ⟨k, n, hk, rfl, rfl, hn0, hn1, hi⟩ := hrel
    by_cases hkn : k < L.length
    · have hki : (k : Int) < (L.length : Int) := by omega
      obtain ⟨c, hc⟩ : ∃ c, L[k]'hkn = c := ⟨_, rfl⟩
      have hck : ((⟨L.toArray⟩ : ByteArray)[k]'(by rw [ba_len]; exact hkn)) = c := hc
      have hst : W.dgs 10 n (L.drop k) = if 10 ≤ W.dgV c.toNat ∨ n < (-9223372036854775808 + W.dgV c.toNat).tdiv 10 then none else W.dgs 10 (n * 10 - W.dgV c.toNat) (L.drop (k + 1)) := by
        rw [dg_drop L k hkn, hc]; rfl
      have hi2 := hi.out.trans hst
      clear hi hst hc
      have c256 : c.toNat < 256 := c.toNat_lt
      by_cases t0 : c.toNat ≤ 47
      · have hd : W.dgV c.toNat = (c.toNat : Int) + 208 := by unfold W.dgV; split <;> omega
        rw [hd] at hi2
        rw [if_pos (Or.inl (by omega))] at hi2
        have Hi : Hid (_ = _) := hi2
        clear hi2 hd
        go_wp2
        exact bodyPost_ret (v := .tuple #[.int .i64 0, .bool false]) (by simp [results, Tryz.results72, go_sem]) rfl ⟨by rw [← HR.out, Hi.out]; rfl, rfl⟩
      · skip
        by_cases t1 : c.toNat ≤ 57
        · have hd : W.dgV c.toNat = (c.toNat : Int) - 48 := by unfold W.dgV; split <;> omega
          rw [hd] at hi2
          have hq := W.tdiv_neg10 (-9223372036854775808 + ((c.toNat : Int) - 48)) (by omega)
          obtain ⟨q, hQ⟩ : ∃ q, (-9223372036854775808 + ((c.toNat : Int) - 48)).tdiv 10 = q := ⟨_, rfl⟩
          rw [hQ] at hi2 hq
          by_cases hlt : n < q
          · rw [if_pos (Or.inr hlt)] at hi2
            have Hi : Hid (_ = _) := hi2
            clear hi2 hd
            go_wp2
            exact bodyPost_ret (v := .tuple #[.int .i64 0, .bool false]) (by simp [results, Tryz.results72, go_sem]) rfl ⟨by rw [← HR.out, Hi.out]; rfl, rfl⟩
          · rw [if_neg (by omega)] at hi2
            have Hi : Hid (_ = _) := hi2
            clear hi2 hd
            go_wp2
            go_round
            case rel => exact ⟨_, _, _, _, ⟨k + 1, by omega, by go_num, _, rfl, by omega, by omega, Hi.out⟩, rfl, rfl, rfl, rfl⟩
            case measure => simp [intOf]; omega
        · skip
          by_cases t2 : c.toNat ≤ 96
          · have hd : W.dgV c.toNat = (c.toNat : Int) - 48 := by unfold W.dgV; split <;> omega
            rw [hd] at hi2
            rw [if_pos (Or.inl (by omega))] at hi2
            have Hi : Hid (_ = _) := hi2
            clear hi2 hd
            go_wp2
            exact bodyPost_ret (v := .tuple #[.int .i64 0, .bool false]) (by simp [results, Tryz.results72, go_sem]) rfl ⟨by rw [← HR.out, Hi.out]; rfl, rfl⟩
          · have hd : W.dgV c.toNat = (c.toNat : Int) - 97 + 10 := by unfold W.dgV; split <;> omega
            rw [hd] at hi2
            rw [if_pos (Or.inl (by omega))] at hi2
            have Hi : Hid (_ = _) := hi2
            clear hi2 hd
            go_wp2
            exact bodyPost_ret (v := .tuple #[.int .i64 0, .bool false]) (by simp [results, Tryz.results72, go_sem]) rfl ⟨by rw [← HR.out, Hi.out]; rfl, rfl⟩
    · obtain rfl : k = L.length := by omega
      have hi2 := hi.out
      rw [List.drop_length] at hi2
      have Hi : Hid (_ = _) := hi2
      clear hi hi2
      by_cases hz : L = []
      · have hz1 : (L == []) = true := by rw [hz]; rfl
        go_wp2
        exact bodyPost_ret (v := .tuple #[.int .i64 0, .bool false]) (by simp [results, Tryz.results72, go_sem]) rfl ⟨by rw [← HR.out, Hi.out]; simp [W.dgs, W.fin, hz], rfl⟩
      · have hz1 : (L == []) = false := by cases L <;> simp_all
        go_wp2
        exact bodyPost_ret (v := .tuple #[.int .i64 n, .bool true]) (by simp [results, Tryz.results72, go_sem]) rfl ⟨by rw [← HR.out, Hi.out]; simp [W.dgs, W.fin, hz], rfl⟩
end Go.Proofs.YtmihcicepgjogaaGreatDoor

/- The numbers in a text: the mirror, and its steps. -/
namespace Go.Proofs.YtmihcicepgjogaaGreatDoor
open Go.ChangeShapes Go.WideShapes Go.ChangeAt Go.RowKit
set_option linter.unusedVariables false
set_option linter.unusedSimpArgs false

namespace W
def isD (c : UInt8) : Bool := decide (48 ≤ c.toNat) && decide (c.toNat ≤ 57)
def isH (c : UInt8) : Bool := isD c || (decide (97 ≤ c.toNat) && decide (c.toNat ≤ 102))
def skips (c : UInt8) : Bool := !(isD c) && !(c == 45)
def dg16 (h : List UInt8) : Int × Bool := fin false h (dgs 16 0 h)
def cons1 (p : Int × Bool) (o : Option (List Int)) : Option (List Int) := bif p.2 then o.map (p.1 :: ·) else none
def nums : Nat → List UInt8 → Option (List Int)
  | 0, _ => some []
  | f + 1, [] => some []
  | f + 1, c :: r => bif skips c then nums f r else bif (c == 48) && (r.head? == some 120) then cons1 (dg16 (r.tail.takeWhile isH)) (nums f (r.tail.dropWhile isH)) else cons1 (dgR 10 (c :: r.takeWhile isD)) (nums f (r.dropWhile isD))
def numsL (M : List UInt8) : Option (List Int) := nums M.length M
theorem drop_len (p : UInt8 → Bool) (M : List UInt8) : (M.dropWhile p).length ≤ M.length := (List.dropWhile_sublist p).length_le
theorem nums_fuel : ∀ f g (M : List UInt8), M.length ≤ f → M.length ≤ g → nums f M = nums g M := by
  intro f
  induction f with
  | zero =>
    intro g M hf _
    obtain rfl : M = [] := List.length_eq_zero_iff.1 (by omega)
    cases g <;> rfl
  | succ f ih =>
    intro g M hf hg
    cases M with
    | nil => cases g <;> rfl
    | cons c r =>
      cases g with
      | zero => simp at hg
      | succ g =>
        simp only [List.length_cons] at hf hg
        have h1 := drop_len isH r.tail
        have h2 := drop_len isD r
        have h3 : r.tail.length ≤ r.length := by simp
        show (bif skips c then nums f r else _) = (bif skips c then nums g r else _)
        rw [ih g r (by omega) (by omega), ih g (r.tail.dropWhile isH) (by omega) (by omega), ih g (r.dropWhile isD) (by omega) (by omega)]
theorem numsL_nil : numsL [] = some [] := rfl
theorem numsL_cons (c : UInt8) (r : List UInt8) : numsL (c :: r) = bif skips c then numsL r else bif (c == 48) && (r.head? == some 120) then cons1 (dg16 (r.tail.takeWhile isH)) (numsL (r.tail.dropWhile isH)) else cons1 (dgR 10 (c :: r.takeWhile isD)) (numsL (r.dropWhile isD)) := by
  have h1 := drop_len isH r.tail
  have h2 := drop_len isD r
  have h3 : r.tail.length ≤ r.length := by simp
  show nums (r.length + 1) (c :: r) = _
  unfold numsL
  rw [← nums_fuel r.length (r.tail.dropWhile isH).length _ (by omega) (Nat.le_refl _), ← nums_fuel r.length (r.dropWhile isD).length _ (by omega) (Nat.le_refl _)]
  rfl
/-- How far a run of signs goes: to e. -/
structure Run (p : UInt8 → Bool) (L : List UInt8) (a e : Nat) : Prop where
  le : a ≤ e
  lt : e ≤ L.length
  all : ∀ j, a ≤ j → j < e → ∀ h : j < L.length, p (L[j]'h) = true
theorem Run.start (p : UInt8 → Bool) (L : List UInt8) (a : Nat) (h : a ≤ L.length) : Run p L a a := ⟨Nat.le_refl _, h, fun j h1 h2 => absurd h1 (by omega)⟩
theorem Run.next {p : UInt8 → Bool} {L : List UInt8} {a e : Nat} (h : Run p L a e) (he : e < L.length) (hp : p (L[e]'he) = true) : Run p L a (e + 1) :=
  ⟨by have := h.le; omega, he, fun j h1 h2 h3 => by
    by_cases hj : j = e
    · subst hj; exact hp
    · exact h.all j h1 (by omega) h3⟩
theorem take_run (p : UInt8 → Bool) : ∀ (M : List UInt8) (n : Nat), n ≤ M.length → (∀ j, j < n → ∀ h : j < M.length, p (M[j]'h) = true) → (∀ h : n < M.length, p (M[n]'h) = false) → M.takeWhile p = M.take n ∧ M.dropWhile p = M.drop n
  | [], n, h1, _, _ => by cases n with | zero => exact ⟨rfl, rfl⟩ | succ n => simp at h1
  | c :: r, 0, _, _, h3 => by
    have := h3 (by simp)
    simp only [List.getElem_cons_zero] at this
    simp [List.takeWhile, List.dropWhile, this]
  | c :: r, n + 1, h1, h2, h3 => by
    have hc := h2 0 (by omega) (by simp)
    simp only [List.getElem_cons_zero] at hc
    have ih := take_run p r n (by simpa using h1) (fun j hj h => by have := h2 (j + 1) (by omega) (by simpa using h); simpa using this) (fun h => by have := h3 (by simpa using h); simpa using this)
    simp [List.takeWhile, List.dropWhile, hc, ih.1, ih.2]
theorem Run.done {p : UInt8 → Bool} {L : List UInt8} {a e : Nat} (h : Run p L a e) (hp : ∀ he : e < L.length, p (L[e]'he) = false) : (L.drop a).takeWhile p = (L.drop a).take (e - a) ∧ (L.drop a).dropWhile p = L.drop e := by
  have h1 := h.le
  have h2 := h.lt
  have := take_run p (L.drop a) (e - a) (by simp; omega) (fun j hj hl => by
    rw [List.getElem_drop]
    exact h.all (a + j) (by omega) (by omega) (by simp at hl; omega)) (fun hl => by
    rw [List.getElem_drop]
    have e1 : a + (e - a) = e := by omega
    simp only [e1]
    exact hp (by simp at hl; omega))
  refine ⟨this.1, ?_⟩
  rw [this.2, List.drop_drop]
  congr 1
  omega
end W
end Go.Proofs.YtmihcicepgjogaaGreatDoor

/- Digits of a number are read back. -/
namespace Go.Proofs.YtmihcicepgjogaaGreatDoor.W
open Go.RowKit
set_option linter.unusedVariables false

theorem dgs_append (base : Int) : ∀ (L M : List UInt8) (n : Int), dgs base n (L ++ M) = (dgs base n L).bind fun m => dgs base m M
  | [], M, n => rfl
  | c :: r, M, n => by
    show dgs base n (c :: (r ++ M)) = _
    rw [dgs_step, dgs_step]
    split
    · rfl
    · exact dgs_append base r M _
theorem dgs_one (n : Int) (c : UInt8) (d : Nat) (hd : d < 10) (hc : c.toNat = 48 + d) (h : -9223372036854775808 ≤ n * 10 - d) (hn : n ≤ 0) : dgs 10 n [c] = some (n * 10 - d) := by
  have hv : dgV c.toNat = d := by unfold dgV; rw [hc]; split <;> omega
  have hq := tdiv_neg10 (-9223372036854775808 + (d : Int)) (by omega)
  rw [dgs_step, hv]
  have hq2 : ¬ n < (-9223372036854775808 + (d : Int)).tdiv 10 := by
    obtain ⟨y, hy⟩ : ∃ y, -9223372036854775808 + (d : Int) = -y := ⟨9223372036854775808 - d, by omega⟩
    rw [hy, Int.neg_tdiv, Int.tdiv_eq_ediv_of_nonneg (by omega)]
    omega
  rw [if_neg (by omega)]
  rfl
theorem dgs_dec (u : Nat) (h : u ≤ 9223372036854775808) : dgs 10 0 (Lib.decDigits u) = some (-(u : Int)) := by
  induction u using Nat.strongRecOn with
  | ind u ih =>
    rw [Lib.decDigits]
    split
    · rename_i hu
      rw [dgs_one 0 _ u hu (by first | rfl | (simp; omega)) (by omega) (by decide)]
      congr 1
      omega
    · rename_i hu
      rw [dgs_append, ih (u / 10) (by omega) (by omega), Option.bind_some, dgs_one _ _ (u % 10) (by omega) (by first | rfl | (simp; omega)) (by omega) (by omega)]
      congr 1
      omega
end Go.Proofs.YtmihcicepgjogaaGreatDoor.W

/- Numbers in a text are read back: one by one. -/
namespace Go.Proofs.YtmihcicepgjogaaGreatDoor.W
open Go.RowKit
set_option linter.unusedVariables false
set_option linter.unusedSimpArgs false

theorem isD_iff (c : UInt8) : isD c = true ↔ 48 ≤ c.toNat ∧ c.toNat ≤ 57 := by simp [isD]
theorem dec_isD (u : Nat) : ∀ c ∈ Lib.decDigits u, isD c = true := by
  induction u using Nat.strongRecOn with
  | ind u ih =>
    intro c hc
    rw [Lib.decDigits] at hc
    split at hc
    · rename_i hu
      simp at hc
      subst hc
      rw [isD_iff]
      simp
      omega
    · rename_i hu
      rw [List.mem_append] at hc
      rcases hc with hc | hc
      · exact ih (u / 10) (by omega) c hc
      · simp at hc
        subst hc
        rw [isD_iff]
        simp
        omega
theorem dec_ne (u : Nat) : ∃ c t, Lib.decDigits u = c :: t := by
  rw [Lib.decDigits]
  split
  · exact ⟨_, _, rfl⟩
  · cases h : Lib.decDigits (u / 10) with
    | nil => exact ⟨_, _, rfl⟩
    | cons c t => exact ⟨c, t ++ _, rfl⟩
/-- What stands behind a number: no digit, and no 'x'. -/
def stops (r : List UInt8) : Prop := ∀ c, r.head? = some c → isD c = false ∧ ¬ c = 120
theorem tw_app (p : UInt8 → Bool) : ∀ (t r : List UInt8), (∀ c ∈ t, p c = true) → (∀ c, r.head? = some c → p c = false) → (t ++ r).takeWhile p = t ∧ (t ++ r).dropWhile p = r
  | [], [], _, _ => ⟨rfl, rfl⟩
  | [], c :: r, _, h => by
    have := h c rfl
    simp [List.takeWhile, List.dropWhile, this]
  | c :: t, r, h1, h2 => by
    have hc := h1 c (by simp)
    have ih := tw_app p t r (fun x hx => h1 x (by simp [hx])) h2
    simp [List.takeWhile, List.dropWhile, hc, ih.1, ih.2]
theorem fin_dec (u : Nat) (h : u < 9223372036854775808) : fin false (Lib.decDigits u) (dgs 10 0 (Lib.decDigits u)) = ((u : Int), true) := by
  obtain ⟨c, t, hd⟩ := dec_ne u
  rw [dgs_dec u (by omega), fin, if_neg (by rw [hd]; simp), if_neg (by decide), if_neg (by omega)]
  simp
theorem numsL_skip (c : UInt8) (r : List UInt8) (h : skips c = true) : numsL (c :: r) = numsL r := by rw [numsL_cons, h, cond_true]
theorem numsL_dec (u : Nat) (h : u < 9223372036854775808) (r : List UInt8) (hr : stops r) : numsL (Lib.decDigits u ++ r) = (numsL r).map ((u : Int) :: ·) := by
  obtain ⟨c, t, hd⟩ := dec_ne u
  have hall := dec_isD u
  rw [hd] at hall
  have hc := hall c (by simp)
  have hc2 := (isD_iff c).1 hc
  have ht : ∀ x ∈ t, isD x = true := fun x hx => hall x (by simp [hx])
  have h1 := tw_app isD t r ht (fun x hx => (hr x hx).1)
  have hsk : skips c = false := by simp [skips, hc]
  have hx : ((t ++ r).head? == some 120) = false := by
    cases t with
    | nil =>
      cases r with
      | nil => rfl
      | cons x y =>
        have := (hr x rfl).2
        simp
        exact this
    | cons x y =>
      have := (isD_iff x).1 (ht x (by simp))
      simp
      rintro rfl
      exact absurd this.2 (by decide)
  have hR : dgR 10 (c :: t) = ((u : Int), true) := by
    rw [dgR, if_neg (by simp; rintro rfl; exact absurd hc2.1 (by decide)), ← hd, fin_dec u h]
  rw [hd, List.cons_append, numsL_cons, hsk, cond_false, hx, Bool.and_false, cond_false, h1.1, h1.2, hR]
  rfl
/-- And with a sign. -/
theorem numsL_neg (u : Nat) (h : u ≤ 9223372036854775808) (r : List UInt8) (hr : stops r) : numsL (45 :: (Lib.decDigits u ++ r)) = (numsL r).map ((-(u : Int)) :: ·) := by
  obtain ⟨c, t, hd⟩ := dec_ne u
  have h1 := tw_app isD (Lib.decDigits u) r (dec_isD u) (fun x hx => (hr x hx).1)
  have hR : dgR 10 (45 :: Lib.decDigits u) = (-(u : Int), true) := by
    rw [dgR, if_pos (show (45 :: Lib.decDigits u).head? = some 45 from rfl)]
    show fin true (Lib.decDigits u) (dgs 10 0 (Lib.decDigits u)) = _
    rw [dgs_dec u h, fin, if_neg (by rw [hd]; simp), if_pos rfl]
  rw [numsL_cons, h1.1, h1.2, hR]
  rfl
theorem hd_isH (d : Nat) (h : d < 16) : isH (hd d) = true ∧ dgV (hd d).toNat = d := by
  have : ((List.range 16).all fun d => isH (hd d) && (dgV (hd d).toNat == (d : Int))) = true := by decide +kernel
  have h2 := List.all_eq_true.1 this d (by simp; exact h)
  simpa using h2
theorem hex3 (x : Nat) (h : x < 4096) : dg16 (hexL x 3) = ((x : Int), true) ∧ ∀ c ∈ hexL x 3, isH c = true := by
  have a0 := hd_isH (x % 16) (by omega)
  have a1 := hd_isH (x / 16 % 16) (by omega)
  have a2 := hd_isH (x / 16 / 16 % 16) (by omega)
  have e : hexL x 3 = [hd (x / 16 / 16 % 16), hd (x / 16 % 16), hd (x % 16)] := rfl
  have q : ∀ d : Nat, d < 16 → (-9223372036854775808 + (d : Int)).tdiv 16 ≤ -500000000000000000 := by
    intro d hd
    obtain ⟨y, hy⟩ : ∃ y, -9223372036854775808 + (d : Int) = -y := ⟨9223372036854775808 - d, by omega⟩
    rw [hy, Int.neg_tdiv, Int.tdiv_eq_ediv_of_nonneg (by omega)]
    omega
  have q0 := q (x % 16) (by omega)
  have q1 := q (x / 16 % 16) (by omega)
  have q2 := q (x / 16 / 16 % 16) (by omega)
  refine ⟨?_, ?_⟩
  · rw [dg16, e, dgs_step, a2.2, if_neg (by omega), dgs_step, a1.2, if_neg (by omega), dgs_step, a0.2, if_neg (by omega), dgs, fin, if_neg (by simp), if_neg (by decide), if_neg (by omega)]
    congr 1
    omega
  · intro c hc
    rw [e] at hc
    simp at hc
    rcases hc with rfl | rfl | rfl
    · exact a2.1
    · exact a1.1
    · exact a0.1
/-- Behind '0x', three digits. -/
theorem numsL_hex (x : Nat) (h : x < 4096) (r : List UInt8) (hr : ∀ c, r.head? = some c → isH c = false) : numsL (48 :: 120 :: (hexL x 3 ++ r)) = (numsL r).map ((x : Int) :: ·) := by
  have hx := hex3 x h
  have h1 := tw_app isH (hexL x 3) r hx.2 hr
  rw [numsL_cons]
  show cons1 (dg16 ((hexL x 3 ++ r).takeWhile isH)) (numsL ((hexL x 3 ++ r).dropWhile isH)) = _
  rw [h1.1, h1.2, hx.1]
  rfl
end Go.Proofs.YtmihcicepgjogaaGreatDoor.W

/- The numbers that an instruction's text has, class by class. -/
namespace Go.Proofs.YtmihcicepgjogaaGreatDoor.W
open Go.RowKit
set_option linter.unusedVariables false
set_option linter.unusedSimpArgs false

theorem stops_nil : stops [] := fun x hx => by simp at hx
theorem stops_cons (c : UInt8) (r : List UInt8) (h : isD c = false ∧ ¬ c = 120) : stops (c :: r) := fun x hx => by
  simp at hx
  subst hx
  exact h
theorem hstop_cons (c : UInt8) (r : List UInt8) (h : isH c = false) : ∀ x, (c :: r).head? = some x → isH x = false := fun x hx => by
  simp at hx
  subst hx
  exact h
theorem numsL_itoa (v : Int) (h0 : -9223372036854775808 ≤ v) (h1 : v ≤ 9223372036854775807) (r : List UInt8) (hr : stops r) : numsL (Lib.itoa v ++ r) = (numsL r).map (v :: ·) := by
  unfold Lib.itoa
  split
  · rename_i h
    rw [List.cons_append, numsL_neg v.natAbs (by omega) r hr, show -(v.natAbs : Int) = v by omega]
  · rename_i h
    rw [numsL_dec v.toNat (by omega) r hr, show (v.toNat : Int) = v by omega]

theorem tx_01 (d : Nat) (v : Int) (hd : d < 4096) (hv0 : -9223372036854775808 ≤ v) (hv1 : v ≤ 9223372036854775807) : numsL (32 :: (120 :: (Lib.decDigits d ++ (44 :: (32 :: (Lib.itoa v ++ [])))))) = some [(d : Int), (v : Int)] := by
  rw [numsL_skip _ _ (by decide), numsL_skip _ _ (by decide), numsL_dec d (by omega) _ (stops_cons _ _ (by decide)), numsL_skip _ _ (by decide), numsL_skip _ _ (by decide), numsL_itoa v hv0 hv1 _ stops_nil]
  rfl
theorem tx_00 (d : Nat) (v : Int) (hd : d < 4096) (hv0 : -9223372036854775808 ≤ v) (hv1 : v ≤ 9223372036854775807) : numsL (32 :: (120 :: (Lib.decDigits d ++ (44 :: (32 :: (Lib.itoa v ++ [])))))) = some [(d : Int), (v : Int)] := by
  rw [numsL_skip _ _ (by decide), numsL_skip _ _ (by decide), numsL_dec d (by omega) _ (stops_cons _ _ (by decide)), numsL_skip _ _ (by decide), numsL_skip _ _ (by decide), numsL_itoa v hv0 hv1 _ stops_nil]
  rfl
theorem tx_02 (d : Nat) (v : Int) (hd : d < 4096) (hv0 : -9223372036854775808 ≤ v) (hv1 : v ≤ 9223372036854775807) : numsL (32 :: (120 :: (Lib.decDigits d ++ (44 :: (32 :: (Lib.itoa v ++ [])))))) = some [(d : Int), (v : Int)] := by
  rw [numsL_skip _ _ (by decide), numsL_skip _ _ (by decide), numsL_dec d (by omega) _ (stops_cons _ _ (by decide)), numsL_skip _ _ (by decide), numsL_skip _ _ (by decide), numsL_itoa v hv0 hv1 _ stops_nil]
  rfl
theorem tx_03 (d : Nat) (a : Nat) (v : Int) (hd : d < 4096) (ha : a < 4096) (hv0 : -9223372036854775808 ≤ v) (hv1 : v ≤ 9223372036854775807) : numsL (32 :: (120 :: (Lib.decDigits d ++ (44 :: (32 :: (Lib.itoa v ++ (40 :: (120 :: (Lib.decDigits a ++ (41 :: [])))))))))) = some [(d : Int), (v : Int), (a : Int)] := by
  rw [numsL_skip _ _ (by decide), numsL_skip _ _ (by decide), numsL_dec d (by omega) _ (stops_cons _ _ (by decide)), numsL_skip _ _ (by decide), numsL_skip _ _ (by decide), numsL_itoa v hv0 hv1 _ (stops_cons _ _ (by decide)), numsL_skip _ _ (by decide), numsL_skip _ _ (by decide), numsL_dec a (by omega) _ (stops_cons _ _ (by decide)), numsL_skip _ _ (by decide)]
  rfl
theorem tx_04 (d : Nat) (a : Nat) (v : Int) (hd : d < 4096) (ha : a < 4096) (hv0 : -9223372036854775808 ≤ v) (hv1 : v ≤ 9223372036854775807) : numsL (32 :: (120 :: (Lib.decDigits d ++ (44 :: (32 :: (Lib.itoa v ++ (40 :: (120 :: (Lib.decDigits a ++ (41 :: [])))))))))) = some [(d : Int), (v : Int), (a : Int)] := by
  rw [numsL_skip _ _ (by decide), numsL_skip _ _ (by decide), numsL_dec d (by omega) _ (stops_cons _ _ (by decide)), numsL_skip _ _ (by decide), numsL_skip _ _ (by decide), numsL_itoa v hv0 hv1 _ (stops_cons _ _ (by decide)), numsL_skip _ _ (by decide), numsL_skip _ _ (by decide), numsL_dec a (by omega) _ (stops_cons _ _ (by decide)), numsL_skip _ _ (by decide)]
  rfl
theorem tx_05 (b : Nat) (a : Nat) (v : Int) (hb : b < 4096) (ha : a < 4096) (hv0 : -9223372036854775808 ≤ v) (hv1 : v ≤ 9223372036854775807) : numsL (32 :: (120 :: (Lib.decDigits b ++ (44 :: (32 :: (Lib.itoa v ++ (40 :: (120 :: (Lib.decDigits a ++ (41 :: [])))))))))) = some [(b : Int), (v : Int), (a : Int)] := by
  rw [numsL_skip _ _ (by decide), numsL_skip _ _ (by decide), numsL_dec b (by omega) _ (stops_cons _ _ (by decide)), numsL_skip _ _ (by decide), numsL_skip _ _ (by decide), numsL_itoa v hv0 hv1 _ (stops_cons _ _ (by decide)), numsL_skip _ _ (by decide), numsL_skip _ _ (by decide), numsL_dec a (by omega) _ (stops_cons _ _ (by decide)), numsL_skip _ _ (by decide)]
  rfl
theorem tx_06 (a : Nat) (b : Nat) (v : Int) (ha : a < 4096) (hb : b < 4096) (hv0 : -9223372036854775808 ≤ v) (hv1 : v ≤ 9223372036854775807) : numsL (32 :: (120 :: (Lib.decDigits a ++ (44 :: (32 :: (120 :: (Lib.decDigits b ++ (44 :: (32 :: (Lib.itoa v ++ [])))))))))) = some [(a : Int), (b : Int), (v : Int)] := by
  rw [numsL_skip _ _ (by decide), numsL_skip _ _ (by decide), numsL_dec a (by omega) _ (stops_cons _ _ (by decide)), numsL_skip _ _ (by decide), numsL_skip _ _ (by decide), numsL_skip _ _ (by decide), numsL_dec b (by omega) _ (stops_cons _ _ (by decide)), numsL_skip _ _ (by decide), numsL_skip _ _ (by decide), numsL_itoa v hv0 hv1 _ stops_nil]
  rfl
theorem tx_07 (d : Nat) (a : Nat) (v : Int) (hd : d < 4096) (ha : a < 4096) (hv0 : -9223372036854775808 ≤ v) (hv1 : v ≤ 9223372036854775807) : numsL (32 :: (120 :: (Lib.decDigits d ++ (44 :: (32 :: (120 :: (Lib.decDigits a ++ (44 :: (32 :: (Lib.itoa v ++ [])))))))))) = some [(d : Int), (a : Int), (v : Int)] := by
  rw [numsL_skip _ _ (by decide), numsL_skip _ _ (by decide), numsL_dec d (by omega) _ (stops_cons _ _ (by decide)), numsL_skip _ _ (by decide), numsL_skip _ _ (by decide), numsL_skip _ _ (by decide), numsL_dec a (by omega) _ (stops_cons _ _ (by decide)), numsL_skip _ _ (by decide), numsL_skip _ _ (by decide), numsL_itoa v hv0 hv1 _ stops_nil]
  rfl
theorem tx_08 (d : Nat) (a : Nat) (u : Nat) (hd : d < 4096) (ha : a < 4096) (hu : u < 4096) : numsL (32 :: (120 :: (Lib.decDigits d ++ (44 :: (32 :: (120 :: (Lib.decDigits a ++ (44 :: (32 :: (Lib.decDigits u ++ [])))))))))) = some [(d : Int), (a : Int), (u : Int)] := by
  rw [numsL_skip _ _ (by decide), numsL_skip _ _ (by decide), numsL_dec d (by omega) _ (stops_cons _ _ (by decide)), numsL_skip _ _ (by decide), numsL_skip _ _ (by decide), numsL_skip _ _ (by decide), numsL_dec a (by omega) _ (stops_cons _ _ (by decide)), numsL_skip _ _ (by decide), numsL_skip _ _ (by decide), numsL_dec u (by omega) _ stops_nil]
  rfl
theorem tx_09 (d : Nat) (a : Nat) (b : Nat) (hd : d < 4096) (ha : a < 4096) (hb : b < 4096) : numsL (32 :: (120 :: (Lib.decDigits d ++ (44 :: (32 :: (120 :: (Lib.decDigits a ++ (44 :: (32 :: (120 :: (Lib.decDigits b ++ []))))))))))) = some [(d : Int), (a : Int), (b : Int)] := by
  rw [numsL_skip _ _ (by decide), numsL_skip _ _ (by decide), numsL_dec d (by omega) _ (stops_cons _ _ (by decide)), numsL_skip _ _ (by decide), numsL_skip _ _ (by decide), numsL_skip _ _ (by decide), numsL_dec a (by omega) _ (stops_cons _ _ (by decide)), numsL_skip _ _ (by decide), numsL_skip _ _ (by decide), numsL_skip _ _ (by decide), numsL_dec b (by omega) _ stops_nil]
  rfl
theorem tx_10 (d : Nat) (a : Nat) (b : Nat) (hd : d < 4096) (ha : a < 4096) (hb : b < 4096) : numsL (32 :: (120 :: (Lib.decDigits d ++ (44 :: (32 :: (120 :: (Lib.decDigits a ++ (44 :: (32 :: (120 :: (Lib.decDigits b ++ []))))))))))) = some [(d : Int), (a : Int), (b : Int)] := by
  rw [numsL_skip _ _ (by decide), numsL_skip _ _ (by decide), numsL_dec d (by omega) _ (stops_cons _ _ (by decide)), numsL_skip _ _ (by decide), numsL_skip _ _ (by decide), numsL_skip _ _ (by decide), numsL_dec a (by omega) _ (stops_cons _ _ (by decide)), numsL_skip _ _ (by decide), numsL_skip _ _ (by decide), numsL_skip _ _ (by decide), numsL_dec b (by omega) _ stops_nil]
  rfl
theorem tx_11 (p : Nat) (q : Nat) (hp : p < 4096) (hq : q < 4096) : numsL (32 :: (Lib.decDigits p ++ (44 :: (32 :: (Lib.decDigits q ++ []))))) = some [(p : Int), (q : Int)] := by
  rw [numsL_skip _ _ (by decide), numsL_dec p (by omega) _ (stops_cons _ _ (by decide)), numsL_skip _ _ (by decide), numsL_skip _ _ (by decide), numsL_dec q (by omega) _ stops_nil]
  rfl
theorem tx_12 (d : Nat) (c : Nat) (a : Nat) (hd : d < 4096) (hc : c < 4096) (ha : a < 4096) : numsL (32 :: (120 :: (Lib.decDigits d ++ (44 :: (32 :: (48 :: 120 :: (hexL c 3 ++ (44 :: (32 :: (120 :: (Lib.decDigits a ++ []))))))))))) = some [(d : Int), (c : Int), (a : Int)] := by
  rw [numsL_skip _ _ (by decide), numsL_skip _ _ (by decide), numsL_dec d (by omega) _ (stops_cons _ _ (by decide)), numsL_skip _ _ (by decide), numsL_skip _ _ (by decide), numsL_hex c hc _ (hstop_cons _ _ (by decide)), numsL_skip _ _ (by decide), numsL_skip _ _ (by decide), numsL_skip _ _ (by decide), numsL_dec a (by omega) _ stops_nil]
  rfl
theorem tx_13 (d : Nat) (c : Nat) (u : Nat) (hd : d < 4096) (hc : c < 4096) (hu : u < 4096) : numsL (32 :: (120 :: (Lib.decDigits d ++ (44 :: (32 :: (48 :: 120 :: (hexL c 3 ++ (44 :: (32 :: (Lib.decDigits u ++ [])))))))))) = some [(d : Int), (c : Int), (u : Int)] := by
  rw [numsL_skip _ _ (by decide), numsL_skip _ _ (by decide), numsL_dec d (by omega) _ (stops_cons _ _ (by decide)), numsL_skip _ _ (by decide), numsL_skip _ _ (by decide), numsL_hex c hc _ (hstop_cons _ _ (by decide)), numsL_skip _ _ (by decide), numsL_skip _ _ (by decide), numsL_dec u (by omega) _ stops_nil]
  rfl
theorem tx_14 (a : Nat) (b : Nat) (ha : a < 4096) (hb : b < 4096) : numsL (32 :: (120 :: (Lib.decDigits a ++ (44 :: (32 :: (120 :: (Lib.decDigits b ++ []))))))) = some [(a : Int), (b : Int)] := by
  rw [numsL_skip _ _ (by decide), numsL_skip _ _ (by decide), numsL_dec a (by omega) _ (stops_cons _ _ (by decide)), numsL_skip _ _ (by decide), numsL_skip _ _ (by decide), numsL_skip _ _ (by decide), numsL_dec b (by omega) _ stops_nil]
  rfl
theorem tx_15 (d : Nat) (a : Nat) (hd : d < 4096) (ha : a < 4096) : numsL (32 :: (120 :: (Lib.decDigits d ++ (44 :: (32 :: (40 :: (120 :: (Lib.decDigits a ++ (41 :: []))))))))) = some [(d : Int), (a : Int)] := by
  rw [numsL_skip _ _ (by decide), numsL_skip _ _ (by decide), numsL_dec d (by omega) _ (stops_cons _ _ (by decide)), numsL_skip _ _ (by decide), numsL_skip _ _ (by decide), numsL_skip _ _ (by decide), numsL_skip _ _ (by decide), numsL_dec a (by omega) _ (stops_cons _ _ (by decide)), numsL_skip _ _ (by decide)]
  rfl
theorem tx_16 (d : Nat) (b : Nat) (a : Nat) (hd : d < 4096) (hb : b < 4096) (ha : a < 4096) : numsL (32 :: (120 :: (Lib.decDigits d ++ (44 :: (32 :: (120 :: (Lib.decDigits b ++ (44 :: (32 :: (40 :: (120 :: (Lib.decDigits a ++ (41 :: []))))))))))))) = some [(d : Int), (b : Int), (a : Int)] := by
  rw [numsL_skip _ _ (by decide), numsL_skip _ _ (by decide), numsL_dec d (by omega) _ (stops_cons _ _ (by decide)), numsL_skip _ _ (by decide), numsL_skip _ _ (by decide), numsL_skip _ _ (by decide), numsL_dec b (by omega) _ (stops_cons _ _ (by decide)), numsL_skip _ _ (by decide), numsL_skip _ _ (by decide), numsL_skip _ _ (by decide), numsL_skip _ _ (by decide), numsL_dec a (by omega) _ (stops_cons _ _ (by decide)), numsL_skip _ _ (by decide)]
  rfl
theorem tx_17  : numsL [] = some [] := by
  rfl
end Go.Proofs.YtmihcicepgjogaaGreatDoor.W

/- How a part of an instruction is written. -/
namespace Go.Proofs.YtmihcicepgjogaaGreatDoor
open Go.ChangeShapes Go.WideShapes Go.ChangeAt Go.RowKit
set_option linter.unusedVariables false
set_option linter.unusedSimpArgs false

namespace W
def pU (i : I) : List UInt8 := Lib.itoa (wrap32 (bitsOf i.imm 12 20))
def pP (i : I) : List UInt8 := Lib.itoa (wrap32 (bitsOf i.imm 4 4))
def pS (i : I) : List UInt8 := Lib.itoa (wrap32 (bitsOf i.imm 0 4))
def pick8 (k : Nat) (a b c d e f g h : List UInt8) : List UInt8 := bif k == 100 then a else bif k == 49 then b else bif k == 50 then c else bif k == 99 then d else bif k == 105 then e else bif k == 117 then f else bif k == 112 then g else bif k == 115 then h else []
theorem pick8_100 (a b c d e f g h : List UInt8) : pick8 100 a b c d e f g h = a := rfl
theorem pick8_49 (a b c d e f g h : List UInt8) : pick8 49 a b c d e f g h = b := rfl
theorem pick8_50 (a b c d e f g h : List UInt8) : pick8 50 a b c d e f g h = c := rfl
theorem pick8_99 (a b c d e f g h : List UInt8) : pick8 99 a b c d e f g h = d := rfl
theorem pick8_105 (a b c d e f g h : List UInt8) : pick8 105 a b c d e f g h = e := rfl
theorem pick8_117 (a b c d e f g h : List UInt8) : pick8 117 a b c d e f g h = f := rfl
theorem pick8_112 (a b c d e f g h : List UInt8) : pick8 112 a b c d e f g h = g := rfl
theorem pick8_115 (a b c d e f g h : List UInt8) : pick8 115 a b c d e f g h = h := rfl
/-- A part, by its letter. -/
def partL (i : I) (c : Nat) : List UInt8 := pick8 c (regL i.rd.toNat) (regL i.rs1.toNat) (regL i.rs2.toNat) (48 :: 120 :: hexL i.csr.toNat 3) (Lib.itoa (wrap32 i.imm)) (pU i) (pP i) (pS i)
theorem partL_100 (i : I) : partL i 100 = regL i.rd.toNat := pick8_100 _ _ _ _ _ _ _ _
theorem partL_49 (i : I) : partL i 49 = regL i.rs1.toNat := pick8_49 _ _ _ _ _ _ _ _
theorem partL_50 (i : I) : partL i 50 = regL i.rs2.toNat := pick8_50 _ _ _ _ _ _ _ _
theorem partL_99 (i : I) : partL i 99 = 48 :: 120 :: hexL i.csr.toNat 3 := pick8_99 _ _ _ _ _ _ _ _
theorem partL_105 (i : I) : partL i 105 = Lib.itoa (wrap32 i.imm) := pick8_105 _ _ _ _ _ _ _ _
theorem partL_117 (i : I) : partL i 117 = pU i := pick8_117 _ _ _ _ _ _ _ _
theorem partL_112 (i : I) : partL i 112 = pP i := pick8_112 _ _ _ _ _ _ _ _
theorem partL_115 (i : I) : partL i 115 = pS i := pick8_115 _ _ _ _ _ _ _ _
end W

theorem part_100 (A : Nat → Addr) (i : W.I) (hr : W.InR i) (w : World) (hS : Sg A w) : Calls Tryz.prog 59 #[inV i, .int .i32 100] w fun e w' => e = .returned (.string ⟨(W.partL i 100).toArray⟩) ∧ Below w.heap.size w w' := by
  obtain ⟨n, hn⟩ := Int.eq_ofNat_of_zero_le hr.rd0
  have hn' : n < 100 := by have := hr.rd1; omega
  have hv : Hid (W.partL i 100 = W.regL n) := (by rw [W.partL_100, hn, Int.toNat_natCast] : W.partL i 100 = W.regL n)
  clear hr hS
  unfold inV
  rw [hn]
  go_enter Tryz.func59, Tryz.ntmps59
  go_wp2_with (go_at_call 90; refine (register_any n hn' _).mono ?_; rintro e w1 ⟨rfl, rfl⟩)
  go_ret
  exact ⟨by rw [hv.out]; rfl, (Below.refl _ _).alloc (Nat.le_refl _) _⟩

theorem part_49 (A : Nat → Addr) (i : W.I) (hr : W.InR i) (w : World) (hS : Sg A w) : Calls Tryz.prog 59 #[inV i, .int .i32 49] w fun e w' => e = .returned (.string ⟨(W.partL i 49).toArray⟩) ∧ Below w.heap.size w w' := by
  obtain ⟨n, hn⟩ := Int.eq_ofNat_of_zero_le hr.rs10
  have hn' : n < 100 := by have := hr.rs11; omega
  have hv : Hid (W.partL i 49 = W.regL n) := (by rw [W.partL_49, hn, Int.toNat_natCast] : W.partL i 49 = W.regL n)
  clear hr hS
  unfold inV
  rw [hn]
  go_enter Tryz.func59, Tryz.ntmps59
  go_wp2_with (go_at_call 90; refine (register_any n hn' _).mono ?_; rintro e w1 ⟨rfl, rfl⟩)
  go_ret
  exact ⟨by rw [hv.out]; rfl, (Below.refl _ _).alloc (Nat.le_refl _) _⟩

theorem part_50 (A : Nat → Addr) (i : W.I) (hr : W.InR i) (w : World) (hS : Sg A w) : Calls Tryz.prog 59 #[inV i, .int .i32 50] w fun e w' => e = .returned (.string ⟨(W.partL i 50).toArray⟩) ∧ Below w.heap.size w w' := by
  obtain ⟨n, hn⟩ := Int.eq_ofNat_of_zero_le hr.rs20
  have hn' : n < 100 := by have := hr.rs21; omega
  have hv : Hid (W.partL i 50 = W.regL n) := (by rw [W.partL_50, hn, Int.toNat_natCast] : W.partL i 50 = W.regL n)
  clear hr hS
  unfold inV
  rw [hn]
  go_enter Tryz.func59, Tryz.ntmps59
  go_wp2_with (go_at_call 90; refine (register_any n hn' _).mono ?_; rintro e w1 ⟨rfl, rfl⟩)
  go_ret
  exact ⟨by rw [hv.out]; rfl, (Below.refl _ _).alloc (Nat.le_refl _) _⟩

theorem part_99 (A : Nat → Addr) (i : W.I) (hr : W.InR i) (w : World) (hS : Sg A w) : Calls Tryz.prog 59 #[inV i, .int .i32 99] w fun e w' => e = .returned (.string ⟨(W.partL i 99).toArray⟩) ∧ Below w.heap.size w w' := by
  obtain ⟨n, hn⟩ := Int.eq_ofNat_of_zero_le hr.csr0
  have hn' : n < 4096 := by have := hr.csr1; omega
  have hv : Hid (W.partL i 99 = 48 :: 120 :: W.hexL n 3) := (by rw [W.partL_99, hn, Int.toNat_natCast] : W.partL i 99 = 48 :: 120 :: W.hexL n 3)
  have HS : Hid (∀ o, Sg A (w.alloc o)) := (fun o => hS.below ((Below.refl _ _).alloc (Nat.le_refl _) _) : ∀ o, Sg A (w.alloc o))
  have hm32 : (n : Int) % 4294967296 = n := by omega
  clear hr hS
  unfold inV
  rw [hn]
  go_enter Tryz.func59, Tryz.ntmps59
  go_wp2_with (go_at_call 74; refine (hex3 A n hn' _ (HS.out _)).mono ?_; rintro e w1 ⟨rfl, hm⟩; have HM : Hid (Below w.heap.size w w1) := ((Below.refl _ _).alloc (Nat.le_refl _) _).trans (hm.mono (by simp)); clear hm)
  go_ret
  exact ⟨by rw [hv.out]; rfl, HM.out⟩

theorem part_105 (A : Nat → Addr) (i : W.I) (w : World) (hS : Sg A w) : Calls Tryz.prog 59 #[inV i, .int .i32 105] w fun e w' => e = .returned (.string ⟨(W.partL i 105).toArray⟩) ∧ Below w.heap.size w w' := by
  have HS : Hid (∀ o, Sg A (w.alloc o)) := (fun o => hS.below ((Below.refl _ _).alloc (Nat.le_refl _) _) : ∀ o, Sg A (w.alloc o))
  clear hS
  rw [W.partL_105]
  generalize hz : Lib.itoa _ = L
  have HZ : Hid (Lib.itoa _ = L) := hz
  clear hz
  unfold inV
  go_enter Tryz.func59, Tryz.ntmps59
  go_wp2_with (go_at_call 91; refine (decimal_any A _ _ (HS.out _)).mono ?_; rintro e w1 ⟨rfl, hm⟩; rw [HZ.out]; have HM : Hid (Below w.heap.size w w1) := ((Below.refl _ _).alloc (Nat.le_refl _) _).trans (hm.mono (by simp)); clear hm)
  go_ret
  exact ⟨rfl, HM.out⟩

theorem part_117 (A : Nat → Addr) (i : W.I) (w : World) (hS : Sg A w) : Calls Tryz.prog 59 #[inV i, .int .i32 117] w fun e w' => e = .returned (.string ⟨(W.partL i 117).toArray⟩) ∧ Below w.heap.size w w' := by
  have HS : Hid (∀ o w', Below (w.alloc o).heap.size (w.alloc o) w' → Sg A w') := (fun o w' hb => (hS.below ((Below.refl _ _).alloc (Nat.le_refl _) _)).below hb : ∀ o w', Below (w.alloc o).heap.size (w.alloc o) w' → Sg A w')
  clear hS
  rw [W.partL_117, W.pU]
  generalize hz : Lib.itoa _ = L
  have HZ : Hid (Lib.itoa _ = L) := hz
  clear hz
  unfold inV
  go_enter Tryz.func59, Tryz.ntmps59
  go_wp2_with (first
    | (go_at_call 92; refine (bits_bel _ _ _ _).mono ?_; rintro e w1 ⟨rfl, hm⟩; have HG : Hid (Sg A w1) := HS.out _ _ hm; have HB : Hid (Below w.heap.size w w1) := ((Below.refl _ _).alloc (Nat.le_refl _) _).trans (hm.mono (by simp)); clear hm)
    | (go_at_call 91; refine (decimal_any A _ _ HG.out).mono ?_; rintro e w2 ⟨rfl, hm⟩; rw [HZ.out]; have HM : Hid (Below w.heap.size w w2) := HB.out.trans (hm.mono HB.out.size); clear hm))
  go_ret
  exact ⟨rfl, HM.out⟩

theorem part_112 (A : Nat → Addr) (i : W.I) (w : World) (hS : Sg A w) : Calls Tryz.prog 59 #[inV i, .int .i32 112] w fun e w' => e = .returned (.string ⟨(W.partL i 112).toArray⟩) ∧ Below w.heap.size w w' := by
  have HS : Hid (∀ o w', Below (w.alloc o).heap.size (w.alloc o) w' → Sg A w') := (fun o w' hb => (hS.below ((Below.refl _ _).alloc (Nat.le_refl _) _)).below hb : ∀ o w', Below (w.alloc o).heap.size (w.alloc o) w' → Sg A w')
  clear hS
  rw [W.partL_112, W.pP]
  generalize hz : Lib.itoa _ = L
  have HZ : Hid (Lib.itoa _ = L) := hz
  clear hz
  unfold inV
  go_enter Tryz.func59, Tryz.ntmps59
  go_wp2_with (first
    | (go_at_call 92; refine (bits_bel _ _ _ _).mono ?_; rintro e w1 ⟨rfl, hm⟩; have HG : Hid (Sg A w1) := HS.out _ _ hm; have HB : Hid (Below w.heap.size w w1) := ((Below.refl _ _).alloc (Nat.le_refl _) _).trans (hm.mono (by simp)); clear hm)
    | (go_at_call 91; refine (decimal_any A _ _ HG.out).mono ?_; rintro e w2 ⟨rfl, hm⟩; rw [HZ.out]; have HM : Hid (Below w.heap.size w w2) := HB.out.trans (hm.mono HB.out.size); clear hm))
  go_ret
  exact ⟨rfl, HM.out⟩

theorem part_115 (A : Nat → Addr) (i : W.I) (w : World) (hS : Sg A w) : Calls Tryz.prog 59 #[inV i, .int .i32 115] w fun e w' => e = .returned (.string ⟨(W.partL i 115).toArray⟩) ∧ Below w.heap.size w w' := by
  have HS : Hid (∀ o w', Below (w.alloc o).heap.size (w.alloc o) w' → Sg A w') := (fun o w' hb => (hS.below ((Below.refl _ _).alloc (Nat.le_refl _) _)).below hb : ∀ o w', Below (w.alloc o).heap.size (w.alloc o) w' → Sg A w')
  clear hS
  rw [W.partL_115, W.pS]
  generalize hz : Lib.itoa _ = L
  have HZ : Hid (Lib.itoa _ = L) := hz
  clear hz
  unfold inV
  go_enter Tryz.func59, Tryz.ntmps59
  go_wp2_with (first
    | (go_at_call 92; refine (bits_bel _ _ _ _).mono ?_; rintro e w1 ⟨rfl, hm⟩; have HG : Hid (Sg A w1) := HS.out _ _ hm; have HB : Hid (Below w.heap.size w w1) := ((Below.refl _ _).alloc (Nat.le_refl _) _).trans (hm.mono (by simp)); clear hm)
    | (go_at_call 91; refine (decimal_any A _ _ HG.out).mono ?_; rintro e w2 ⟨rfl, hm⟩; rw [HZ.out]; have HM : Hid (Below w.heap.size w w2) := HB.out.trans (hm.mono HB.out.size); clear hm))
  go_ret
  exact ⟨rfl, HM.out⟩

theorem part_any (A : Nat → Addr) (i : W.I) (hr : W.InR i) (c : Nat) (hc : c = 100 ∨ c = 49 ∨ c = 50 ∨ c = 99 ∨ c = 105 ∨ c = 117 ∨ c = 112 ∨ c = 115) (w : World) (hS : Sg A w) : Calls Tryz.prog 59 #[inV i, .int .i32 c] w fun e w' => e = .returned (.string ⟨(W.partL i c).toArray⟩) ∧ Below w.heap.size w w' := by
  rcases hc with rfl | rfl | rfl | rfl | rfl | rfl | rfl | rfl
  · exact part_100 A i hr w hS
  · exact part_49 A i hr w hS
  · exact part_50 A i hr w hS
  · exact part_99 A i hr w hS
  · exact part_105 A i w hS
  · exact part_117 A i w hS
  · exact part_112 A i w hS
  · exact part_115 A i w hS
end Go.Proofs.YtmihcicepgjogaaGreatDoor
