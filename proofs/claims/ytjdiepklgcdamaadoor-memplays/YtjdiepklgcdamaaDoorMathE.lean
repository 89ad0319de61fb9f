/- Mirrors of package enc on numbers, and their laws: which bit of an immediate is which bit of its word. -/
import Derived.Test.YtjdiepklgcdamaaDoorMath6
namespace Go.Proofs.YtjdiepklgcdamaaDoor.W
open Go.RowKit
set_option linter.unusedVariables false

/-- n bits of x from bit low on, laid from bit to on. -/
def moved (x low to n : Int) : Int := pack (fun _ => to) (fun _ => n) (fun _ => bitsOf x low n) 1
/-- Pieces moved one after the other. -/
def raw (A B C : Nat → Int) (x : Int) : Nat → Int
  | 0 => 0
  | k + 1 => bits .or .u32 (raw A B C x k) (moved x (A k) (B k) (C k))
/-- Where the bits of an immediate lie in a word, and in it. -/
def pieces (f : Int) : List (Int × Int × Int) :=
  if f = 73 then [(20, 0, 12)] else if f = 83 then [(25, 5, 7), (7, 0, 5)] else if f = 66 then [(31, 12, 1), (7, 11, 1), (25, 5, 6), (8, 1, 4)]
  else if f = 85 then [(12, 12, 20)] else if f = 74 then [(31, 20, 1), (12, 12, 8), (20, 11, 1), (21, 1, 10)] else []
def wid (f : Int) : Int := if f = 73 then 12 else if f = 83 then 12 else if f = 66 then 13 else if f = 85 then 32 else if f = 74 then 21 else 0
def pW (f : Int) (j : Nat) : Int := ((pieces f).getD j (0, 0, 0)).1
def pI (f : Int) (j : Nat) : Int := ((pieces f).getD j (0, 0, 0)).2.1
def pN (f : Int) (j : Nat) : Int := ((pieces f).getD j (0, 0, 0)).2.2
def imm (f x : Int) : Int := sgn (raw (pW f) (pI f) (pN f) x 4) (wid f)
def layw (f v : Int) : Int := raw (pI f) (pW f) (pN f) v 4
def layB (f v : Int) : Bool := !(wid f == 0) && (imm f (layw f v) == v)
def layV (f v : Int) : Int := bif layB f v then layw f v else 0
/-- The formats that have an immediate. -/
def isF (f : Int) : Prop := f = 73 ∨ f = 83 ∨ f = 66 ∨ f = 85 ∨ f = 74

theorem zero_or (x : Int) (x0 : 0 ≤ x) (x1 : x < 4294967296) : bits .or .u32 0 x = x := by
  obtain ⟨a, rfl⟩ := Int.eq_ofNat_of_zero_le x0
  have := u32_or_nat 0 a (by decide) (by omega)
  simpa using this
theorem xor_lt (x y : Int) : 0 ≤ bits .xor .u32 x y ∧ bits .xor .u32 x y < 4294967296 := by
  unfold bits
  rw [IntKind.wrap_u32']
  omega
theorem tb_xor (x y : Int) (p : Nat) (x0 : 0 ≤ x) (x1 : x < 4294967296) (y0 : 0 ≤ y) (y1 : y < 4294967296) : tb (bits .xor .u32 x y) p = (tb x p ^^ tb y p) := by
  obtain ⟨a, rfl⟩ := Int.eq_ofNat_of_zero_le x0
  obtain ⟨b, rfl⟩ := Int.eq_ofNat_of_zero_le y0
  rw [u32_xor_nat a b (by omega) (by omega)]
  simp [tb]
theorem moved_placed (x low to n : Int) : moved x low to n = placed (bitsOf x low n) to n := by
  have h := placed_lt (bitsOf x low n) to n
  have := pack_succ (fun _ => to) (fun _ => n) (fun _ => bitsOf x low n) 0 (by simp [pack]) (by simp [pack])
  unfold moved
  rw [← this]
  exact zero_or _ h.1 h.2
theorem moved_lt (x low to n : Int) : 0 ≤ moved x low to n ∧ moved x low to n < 4294967296 := by
  rw [moved_placed]; exact placed_lt _ _ _
theorem raw_lt (A B C : Nat → Int) (x : Int) (k : Nat) : 0 ≤ raw A B C x k ∧ raw A B C x k < 4294967296 := by
  cases k with
  | zero => simp [raw]
  | succ k => rw [raw]; exact or_lt _ _
theorem pack_raw (A B C : Nat → Int) (x : Int) (k : Nat) : pack B C (fun j => bitsOf x (A j) (C j)) k = raw A B C x k := by
  induction k with
  | zero => rfl
  | succ k ih =>
    have h := pack_lt B C (fun j => bitsOf x (A j) (C j)) k
    rw [← pack_succ B C _ k h.1 h.2, raw, ih, moved_placed]
theorem bitsOf_lt (x low n : Int) : 0 ≤ bitsOf x low n ∧ bitsOf x low n < 4294967296 := by
  unfold bitsOf
  cases within low n
  · simp
  · exact and_lt _ _
theorem tb_bitsOf (x low n : Int) (p : Nat) (x0 : 0 ≤ x) (x1 : x < 4294967296) (l0 : 0 ≤ low) (l1 : low ≤ 31) (n0 : 1 ≤ n) :
    tb (bitsOf x low n) p = (decide (p < min n.toNat 32) && tb x (p + low.toNat)) := by
  rw [bitsOf_eq x low n x0 x1 l0 l1 n0]
  obtain ⟨a, rfl⟩ := Int.eq_ofNat_of_zero_le x0
  generalize min n.toNat 32 = m
  generalize low.toNat = l
  have e : ((a : Int) / 2 ^ l % 2 ^ m) = ((a / 2 ^ l % 2 ^ m : Nat) : Int) := by simp
  rw [e]
  unfold tb
  rw [Int.toNat_natCast, Int.toNat_natCast, Nat.testBit_mod_two_pow, Nat.testBit_div_two_pow]
theorem tb_moved (x low to n : Int) (p : Nat) (x0 : 0 ≤ x) (x1 : x < 4294967296) (l0 : 0 ≤ low) (l1 : low ≤ 31) (t0 : 0 ≤ to) (t1 : to ≤ 31) (n1 : n ≤ 32) (hp : p < 32) :
    tb (moved x low to n) p = (decide (to.toNat ≤ p ∧ p - to.toNat < n.toNat) && tb x (p - to.toNat + low.toNat)) := by
  rw [moved_placed]
  by_cases n0 : 1 ≤ n
  · have h := bitsOf_lt x low n
    rw [tb_placed _ to n p h.1 h.2 t0 t1 n0 hp, tb_bitsOf x low n _ x0 x1 l0 l1 n0, show min n.toNat 32 = n.toNat from by omega]
    by_cases h1 : to.toNat ≤ p
    · by_cases h2 : p - to.toNat < n.toNat
      · simp [h1, h2]
      · simp [h2]
    · simp [h1]
  · rw [tb_placed_out _ _ _ _ (by omega), show n.toNat = 0 from by omega]
    simp
/-- The bits of x that come to bit p. -/
def wire (A B C : Nat → Int) (p : Nat) : Nat → List Nat
  | 0 => []
  | k + 1 => wire A B C p k ++ (if (B k).toNat ≤ p ∧ p - (B k).toNat < (C k).toNat then [p - (B k).toNat + (A k).toNat] else [])
def fits (A B C : Nat → Int) (k : Nat) : Bool := (List.range k).all fun j => decide (0 ≤ A j ∧ A j ≤ 31 ∧ 0 ≤ B j ∧ B j ≤ 31 ∧ C j ≤ 32)
theorem fits_at {A B C : Nat → Int} {k j : Nat} (h : fits A B C k = true) (hj : j < k) : 0 ≤ A j ∧ A j ≤ 31 ∧ 0 ≤ B j ∧ B j ≤ 31 ∧ C j ≤ 32 := by
  have := List.all_eq_true.1 h j (List.mem_range.2 hj)
  simpa using this
theorem tb_raw (A B C : Nat → Int) (x : Int) (m : Nat) (hf : fits A B C m = true) (p : Nat) (x0 : 0 ≤ x) (x1 : x < 4294967296) (hp : p < 32) :
    ∀ k, k ≤ m → tb (raw A B C x k) p = (wire A B C p k).any (tb x) := by
  intro k
  induction k with
  | zero => intro _; simp [raw, wire, tb]
  | succ k ih =>
    intro hk
    have h := raw_lt A B C x k
    have g := moved_lt x (A k) (B k) (C k)
    obtain ⟨h1, h2, h3, h4, h5⟩ := fits_at hf (show k < m by omega)
    rw [raw, tb_or _ _ p h.1 h.2 g.1 g.2, ih (by omega), tb_moved x _ _ _ p x0 x1 h1 h2 h3 h4 h5 hp, wire, List.any_append]
    by_cases hc : (B k).toNat ≤ p ∧ p - (B k).toNat < (C k).toNat
    · simp [hc]
    · rw [if_neg hc, decide_eq_false hc]; simp
theorem tb_sgn (x n : Int) (p : Nat) (x0 : 0 ≤ x) (x1 : x < 4294967296) (n0 : 1 ≤ n) (n1 : n ≤ 32) (hp : p < 32) : tb (sgn x n) p = tb x (min p (n.toNat - 1)) := by
  have hs := sgn_lt x n x0 x1
  have low : ∀ q, q < n.toNat → tb (sgn x n) q = tb x q := by
    intro q hq
    have e := congrArg (fun z => tb z q) (sgn_low x n x0 x1 n0 n1)
    rw [tb_bitsOf _ 0 n q hs.1 hs.2 (by omega) (by omega) n0, tb_bitsOf x 0 n q x0 x1 (by omega) (by omega) n0] at e
    have : q < min n.toNat 32 := by omega
    simpa [this] using e
  by_cases h : p < n.toNat
  · rw [low p h, show min p (n.toNat - 1) = p from by omega]
  · rw [show min p (n.toNat - 1) = n.toNat - 1 from by omega, ← low (n.toNat - 1) (by omega)]
    have e := sgn_top x (n - 1) p x0 x1 (by omega) (by omega) (by omega) (by omega)
    rw [show n - 1 + 1 = n from by omega] at e
    have e2 := congrArg (fun z => tb z 0) e
    rw [tb_bitsOf _ p 1 0 hs.1 hs.2 (by omega) (by omega) (by omega), tb_bitsOf _ (n - 1) 1 0 hs.1 hs.2 (by omega) (by omega) (by omega)] at e2
    simp at e2
    exact e2
theorem eq_of_tb (x y : Int) (x0 : 0 ≤ x) (x1 : x < 4294967296) (y0 : 0 ≤ y) (y1 : y < 4294967296) (h : ∀ p, p < 32 → tb x p = tb y p) : x = y := by
  have : x.toNat = y.toNat := by
    apply Nat.eq_of_testBit_eq
    intro p
    by_cases hp : p < 32
    · exact h p hp
    · have a := tb_big x p x1 (by omega)
      have b := tb_big y p y1 (by omega)
      unfold tb at a b
      rw [a, b]
  omega
theorem imm_lt (f x : Int) : 0 ≤ imm f x ∧ imm f x < 4294967296 := by
  have h := raw_lt (pW f) (pI f) (pN f) x 4
  exact sgn_lt _ _ h.1 h.2
def iwire (f : Int) (p : Nat) : List Nat := wire (pW f) (pI f) (pN f) (min p ((wid f).toNat - 1)) 4
def lwire (f : Int) (p : Nat) : List Nat := wire (pI f) (pW f) (pN f) p 4
theorem fits_i (f : Int) (h : isF f) : fits (pW f) (pI f) (pN f) 4 = true := by
  rcases h with rfl | rfl | rfl | rfl | rfl <;> decide +kernel
theorem fits_l (f : Int) (h : isF f) : fits (pI f) (pW f) (pN f) 4 = true := by
  rcases h with rfl | rfl | rfl | rfl | rfl <;> decide +kernel
theorem wid_in (f : Int) (h : isF f) : 1 ≤ wid f ∧ wid f ≤ 32 := by
  rcases h with rfl | rfl | rfl | rfl | rfl <;> decide +kernel
theorem tb_imm (f x : Int) (p : Nat) (hf : isF f) (x0 : 0 ≤ x) (x1 : x < 4294967296) (hp : p < 32) : tb (imm f x) p = (iwire f p).any (tb x) := by
  have h := raw_lt (pW f) (pI f) (pN f) x 4
  have hw := wid_in f hf
  unfold imm iwire
  rw [tb_sgn _ _ p h.1 h.2 hw.1 hw.2 hp]
  exact tb_raw _ _ _ x 4 (fits_i f hf) _ x0 x1 (by omega) 4 (Nat.le_refl _)
theorem tb_layw (f v : Int) (p : Nat) (hf : isF f) (x0 : 0 ≤ v) (x1 : v < 4294967296) (hp : p < 32) : tb (layw f v) p = (lwire f p).any (tb v) :=
  tb_raw _ _ _ v 4 (fits_l f hf) _ x0 x1 hp 4 (Nat.le_refl _)
/-- The bits of a word that an immediate has. -/
def mask (f : Int) : Int := if f = 73 then 4293918720 else if f = 83 then 4261416832 else if f = 66 then 4261416832 else 4294963200
theorem mask_lt (f : Int) : 0 ≤ mask f ∧ mask f < 4294967296 := by
  unfold mask; repeat' split
  all_goals decide
def check (f : Int) : Bool := (List.range 32).all fun p => (lwire f p).all (fun q => decide (q < 32)) && decide ((lwire f p).flatMap (iwire f) = if tb (mask f) p then [p] else []) && (iwire f p).all (fun q => decide (q < 32) && tb (mask f) q) && decide ((iwire f p).length ≤ 1)
theorem check_all (f : Int) (h : isF f) : check f = true := by
  rcases h with rfl | rfl | rfl | rfl | rfl <;> decide +kernel
theorem check_at (f : Int) (h : isF f) (p : Nat) (hp : p < 32) : (∀ q ∈ lwire f p, q < 32) ∧ (lwire f p).flatMap (iwire f) = (if tb (mask f) p then [p] else []) ∧ (∀ q ∈ iwire f p, q < 32 ∧ tb (mask f) q = true) ∧ (iwire f p).length ≤ 1 := by
  have := List.all_eq_true.1 (check_all f h) p (List.mem_range.2 hp)
  simp only [Bool.and_eq_true, List.all_eq_true, decide_eq_true_eq] at this
  obtain ⟨⟨⟨a, b⟩, c⟩, d⟩ := this
  exact ⟨a, b, c, d⟩
theorem any_congr' {l : List Nat} {g h : Nat → Bool} (e : ∀ q ∈ l, g q = h q) : l.any g = l.any h := by
  induction l with
  | nil => rfl
  | cons a l ih =>
    simp only [List.any_cons]
    rw [e a (by simp), ih (fun q hq => e q (by simp [hq]))]
theorem lay_imm (f x : Int) (hf : isF f) (x0 : 0 ≤ x) (x1 : x < 4294967296) : layw f (imm f x) = bits .and .u32 x (mask f) := by
  have hi := imm_lt f x
  have hl := raw_lt (pI f) (pW f) (pN f) (imm f x) 4
  have ha := and_lt x (mask f)
  have hm := mask_lt f
  refine eq_of_tb _ _ hl.1 hl.2 ha.1 ha.2 fun p hp => ?_
  obtain ⟨c1, c2, c3, c4⟩ := check_at f hf p hp
  rw [tb_layw f _ p hf hi.1 hi.2 hp, tb_and _ _ p x0 x1 hm.1 hm.2, any_congr' (h := fun q => (iwire f q).any (tb x)) (fun q hq => tb_imm f x q hf x0 x1 (c1 q hq))]
  rw [← List.any_flatMap, c2]
  cases tb (mask f) p <;> simp
theorem imm_and (f x : Int) (hf : isF f) (x0 : 0 ≤ x) (x1 : x < 4294967296) : imm f (bits .and .u32 x (mask f)) = imm f x := by
  have hi := imm_lt f x
  have ha := and_lt x (mask f)
  have hj := imm_lt f (bits .and .u32 x (mask f))
  have hm := mask_lt f
  refine eq_of_tb _ _ hj.1 hj.2 hi.1 hi.2 fun p hp => ?_
  obtain ⟨c1, c2, c3, c4⟩ := check_at f hf p hp
  rw [tb_imm f _ p hf ha.1 ha.2 hp, tb_imm f _ p hf x0 x1 hp]
  exact any_congr' fun q hq => by rw [tb_and _ _ q x0 x1 hm.1 hm.2, (c3 q hq).2, Bool.and_true]
theorem imm_off (f x y : Int) (hf : isF f) (y0 : 0 ≤ y) (y1 : y < 4294967296) (h : ∀ q, tb y q = true → tb (mask f) q = false) : imm f y = 0 := by
  have hi := imm_lt f y
  refine eq_of_tb _ _ hi.1 hi.2 (by decide) (by decide) fun p hp => ?_
  obtain ⟨c1, c2, c3, c4⟩ := check_at f hf p hp
  rw [tb_imm f _ p hf y0 y1 hp, show tb 0 p = false from by simp [tb]]
  rw [List.any_eq_false]
  intro q hq ht
  have a := h q ht
  rw [(c3 q hq).2] at a
  cases a
theorem imm_or (f x y : Int) (hf : isF f) (x0 : 0 ≤ x) (x1 : x < 4294967296) (y0 : 0 ≤ y) (y1 : y < 4294967296) : imm f (bits .or .u32 x y) = bits .or .u32 (imm f x) (imm f y) := by
  have h1 := imm_lt f x
  have h2 := imm_lt f y
  have h3 := imm_lt f (bits .or .u32 x y)
  have h4 := or_lt (imm f x) (imm f y)
  have h5 := or_lt x y
  refine eq_of_tb _ _ h3.1 h3.2 h4.1 h4.2 fun p hp => ?_
  obtain ⟨c1, c2, c3, c4⟩ := check_at f hf p hp
  rw [tb_or _ _ p h1.1 h1.2 h2.1 h2.2, tb_imm f _ p hf h5.1 h5.2 hp, tb_imm f x p hf x0 x1 hp, tb_imm f y p hf y0 y1 hp]
  match hl : iwire f p, c4 with
  | [], _ => simp
  | [q], _ => simp [tb_or _ _ q x0 x1 y0 y1]
theorem imm_xor (f x y : Int) (hf : isF f) (x0 : 0 ≤ x) (x1 : x < 4294967296) (y0 : 0 ≤ y) (y1 : y < 4294967296) : imm f (bits .xor .u32 x y) = bits .xor .u32 (imm f x) (imm f y) := by
  have h1 := imm_lt f x
  have h2 := imm_lt f y
  have h3 := imm_lt f (bits .xor .u32 x y)
  have h4 := xor_lt (imm f x) (imm f y)
  have h5 := xor_lt x y
  refine eq_of_tb _ _ h3.1 h3.2 h4.1 h4.2 fun p hp => ?_
  obtain ⟨c1, c2, c3, c4⟩ := check_at f hf p hp
  rw [tb_xor _ _ p h1.1 h1.2 h2.1 h2.2, tb_imm f _ p hf h5.1 h5.2 hp, tb_imm f x p hf x0 x1 hp, tb_imm f y p hf y0 y1 hp]
  match hl : iwire f p, c4 with
  | [], _ => simp
  | [q], _ => simp [tb_xor _ _ q x0 x1 y0 y1]
theorem lay_back (f x : Int) (hf : isF f) (x0 : 0 ≤ x) (x1 : x < 4294967296) : layB f (imm f x) = true := by
  have hw := wid_in f hf
  unfold layB
  rw [lay_imm f x hf x0 x1, imm_and f x hf x0 x1]
  have : (wid f == 0) = false := by
    have : ¬ wid f = 0 := by omega
    simpa using this
  simp [this]
/-- The fields that all words have. -/
def hL (j : Nat) : Int := [0, 7, 12, 15, 20, 25].getD j 0
def hN (j : Nat) : Int := [7, 5, 3, 5, 5, 7].getD j 0
theorem join_split (x : Int) (x0 : 0 ≤ x) (x1 : x < 4294967296) : pack hL hN (fun j => bitsOf x (hL j) (hN j)) 6 = x := by
  rw [pack_raw hL hL hN x 6]
  have h := raw_lt hL hL hN x 6
  refine eq_of_tb _ _ h.1 h.2 x0 x1 fun p hp => ?_
  rw [tb_raw hL hL hN x 6 (by decide +kernel) p x0 x1 hp 6 (Nat.le_refl _)]
  have : wire hL hL hN p 6 = [p] := by
    have hc : ((List.range 32).all fun p => decide (wire hL hL hN p 6 = [p])) = true := by decide +kernel
    have := List.all_eq_true.1 hc p (List.mem_range.2 hp)
    simpa using this
  simp [this]
theorem apart : ((List.range 6).all fun i => (List.range 6).all fun j => decide (j = i) || decide (bits .and .u32 (placed 4294967295 (hL j) (hN j)) (placed 4294967295 (hL i) (hN i)) = 0)) = true := by decide +kernel
theorem split_join (V : Nat → Int) (hV : ∀ j, j < 6 → 0 ≤ V j ∧ V j < 4294967296) (i : Nat) (hi : i < 6) : bitsOf (pack hL hN V 6) (hL i) (hN i) = V i % 2 ^ (hN i).toNat := by
  have hd : ∀ j, j < 6 → j ≠ i → bits .and .u32 (placed 4294967295 (hL j) (hN j)) (placed 4294967295 (hL i) (hN i)) = 0 := by
    intro j hj hne
    have := List.all_eq_true.1 (List.all_eq_true.1 apart i (List.mem_range.2 hi)) j (List.mem_range.2 hj)
    simpa [hne] using this
  have hl := left_lt (V i) (hL i)
  have v := hV i hi
  match i, hi with
  | 0, _ | 1, _ | 2, _ | 3, _ | 4, _ | 5, _ =>
    rw [read_back hL hN V 6 _ (by decide) hV (by decide) (by decide) (by decide) (by decide) hd, bitsOf_eq _ _ _ hl.1 hl.2 (by decide) (by decide) (by decide)]
    unfold left
    simp only [hL, hN, List.getD_cons_zero, List.getD_cons_succ, Int.reduceToNat, Int.reducePow, Int.reduceMod, Nat.reduceLeDiff, Nat.min_eq_left]
    omega
end Go.Proofs.YtjdiepklgcdamaaDoor.W
