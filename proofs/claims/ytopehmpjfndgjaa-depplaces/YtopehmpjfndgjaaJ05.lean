/- Texts in one: PlainA, Pack. -/
import Derived.WalkSmall
import Derived.Test.YtopehmpjfndgjaaJ01
import Derived.Test.YtopehmpjfndgjaaJ04
/- Mirrors of package alu on numbers; without any Go. -/
namespace Go.Proofs.Ytopehmpjfndgjaa.W
open Go.RowKit
set_option linter.unusedVariables false

/-- The instruction without an immediate that reckons the same. -/
def pl (op : Int) : Int :=
  bif op == 19 then 28 else bif op == 20 then 31 else bif op == 21 then 32 else bif op == 22 then 33 else bif op == 23 then 36 else bif op == 24 then 37 else bif op == 25 then 30 else bif op == 26 then 34 else bif op == 27 then 35 else op
def doP (p a b : Int) : Int :=
  bif p == 28 then (a + b) % 4294967296 else
  bif p == 29 then (a - b) % 4294967296 else
  bif p == 30 then left a b else
  bif p == 31 then one (less a b true) else
  bif p == 32 then one (less a b false) else
  bif p == 33 then bits .xor .u32 a b else
  bif p == 34 then right a b false else
  bif p == 35 then right a b true else
  bif p == 36 then bits .or .u32 a b else
  bif p == 37 then bits .and .u32 a b else
  bif p == 51 then a * b % 4294967296 else
  bif p == 52 then high a b true true else
  bif p == 53 then high a b true false else
  bif p == 54 then high a b false false else
  bif p == 55 then div a b true else
  bif p == 56 then div a b false else
  bif p == 57 then rem a b true else
  bif p == 58 then rem a b false else 0
def doV (op a b : Int) : Int := doP (pl op) a b
def doB (op : Int) : Bool := fr 19 op 37 || fr 51 op 58
theorem doB_cases {op : Int} (h : doB op = true) : op = 19 ∨ op = 20 ∨ op = 21 ∨ op = 22 ∨ op = 23 ∨ op = 24 ∨ op = 25 ∨ op = 26 ∨ op = 27 ∨ op = 28 ∨ op = 29 ∨ op = 30 ∨ op = 31 ∨ op = 32 ∨ op = 33 ∨ op = 34 ∨ op = 35 ∨ op = 36 ∨ op = 37 ∨ op = 51 ∨ op = 52 ∨ op = 53 ∨ op = 54 ∨ op = 55 ∨ op = 56 ∨ op = 57 ∨ op = 58 := by
  simp [doB, fr] at h; omega
theorem doB_none {op : Int} (h : doB op = false) : (op == 19) = false ∧ (op == 20) = false ∧ (op == 21) = false ∧ (op == 22) = false ∧ (op == 23) = false ∧ (op == 24) = false ∧ (op == 25) = false ∧ (op == 26) = false ∧ (op == 27) = false ∧ (op == 28) = false ∧ (op == 29) = false ∧ (op == 30) = false ∧ (op == 31) = false ∧ (op == 32) = false ∧ (op == 33) = false ∧ (op == 34) = false ∧ (op == 35) = false ∧ (op == 36) = false ∧ (op == 37) = false ∧ (op == 51) = false ∧ (op == 52) = false ∧ (op == 53) = false ∧ (op == 54) = false ∧ (op == 55) = false ∧ (op == 56) = false ∧ (op == 57) = false ∧ (op == 58) = false := by
  simp [doB, fr] at h; simp; omega
theorem doV_none {op : Int} (a b : Int) (h : doB op = false) : doV op a b = 0 := by
  obtain ⟨h19, h20, h21, h22, h23, h24, h25, h26, h27, h28, h29, h30, h31, h32, h33, h34, h35, h36, h37, h51, h52, h53, h54, h55, h56, h57, h58⟩ := doB_none h
  simp only [doV, doP, pl, cond_false, *]

def takB (op : Int) : Bool := fr 5 op 10
def takV (op a b : Int) : Bool :=
  bif op == 5 then a == b else bif op == 6 then a != b else bif op == 7 then less a b true else bif op == 8 then !less a b true else bif op == 9 then less a b false else bif op == 10 then !less a b false else false
theorem takB_cases {op : Int} (h : takB op = true) : op = 5 ∨ op = 6 ∨ op = 7 ∨ op = 8 ∨ op = 9 ∨ op = 10 := by
  simp [takB, fr] at h; omega
theorem takB_none {op : Int} (h : takB op = false) : (op == 5) = false ∧ (op == 6) = false ∧ (op == 7) = false ∧ (op == 8) = false ∧ (op == 9) = false ∧ (op == 10) = false := by
  simp [takB, fr] at h; simp; omega
theorem takV_none {op : Int} (a b : Int) (h : takB op = false) : takV op a b = false := by
  obtain ⟨h5, h6, h7, h8, h9, h10⟩ := takB_none h
  simp only [takV, cond_false, *]

def least (a b : Int) (s : Bool) : Int := bif less b a s then b else a
def most (a b : Int) (s : Bool) : Int := bif less a b s then b else a
def amoB (op : Int) : Bool := fr 61 op 69
def amoV (op a b : Int) : Int :=
  bif op == 61 then b else bif op == 62 then (a + b) % 4294967296 else bif op == 63 then bits .xor .u32 a b else bif op == 64 then bits .and .u32 a b else bif op == 65 then bits .or .u32 a b else
  bif op == 66 then least a b true else bif op == 67 then most a b true else bif op == 68 then least a b false else bif op == 69 then most a b false else 0
theorem amoB_cases {op : Int} (h : amoB op = true) : op = 61 ∨ op = 62 ∨ op = 63 ∨ op = 64 ∨ op = 65 ∨ op = 66 ∨ op = 67 ∨ op = 68 ∨ op = 69 := by
  simp [amoB, fr] at h; omega
theorem amoB_none {op : Int} (h : amoB op = false) : (op == 61) = false ∧ (op == 62) = false ∧ (op == 63) = false ∧ (op == 64) = false ∧ (op == 65) = false ∧ (op == 66) = false ∧ (op == 67) = false ∧ (op == 68) = false ∧ (op == 69) = false := by
  simp [amoB, fr] at h; simp; omega
theorem amoV_none {op : Int} (a b : Int) (h : amoB op = false) : amoV op a b = 0 := by
  obtain ⟨h61, h62, h63, h64, h65, h66, h67, h68, h69⟩ := amoB_none h
  simp only [amoV, cond_false, *]

def sz (op : Int) : Int := bif (op == 11) || ((op == 14) || (op == 16)) then 1 else bif (op == 12) || ((op == 15) || (op == 17)) then 2 else bif (op == 13) || ((op == 18) || fr 59 op 69) then 4 else 0
/-- What has to do with memory. -/
def memB (op : Int) : Bool := fr 11 op 18 || fr 59 op 69
theorem memB_cases {op : Int} (h : memB op = true) : op = 11 ∨ op = 12 ∨ op = 13 ∨ op = 14 ∨ op = 15 ∨ op = 16 ∨ op = 17 ∨ op = 18 ∨ op = 59 ∨ op = 60 ∨ op = 61 ∨ op = 62 ∨ op = 63 ∨ op = 64 ∨ op = 65 ∨ op = 66 ∨ op = 67 ∨ op = 68 ∨ op = 69 := by
  simp [memB, fr] at h; omega
theorem memB_none {op : Int} (h : memB op = false) : (op == 11) = false ∧ (op == 12) = false ∧ (op == 13) = false ∧ (op == 14) = false ∧ (op == 15) = false ∧ (op == 16) = false ∧ (op == 17) = false ∧ (op == 18) = false ∧ (op == 59) = false ∧ (op == 60) = false ∧ (kind op == 4) = false ∧ (kind op == 5) = false ∧ (kind op == 6) = false ∧ sz op = 0 ∧ (decide (59 ≤ op) && decide (op ≤ 69)) = false ∧ (decide (61 ≤ op) && decide (op ≤ 69)) = false := by
  have h' := h
  simp [memB, fr] at h
  have a1 : fr 11 op 15 = false := by simp [fr]; omega
  have a2 : (op == 59) = false := by simp; omega
  have a3 : fr 16 op 18 = false := by simp [fr]; omega
  have a4 : fr 60 op 69 = false := by simp [fr]; omega
  have a5 : fr 59 op 69 = false := by simp [fr]; omega
  have e : ∀ k, (11 ≤ k ∧ k ≤ 18) ∨ k = 60 → (op == k) = false := fun k hk => by simp; omega
  refine ⟨e _ (by omega), e _ (by omega), e _ (by omega), e _ (by omega), e _ (by omega), e _ (by omega), e _ (by omega), e _ (by omega), a2, e _ (by omega), ?_, ?_, ?_, ?_, ?_, ?_⟩
  · simp only [kind, a1, a2, a3, a4, cond_false]; cases known op <;> cases fr 1 op 2 <;> cases fr 19 op 37 <;> cases fr 51 op 58 <;> cases fr 3 op 4 <;> cases fr 5 op 10 <;> decide
  · simp only [kind, a1, a2, a3, a4, cond_false]; cases known op <;> cases fr 1 op 2 <;> cases fr 19 op 37 <;> cases fr 51 op 58 <;> cases fr 3 op 4 <;> cases fr 5 op 10 <;> decide
  · simp only [kind, a1, a2, a3, a4, cond_false]; cases known op <;> cases fr 1 op 2 <;> cases fr 19 op 37 <;> cases fr 51 op 58 <;> cases fr 3 op 4 <;> cases fr 5 op 10 <;> decide
  · simp only [sz, a5, e 11 (by omega), e 12 (by omega), e 13 (by omega), e 14 (by omega), e 15 (by omega), e 16 (by omega), e 17 (by omega), e 18 (by omega), Bool.or_false, cond_false]
  · simp; omega
  · simp; omega
def ext (op x : Int) : Int :=
  bif op == 11 then sgn x 8 else bif op == 12 then sgn x 16 else bif fr 13 op 15 || ((op == 59) || fr 61 op 69) then bitsOf x 0 (8 * sz op) else 0
def cut (op x : Int) : Int := bif fr 16 op 18 || (op == 60) then bitsOf x 0 (8 * sz op) else 0
theorem ext_none {op : Int} (x : Int) (h : memB op = false) : ext op x = 0 := by
  obtain ⟨h11, h12, h13, h14, h15, h16, h17, h18, h59, h60, _⟩ := memB_none h
  simp [memB, fr] at h
  have a1 : fr 13 op 15 = false := by simp [fr]; omega
  have a2 : fr 61 op 69 = false := by simp [fr]; omega
  simp only [ext, h11, h12, h59, a1, a2, Bool.or_false, cond_false]
theorem cut_none {op : Int} (x : Int) (h : memB op = false) : cut op x = 0 := by
  obtain ⟨h11, h12, h13, h14, h15, h16, h17, h18, h59, h60, _⟩ := memB_none h
  simp [memB, fr] at h
  have a1 : fr 16 op 18 = false := by simp [fr]; omega
  simp only [cut, h60, a1, Bool.or_false, cond_false]
end Go.Proofs.Ytopehmpjfndgjaa.W

/- What word.Pack returns for whatever fields lie in memory. -/
namespace Go.Proofs.Ytopehmpjfndgjaa
open Go.ChangeShapes Go.WideShapes Go.ChangeAt Go.RowKit

theorem pack_any (b off len cap : Nat) (L N V : Nat → Int) (w : World) (hl : len ≤ 4611686018427387904) (hbB : b < w.heap.size)
    (hc0 : ∀ j, j < len → w.cell? ⟨b, off + j * 3, none⟩ = some (.int .i64 (L j)))
    (hc1 : ∀ j, j < len → w.cell? ⟨b, off + j * 3 + 1, none⟩ = some (.int .i64 (N j)))
    (hc2 : ∀ j, j < len → w.cell? ⟨b, off + j * 3 + 2, none⟩ = some (.int .u32 (V j))) :
    Calls Try.prog 61 #[.slice (some ⟨b, off, none⟩) len cap] w fun e w' => e = .returned (.int .u32 (W.pack L N V len)) ∧ Below w.heap.size w w' := by
  go_enter Try.func61, Try.ntmps61
  go_wp2
  go_loopw [3, 8] (fun t i wr => ∃ k : Nat, k ≤ len ∧ i = .int .i64 k ∧ t = .int .u32 (W.pack L N V k) ∧ Below w.heap.size w wr) (fun _ i _ => len - (intOf i).toNat)
  case atStart => exact ⟨0, Nat.zero_le _, rfl, rfl, Below.refl _ _⟩
  case round =>
    obtain ⟨k, hk, rfl, rfl, hbl⟩ := hrel
    by_cases hlt : k < len
    · have g0 : wr.cell? ⟨b, off + k * 3, none⟩ = some (.int .i64 (L k)) := (hbl.cell (by exact hbB)).trans (hc0 k hlt)
      have g1 : wr.cell? ⟨b, off + k * 3 + 1, none⟩ = some (.int .i64 (N k)) := (hbl.cell (by exact hbB)).trans (hc1 k hlt)
      have g2 : wr.cell? ⟨b, off + k * 3 + 2, none⟩ = some (.int .u32 (V k)) := (hbl.cell (by exact hbB)).trans (hc2 k hlt)
      clear hc0 hc1 hc2
      cases hw : W.within (L k) (N k)
      · have hp : Hid (W.pack L N V (k + 1) = W.pack L N V k) := by
          have : W.pack L N V (k + 1) = W.pack L N V k := by rw [W.pack, hw]; rfl
          exact this
        go_wp2_with (go_at_call 53; refine (within_any _ _ _).mono ?_; rintro e w' ⟨rfl, rfl⟩)
        go_roundw
        case rel => exact ⟨k + 1, by omega, by go_num, by rw [hp.out], hbl.alloc (by have := hbl.size; omega) _⟩
        case measure => simp [intOf]; omega
      · have hp : Hid (W.pack L N V (k + 1) = bits .or .u32 (W.pack L N V k) (W.place (V k) (L k) (N k))) := by
          have : W.pack L N V (k + 1) = bits .or .u32 (W.pack L N V k) (W.place (V k) (L k) (N k)) := by rw [W.pack, hw]; rfl
          exact this
        have h1 : 0 ≤ L k ∧ L k ≤ 31 ∧ 1 ≤ N k := by simpa [W.within] using hw
        obtain ⟨h1, h2, h3⟩ := h1
        go_wp2_with (go_at_call 53; refine (within_any _ _ _).mono ?_; rintro e w' ⟨rfl, rfl⟩)
        go_quiet ((go_at_call 54; exact Calls.quiet_of_same (lowest_any _ h3 _)))
        go_wp2
        go_roundw
        case rel => exact ⟨k + 1, by omega, by go_num, by rw [hp.out]; rfl, below_drewN (hbl.alloc (by have := hbl.size; omega) _) _⟩
        case measure => simp [intOf]; omega
    · go_wp2
      go_ret
      have : k = len := by omega
      subst this
      exact ⟨rfl, hbl⟩

theorem ex_cells (w : World) : (∀ j, j < 2 → (w.alloc (.cells #[.int .i64 0, .int .i64 7, .int .u32 19, .int .i64 7, .int .i64 5, .int .u32 1] 103)).cell? ⟨w.heap.size, 0 + j * 3, none⟩ = some (.int .i64 (W.exL j)))
    ∧ (∀ j, j < 2 → (w.alloc (.cells #[.int .i64 0, .int .i64 7, .int .u32 19, .int .i64 7, .int .i64 5, .int .u32 1] 103)).cell? ⟨w.heap.size, 0 + j * 3 + 1, none⟩ = some (.int .i64 (W.exN j)))
    ∧ (∀ j, j < 2 → (w.alloc (.cells #[.int .i64 0, .int .i64 7, .int .u32 19, .int .i64 7, .int .i64 5, .int .u32 1] 103)).cell? ⟨w.heap.size, 0 + j * 3 + 2, none⟩ = some (.int .u32 (W.exV j))) := by
  refine ⟨?_, ?_, ?_⟩
  all_goals
    intro j hj
    match j, hj with
    | 0, _ => simp [go_sem, W.exL, W.exN, W.exV]
    | 1, _ => simp [go_sem, W.exL, W.exN, W.exV]

end Go.Proofs.Ytopehmpjfndgjaa
