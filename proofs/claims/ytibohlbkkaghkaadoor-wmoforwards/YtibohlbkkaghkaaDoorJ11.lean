/- Texts in one: PpoQ2. -/
import Derived.Test.YtibohlbkkaghkaaDoorJ10
/- back, from a used look. -/
namespace Go.Proofs.YtibohlbkkaghkaaDoor
open Go.ChangeShapes Go.WideShapes Go.ChangeAt Go.RowKit
set_option linter.unusedVariables false
set_option linter.unusedSimpArgs false
variable {Φ : Nat → Option Obj}

namespace W
theorem fence_h (b : Act) (o : Oz) (s : St) : (fence b o s).h = s.h ∧ (fence b o s).g = s.g := by
  unfold fence
  cases (a8 (a8 b.t (o.o.sc % 256)) 3 != 0) <;> exact ⟨rfl, rfl⟩
theorem pass_k (b x : Act) (o : Oz) (s : St) : (pass b x o s).k = s.k := by
  unfold pass
  cases ((a8 x.t 2 == 0) || (a8 b.t 1 == 0) || !meets x.p b.p) <;> rfl
theorem hide_len (h : List Sp) (s : Sp) : (hide h s).length ≤ h.length + 1 := by
  unfold hide
  cases h.any (fun o => inside s o)
  · simp
  · simp
theorem pass_len (b x : Act) (o : Oz) (s : St) : (pass b x o s).h.length ≤ s.h.length + 1 := by
  unfold pass
  cases ((a8 x.t 2 == 0) || (a8 b.t 1 == 0) || !meets x.p b.p)
  · exact hide_len _ _
  · show s.h.length ≤ _; omega
theorem bk_len (A : Nat → Act) (x : Nat → Oz) (b : Nat) (pb : Int) : ∀ i, (bk A x b pb i).h.length ≤ i
  | 0 => Nat.le_refl 0
  | i + 1 => by
    have := bk_len A x b pb i
    unfold bk step
    cases (a8 (A (b - 1 - i)).t 4 != 0)
    · cases (goes (A b) (A (b - 1 - i)) (bk A x b pb i) ((bk A x b pb i).g (b - 1 - i)))
      · show (bk A x b pb i).h.length ≤ _; omega
      · have := pass_len (A b) (A (b - 1 - i)) (x (b - 1 - i)) (bk A x b pb i)
        show (pass _ _ _ _).h.length ≤ _
        omega
    · show (fence _ _ _).h.length ≤ _
      rw [(fence_h _ _ _).1]
      omega
/-- Back from b, over what was noted ahead. -/
def bkG (G : Nat → Int) (A : Nat → Act) (x : Nat → Oz) (b : Nat) (pb : Int) : Nat → St
  | 0 => ⟨keep0 (A b).t, [], hangG G (A b).t pb (x b)⟩
  | i + 1 => step (A b) (A (b - 1 - i)) (x (b - 1 - i)) ((bkG G A x b pb i).g (b - 1 - i)) (bkG G A x b pb i)
def rulG (G : Nat → Int) (A : Nat → Act) (x : Nat → Oz) (b : Nat) (pb : Int) (a : Nat) : Int := rul (A b) (A a) ((bkG G A x b pb (b - 1 - a)).g a) (bkG G A x b pb (b - 1 - a))
theorem bkG_len (G : Nat → Int) (A : Nat → Act) (x : Nat → Oz) (b : Nat) (pb : Int) : ∀ i, (bkG G A x b pb i).h.length ≤ i
  | 0 => Nat.le_refl 0
  | i + 1 => by
    have := bkG_len G A x b pb i
    unfold bkG step
    cases (a8 (A (b - 1 - i)).t 4 != 0)
    · cases (goes (A b) (A (b - 1 - i)) (bkG G A x b pb i) ((bkG G A x b pb i).g (b - 1 - i)))
      · show (bkG G A x b pb i).h.length ≤ _; omega
      · have := pass_len (A b) (A (b - 1 - i)) (x (b - 1 - i)) (bkG G A x b pb i)
        show (pass _ _ _ _).h.length ≤ _
        omega
    · show (fence _ _ _).h.length ≤ _
      rw [(fence_h _ _ _).1]
      omega
/-- Two that are the same ahead of b. -/
def Ag (b : Nat) (s t : St) : Prop := s.k = t.k ∧ s.h = t.h ∧ ∀ j, j < b → s.g j = t.g j
theorem note_ag {r : Int} {l : List Int} {g h : Nat → Int} {j : Nat} (e : g j = h j) : note r l g j = note r l h j := by unfold note; rw [e]
theorem hang_ag (G : Nat → Int) (t pb : Int) (o : Oz) (b j : Nat) (hj : j < b) : hangG (cl b G) t pb o j = hang0 t pb o j := by
  have e : note 10 o.d (note 9 o.a (note 8 [pb] (cl b G))) j = note 10 o.d (note 9 o.a (note 8 [pb] fun _ => 0)) j := note_ag (note_ag (note_ag (if_pos hj)))
  unfold hangG hang0
  try dsimp only
  cases (a8 t 2 != 0)
  · exact e
  · exact note_ag e
theorem step_ag {b : Nat} (B X : Act) (o : Oz) (hg : Int) (s t : St) (h : Ag b s t) : Ag b (step B X o hg s) (step B X o hg t) := by
  obtain ⟨sk, sh, sg⟩ := s
  obtain ⟨tk, th, tg⟩ := t
  obtain ⟨h1, h2, h3⟩ := h
  dsimp only at h1 h2 h3
  subst h1 h2
  unfold step
  cases (a8 X.t 4 != 0)
  · show Ag b (bif goes B X ⟨sk, sh, sg⟩ hg then _ else _) (bif goes B X ⟨sk, sh, tg⟩ hg then _ else _)
    rw [show goes B X ⟨sk, sh, tg⟩ hg = goes B X ⟨sk, sh, sg⟩ hg from rfl]
    cases goes B X ⟨sk, sh, sg⟩ hg
    · exact ⟨rfl, rfl, h3⟩
    · show Ag b (pass _ _ _ _) (pass _ _ _ _)
      unfold pass
      cases ((a8 X.t 2 == 0) || (a8 B.t 1 == 0) || !meets X.p B.p)
      · refine ⟨rfl, rfl, fun j hj => ?_⟩
        dsimp only [cond]
        cases sees sh X.p B.p
        · exact h3 j hj
        · exact note_ag (note_ag (h3 j hj))
      · exact ⟨rfl, rfl, h3⟩
  · show Ag b (fence _ _ _) (fence _ _ _)
    unfold fence
    cases (a8 (a8 B.t (o.o.sc % 256)) 3 != 0)
    · exact ⟨rfl, rfl, h3⟩
    · exact ⟨rfl, rfl, h3⟩
theorem bk_ag (G : Nat → Int) (A : Nat → Act) (x : Nat → Oz) (b : Nat) (pb : Int) : ∀ i, i < b + 1 → Ag b (bkG (cl b G) A x b pb i) (bk A x b pb i)
  | 0, _ => ⟨rfl, rfl, fun j hj => hang_ag G _ pb _ b j hj⟩
  | i + 1, hi => by
    have ih := bk_ag G A x b pb i (by omega)
    unfold bkG bk
    rw [ih.2.2 (b - 1 - i) (by omega)]
    exact step_ag _ _ _ _ _ _ ih
theorem rul_ag (G : Nat → Int) (A : Nat → Act) (x : Nat → Oz) (b : Nat) (pb : Int) (a : Nat) (ha : a < b) : rulG (cl b G) A x b pb a = rulA A x b pb a := by
  have ih := bk_ag G A x b pb (b - 1 - a) (by omega)
  unfold rulG rulA
  rw [ih.2.2 a ha]
  generalize bkG (cl b G) A x b pb (b - 1 - a) = s at *
  generalize bk A x b pb (b - 1 - a) = t at *
  obtain ⟨sk, sh, sg⟩ := s
  obtain ⟨tk, th, tg⟩ := t
  obtain ⟨h1, h2, h3⟩ := ih
  dsimp only at h1 h2 h3
  subst h1 h2
  rfl
end W
/-- What the test reads, over a call. -/
theorem tst_below {wr w1 w2 : World} {ab kb gb n j : Nat} {F Z T F2 Z2 K HG : Int} (h : Below wr.heap.size wr w1 ∧ ab < w1.heap.size ∧ kb < w1.heap.size ∧ gb < w1.heap.size ∧ w1.cell? ⟨ab, j * 3, none⟩ = some (.int .u32 F) ∧ w1.cell? ⟨ab, j * 3 + 1, none⟩ = some (.int .u64 Z) ∧ w1.cell? ⟨ab, j * 3 + 2, none⟩ = some (.int .u8 T) ∧ w1.cell? ⟨kb, 4, none⟩ = some (.slice (some ⟨gb, 0, none⟩) n n) ∧ w1.cell? ⟨kb, 5, none⟩ = some (.int .u32 F2) ∧ w1.cell? ⟨kb, 6, none⟩ = some (.int .u64 Z2) ∧ w1.cell? ⟨kb, 8, none⟩ = some (.int .u8 K) ∧ w1.cell? ⟨gb, j, none⟩ = some (.int .u8 HG)) (hb : Below w1.heap.size w1 w2) : Below wr.heap.size wr w2 ∧ ab < w2.heap.size ∧ kb < w2.heap.size ∧ gb < w2.heap.size ∧ w2.cell? ⟨ab, j * 3, none⟩ = some (.int .u32 F) ∧ w2.cell? ⟨ab, j * 3 + 1, none⟩ = some (.int .u64 Z) ∧ w2.cell? ⟨ab, j * 3 + 2, none⟩ = some (.int .u8 T) ∧ w2.cell? ⟨kb, 4, none⟩ = some (.slice (some ⟨gb, 0, none⟩) n n) ∧ w2.cell? ⟨kb, 5, none⟩ = some (.int .u32 F2) ∧ w2.cell? ⟨kb, 6, none⟩ = some (.int .u64 Z2) ∧ w2.cell? ⟨kb, 8, none⟩ = some (.int .u8 K) ∧ w2.cell? ⟨gb, j, none⟩ = some (.int .u8 HG) := by
  obtain ⟨h1, h2, h3, h4, h5, h6, h7, h8, h9, h10, h11, h12⟩ := h
  obtain ⟨q, _⟩ := bcell hb
  have z := hb.size
  exact ⟨h1.trans (hb.mono h1.size), by omega, by omega, by omega, (q _ _ h2).trans h5, (q _ _ h2).trans h6, (q _ _ h2).trans h7, (q _ _ h3).trans h8, (q _ _ h3).trans h9, (q _ _ h3).trans h10, (q _ _ h3).trans h11, (q _ _ h4).trans h12⟩
theorem tst_drew {wr : World} {ab kb gb n j : Nat} {F Z T F2 Z2 K HG : Int} (h2 : ab < wr.heap.size) (h3 : kb < wr.heap.size) (h4 : gb < wr.heap.size) (h5 : wr.cell? ⟨ab, j * 3, none⟩ = some (.int .u32 F)) (h6 : wr.cell? ⟨ab, j * 3 + 1, none⟩ = some (.int .u64 Z)) (h7 : wr.cell? ⟨ab, j * 3 + 2, none⟩ = some (.int .u8 T)) (h8 : wr.cell? ⟨kb, 4, none⟩ = some (.slice (some ⟨gb, 0, none⟩) n n)) (h9 : wr.cell? ⟨kb, 5, none⟩ = some (.int .u32 F2)) (h10 : wr.cell? ⟨kb, 6, none⟩ = some (.int .u64 Z2)) (h11 : wr.cell? ⟨kb, 8, none⟩ = some (.int .u8 K)) (h12 : wr.cell? ⟨gb, j, none⟩ = some (.int .u8 HG)) : Below wr.heap.size wr wr.drew ∧ ab < wr.drew.heap.size ∧ kb < wr.drew.heap.size ∧ gb < wr.drew.heap.size ∧ wr.drew.cell? ⟨ab, j * 3, none⟩ = some (.int .u32 F) ∧ wr.drew.cell? ⟨ab, j * 3 + 1, none⟩ = some (.int .u64 Z) ∧ wr.drew.cell? ⟨ab, j * 3 + 2, none⟩ = some (.int .u8 T) ∧ wr.drew.cell? ⟨kb, 4, none⟩ = some (.slice (some ⟨gb, 0, none⟩) n n) ∧ wr.drew.cell? ⟨kb, 5, none⟩ = some (.int .u32 F2) ∧ wr.drew.cell? ⟨kb, 6, none⟩ = some (.int .u64 Z2) ∧ wr.drew.cell? ⟨kb, 8, none⟩ = some (.int .u8 K) ∧ wr.drew.cell? ⟨gb, j, none⟩ = some (.int .u8 HG) :=
  ⟨(Below.refl _ _).drew, h2, h3, h4, h5, h6, h7, h8, h9, h10, h11, h12⟩


theorem begin2_any (w0 : World) (d : Kd) (w : World) (h : LkF Φ w0 d w) (b : Nat) (hb : b < d.n) (hn : d.n ≤ 4096) (lg lo lc : Nat) (hl : d.l = .slice (some ⟨lg, lo, none⟩) d.n lc) (z : W.Oz) (hz : OzAt lg (lo + b * 13) z w0) :
    Calls Tryd.prog 66 #[.pointer (some ⟨d.kb, 0, none⟩), .int .i64 (b : Int)] w fun e w' => e = .returned (.tuple #[]) ∧ ∃ H, LkF Φ w0 { d with b := d.A b, k := W.keep0 (d.A b).t, G := W.hangG (W.cl b d.G) (d.A b).t (d.P b) z, H := H, hid := [] } w' := by
  have o := h.h
  rcases o.2 with ⟨h1, h2⟩ | ⟨hg, hc, cur, h1, h3⟩
  · have e1 : d.hid = [] := List.length_eq_zero_iff.1 h2
    have e2 : d.H = W.Sl.nil := by
      revert h1
      generalize d.H = H
      intro h1
      obtain ⟨a, m, c⟩ := H
      simp [slV] at h1
      obtain ⟨rfl, rfl, rfl⟩ := h1
      rfl
    refine (begin_n w0 d w h b hb hn e2 e1 lg lo lc hl z hz).mono ?_
    rintro e w' ⟨rfl, L⟩
    exact ⟨rfl, d.H, by rw [← e1]; exact L⟩
  · have e2 : d.H = ⟨some ⟨hg, 0, none⟩, d.hid.length, hc⟩ := by
      revert h1
      generalize d.H = H
      intro h1
      obtain ⟨a, m, c⟩ := H
      simp [slV] at h1
      obtain ⟨rfl, rfl, rfl⟩ := h1
      rfl
    refine (begin_s w0 d w h b hb hn hg hc e2 lg lo lc hl z hz).mono ?_
    rintro e w' ⟨rfl, L⟩
    exact ⟨rfl, _, L⟩
set_option maxRecDepth 10000 in
set_option maxHeartbeats 3200000 in
theorem backG_any (w0 : World) (d : Kd) (w : World) (h : LkF Φ w0 d w) (b a : Nat) (hab : a ≤ b) (hb : b < d.n) (hn : d.n ≤ 4000) (lg lo lc : Nat) (hl : d.l = .slice (some ⟨lg, lo, none⟩) d.n lc) (x : Nat → W.Oz) (hx : ∀ j, j ≤ b → OzAt lg (lo + j * 13) (x j) w0) (oa : ∀ j, j < d.n → W.SpOk (d.A j).p) :
    Calls Tryd.prog 59 #[.pointer (some ⟨d.kb, 0, none⟩), .int .i64 (b : Int), .int .i64 (a : Int)] w fun e w' => e = .returned (.tuple #[]) ∧ ∃ B k H hid G R, LkF Φ w0 { d with b := B, k := k, H := H, hid := hid, G := G, R := R } w' ∧ ∀ q, a ≤ q → q < b → R q = bif W.a8 (d.A b).t 4 != 0 then 0 else W.rulG (W.cl b d.G) d.A x b (d.P b) q := by
  obtain ⟨kb, ab, pb, rb, gb, n, l, A, PP, R, G1, B, k, H, hid⟩ := d
  try dsimp only at *
  subst hl
  have hB : (b : Int) < (n : Int) := by omega
  have k1 := h.k.c 1 (by decide)
  have k3 := h.k.c 3 (by decide)
  have kl := h.k.lt
  simp only [Kd.f] at k1 k3 kl
  have hcl := fun ty => h.r.clears0 b (Nat.le_of_lt hb) n ty
  have L1 := h.clearR b (Nat.le_of_lt hb)
  try dsimp only at L1 hcl
  generalize w.setCells rb 0 _ = W1 at *
  have r1 := L1.k.c 1 (by decide)
  have rl := L1.k.lt
  obtain ⟨_, _, r2⟩ := L1.act b hb
  have ral := L1.a.lt
  simp only [Kd.f] at r1 rl r2 ral
  have hBg := begin2_any w0 _ W1 L1 b hb (by show n ≤ 4096; omega) lg lo lc rfl (x b) (hx b (Nat.le_refl _))
  generalize W.cl b G1 = GG at *
  have HK : Hid (LkF _ _ _ _ ∧ Calls _ _ _ _ _ ∧ _ ∧ _) := ⟨L1, hBg, hx, oa⟩
  clear h L1 hBg hx oa
  cases q4 : (W.a8 (A b).t 4 != 0)
  · have q4' : (bits BinOp.and IntKind.u8 (A b).t 4 != 0) = false := q4
    clear q4
    go_enter Tryd.func59, Tryd.ntmps59
    go_wp2_with (fail)
    refine HK.out.2.1.mono ?_
    rintro e w1 ⟨rfl, H1, L2⟩
    try dsimp only at L2
    have HL2 : Hid _ := L2
    clear L2 k1 k3 kl r1 rl r2 ral hcl
    go_wp2
    go_loopw [6] (fun i wr => ∃ s : Nat, s ≤ b - a ∧ i = .int .i64 ((b : Int) - 1 - (s : Int)) ∧ ∃ H R, LkF Φ w0 ⟨kb, ab, pb, rb, gb, n, .slice (some ⟨lg, lo, none⟩) n lc, A, PP, R, (W.bkG GG A x b (PP b) s).g, A b, (W.bkG GG A x b (PP b) s).k, H, (W.bkG GG A x b (PP b) s).h⟩ wr ∧ (∀ q, q < b - s → R q = 0) ∧ ∀ q, b - s ≤ q → q < b → R q = W.rulG GG A x b (PP b) q) (fun i _ => (intOf i + 1 - (a : Int)).toNat)
    case atStart => exact ⟨0, by omega, by go_num, _, _, HL2.out, fun q hq => if_pos (by omega), fun q h1 h2 => by omega⟩
    case round =>
      obtain ⟨s, hs, rfl, H2, R2, L3, z1, z2⟩ := hrel
      by_cases hlt : s < b - a
      · obtain ⟨j, hj⟩ : ∃ j, j = b - 1 - s := ⟨_, rfl⟩
        have ej : (b : Int) - 1 - (s : Int) = (j : Int) := by omega
        have jb : j < b := by omega
        have hjs : b - s = j + 1 := by omega
        have hjs2 : b - (s + 1) = j := by omega
        have ja : (a : Int) ≤ (j : Int) := by omega
        have jn : (j : Int) < (n : Int) := by omega
        have hbk : W.bkG GG A x b (PP b) (s + 1) = W.step (A b) (A j) (x j) ((W.bkG GG A x b (PP b) s).g j) (W.bkG GG A x b (PP b) s) := by rw [hj]; rfl
        have hrul : W.rulG GG A x b (PP b) j = W.rul (A b) (A j) ((W.bkG GG A x b (PP b) s).g j) (W.bkG GG A x b (PP b) s) := by
          unfold W.rulG
          rw [show b - 1 - j = s by omega]
        have hln := W.bkG_len GG A x b (PP b) s
        have oz := HK.out.2.2.1 j (by omega)
        have oaj := HK.out.2.2.2 j (by omega)
        have oab := HK.out.2.2.2 b (by omega)
        rw [ej]
        have HJ : Hid (_ ∧ _ ∧ _) := ⟨hj, hjs, hjs2⟩
        clear ej hj hjs hjs2
        generalize W.bkG GG A x b (PP b) s = ST at *
        obtain ⟨K, HI, G⟩ := ST
        try dsimp only at *
        obtain ⟨x0, x1, x2⟩ := L3.act j (by show j < n; omega)
        have al := L3.a.lt
        have k0 := L3.k.c 0 (by decide)
        have k1 := L3.k.c 1 (by decide)
        have k3 := L3.k.c 3 (by decide)
        have k4 := L3.k.c 4 (by decide)
        have k5 := L3.k.c 5 (by decide)
        have k6 := L3.k.c 6 (by decide)
        have k8 := L3.k.c 8 (by decide)
        have kl := L3.k.lt
        have gj := L3.g.c j (by show j < n; omega)
        have gl := L3.g.lt
        simp only [Kd.f] at k0 k1 k3 k4 k5 k6 k8 kl al gj gl x0 x1 x2
        have z3 : R2 j = 0 := z1 j (by have := HJ.out.2.1; omega)
        cases q : (W.a8 (A j).t 4 != 0)
        · have q' : (bits BinOp.and IntKind.u8 (A j).t 4 != 0) = false := q
          have hst : W.step (A b) (A j) (x j) (G j) ⟨K, HI, G⟩ = bif W.goes (A b) (A j) ⟨K, HI, G⟩ (G j) then W.pass (A b) (A j) (x j) ⟨K, HI, G⟩ else ⟨K, HI, G⟩ := by unfold W.step; rw [q]; rfl
          have hrl : W.rul (A b) (A j) (G j) ⟨K, HI, G⟩ = bif W.goes (A b) (A j) ⟨K, HI, G⟩ (G j) then W.why ⟨K, HI, G⟩ (A b) (A j) (G j) else 0 := by unfold W.rul; rw [q]; rfl
          rw [hst] at hbk
          rw [hrl] at hrul
          clear q hst hrl
          have hM := fun w => meets_any (A j).p (A b).p oaj oab w
          unfold spV at hM
          have hW := fun w' (k : LkF Φ w0 ⟨kb, ab, pb, rb, gb, n, .slice (some ⟨lg, lo, none⟩) n lc, A, PP, R2, G, A b, K, H2, HI⟩ w') => why_any w0 _ w' k j (by show j < n; omega) (by show HI.length ≤ 4096; omega) oaj oab (G j)
          have hP := fun w' R' (k : LkF Φ w0 ⟨kb, ab, pb, rb, gb, n, .slice (some ⟨lg, lo, none⟩) n lc, A, PP, R', G, A b, K, H2, HI⟩ w') => pass_any w0 _ w' k j (by show j < n; omega) (by show n ≤ 4096; omega) (by show HI.length ≤ 4096; omega) oaj oab lg (lo + j * 13) (x j) oz
          unfold W.goes at hbk hrul
          unfold Kd.st at hW hP
          try dsimp only at hW hP hbk hrul
          generalize W.why ⟨K, HI, G⟩ (A b) (A j) (G j) = WY at *
          have hpk := W.pass_k (A b) (A j) (x j) ⟨K, HI, G⟩
          try dsimp only at hpk
          generalize W.pass (A b) (A j) (x j) ⟨K, HI, G⟩ = PS at *
          have HB : Hid (_ ∧ _ ∧ _ ∧ _) := ⟨hM, hW, hP, L3⟩
          have HZ : Hid (_ ∧ _ ∧ _ ∧ _ ∧ _ ∧ _) := ⟨hbk, hrul, z1, z2, z3, hpk⟩
          clear hM hW hP L3 hbk hrul z1 z2 z3 oz oaj oab hpk
          generalize hAj : A j = X at *
          generalize hAb : A b = Y at *
          obtain ⟨⟨F, Z⟩, T⟩ := X
          obtain ⟨⟨F2, Z2⟩, T2⟩ := Y
          try dsimp only at *
          generalize hGj : G j = HG at *
          generalize W.meets ⟨F, Z⟩ ⟨F2, Z2⟩ = M at *
          have HA : Hid (_ ∧ _ ∧ _) := ⟨hAj, hAb, hGj⟩
          clear hAj hAb hGj
          unfold W.a8 at HZ
          cases c1 : (bits BinOp.and IntKind.u8 T K != 0)
          · cases c2 : (HG != 0)
            · cases M
              · rw [c1, c2] at HZ
                go_wp2
                refine wp_region_quiet (C := fun w' => Below wr.heap.size wr w' ∧ ab < w'.heap.size ∧ kb < w'.heap.size ∧ gb < w'.heap.size ∧ w'.cell? ⟨ab, j * 3, none⟩ = some (.int .u32 F) ∧ w'.cell? ⟨ab, j * 3 + 1, none⟩ = some (.int .u64 Z) ∧ w'.cell? ⟨ab, j * 3 + 2, none⟩ = some (.int .u8 T) ∧ w'.cell? ⟨kb, 4, none⟩ = some (.slice (some ⟨gb, 0, none⟩) n n) ∧ w'.cell? ⟨kb, 5, none⟩ = some (.int .u32 F2) ∧ w'.cell? ⟨kb, 6, none⟩ = some (.int .u64 Z2) ∧ w'.cell? ⟨kb, 8, none⟩ = some (.int .u8 K) ∧ w'.cell? ⟨gb, j, none⟩ = some (.int .u8 HG)) (by kernel_rfl) (by kernel_rfl) (tst_drew al kl gl x0 x1 x2 k4 k5 k6 k8 gj) ?_
                clear x0 x1 x2 k4 k5 k6 k8 gj
                simp only [List.toList_toArray]
                repeat (first
                  | go_big_quiet_skip
                  | (go_big_quiet_want; go_big_quiet_op; go_big_quiet_on)
                  | (go_big_quiet_want
                     apply Exists.intro
                     refine ⟨fun wq hw => ?_, ?_⟩
                     · (try dsimp only at hw)
                       go_simp
                       first
                         | rfl
                         | (go_at_call 68; refine (HB.out.1 _).mono ?_; rintro e w5 ⟨rfl, hm⟩; exact ⟨rfl, tst_below hw hm⟩)
                     (try simp only [Act.put, List.setIfInBounds_toArray, List.set_cons_zero, List.set_cons_succ])
                     go_big_quiet_on))
                refine wpQuiet_nil ?_
                intro w9 hS9
                have B9 := hS9.1
                have X : LkF Φ w0 ⟨kb, ab, pb, rb, gb, n, .slice (some ⟨lg, lo, none⟩) n lc, A, PP, R2, (W.bkG GG A x b (PP b) (s + 1)).g, A b, (W.bkG GG A x b (PP b) (s + 1)).k, H2, (W.bkG GG A x b (PP b) (s + 1)).h⟩ w9 := by
                  rw [HZ.out.1, HA.out.2.1]
                  exact HB.out.2.2.2.below B9
                have HX : Hid _ := X
                clear X hS9 k0 k1 k3
                go_wp2
                go_roundw
                case rel =>
                  refine ⟨s + 1, by omega, by have := HJ.out.1; go_num, H2, R2, by rw [← HA.out.2.1]; exact HX.out, fun q hq => HZ.out.2.2.1 q (by have := HJ.out; omega), fun q h1 h2 => ?_⟩
                  by_cases e : q = j
                  · rw [e, HZ.out.2.1]; exact HZ.out.2.2.2.2.1
                  · exact HZ.out.2.2.2.1 q (by have := HJ.out; omega) h2
                case measure => have := HJ.out.1; simp [intOf]; omega
              · rw [c1, c2] at HZ
                go_wp2
                refine wp_region_quiet (C := fun w' => Below wr.heap.size wr w' ∧ ab < w'.heap.size ∧ kb < w'.heap.size ∧ gb < w'.heap.size ∧ w'.cell? ⟨ab, j * 3, none⟩ = some (.int .u32 F) ∧ w'.cell? ⟨ab, j * 3 + 1, none⟩ = some (.int .u64 Z) ∧ w'.cell? ⟨ab, j * 3 + 2, none⟩ = some (.int .u8 T) ∧ w'.cell? ⟨kb, 4, none⟩ = some (.slice (some ⟨gb, 0, none⟩) n n) ∧ w'.cell? ⟨kb, 5, none⟩ = some (.int .u32 F2) ∧ w'.cell? ⟨kb, 6, none⟩ = some (.int .u64 Z2) ∧ w'.cell? ⟨kb, 8, none⟩ = some (.int .u8 K) ∧ w'.cell? ⟨gb, j, none⟩ = some (.int .u8 HG)) (by kernel_rfl) (by kernel_rfl) (tst_drew al kl gl x0 x1 x2 k4 k5 k6 k8 gj) ?_
                clear x0 x1 x2 k4 k5 k6 k8 gj
                simp only [List.toList_toArray]
                repeat (first
                  | go_big_quiet_skip
                  | (go_big_quiet_want; go_big_quiet_op; go_big_quiet_on)
                  | (go_big_quiet_want
                     apply Exists.intro
                     refine ⟨fun wq hw => ?_, ?_⟩
                     · (try dsimp only at hw)
                       go_simp
                       first
                         | rfl
                         | (go_at_call 68; refine (HB.out.1 _).mono ?_; rintro e w5 ⟨rfl, hm⟩; exact ⟨rfl, tst_below hw hm⟩)
                     (try simp only [Act.put, List.setIfInBounds_toArray, List.set_cons_zero, List.set_cons_succ])
                     go_big_quiet_on))
                refine wpQuiet_nil ?_
                intro w9 hS9
                have B9 := hS9.1
                have L9 := HB.out.2.2.2.below B9
                have k3' := L9.k.c 3 (by decide)
                have k4' := L9.k.c 4 (by decide)
                have kl' := L9.k.lt
                have gj' := L9.g.c j (by show j < n; omega)
                have gl' := L9.g.lt
                simp only [Kd.f] at k3' k4' kl' gj' gl'
                rw [HA.out.2.2] at gj'
                have HL9 : Hid _ := L9
                clear L9 hS9 k0 k1 k3
                go_wp2_with (fail)
                go_region_with ((go_at_call 69; refine (HB.out.2.1 _ (HL9.out.below (Below.refl _ _).drew)).mono ?_; rintro e w5 ⟨rfl, b5⟩; have L5 := HL9.out.below ((Below.refl _ _).drew.trans b5); have k35 := L5.k.c 3 (by decide); have kl5 := L5.k.lt; have rj5 := L5.r.c j (by show j < n; omega); have rl5 := L5.r.lt; have rf5 := L5.r.fz j; simp only [Kd.f] at k35 kl5 rj5 rl5 rf5))
                all_goals
                  have L6 := L5.setR j WY
                  try dsimp only at L6
                  obtain ⟨_, _, y2⟩ := L6.act j (by show j < n; omega)
                  have k0 := L6.k.c 0 (by decide)
                  have kl6 := L6.k.lt
                  simp only [Kd.f] at k0 kl6
                  have HL6 : Hid _ := L6
                  clear L6 L5 k35 kl5 rj5 rl5 rf5 k3' k4' kl' gj' gl' HL9 b5 y2
                  go_wp2_with (fail)
                  refine (HB.out.2.2.1 _ _ HL6.out).mono ?_
                  rintro e w7 ⟨rfl, P7, L7⟩
                  have X : LkF Φ w0 ⟨kb, ab, pb, rb, gb, n, .slice (some ⟨lg, lo, none⟩) n lc, A, PP, (updI R2 j WY), (W.bkG GG A x b (PP b) (s + 1)).g, A b, (W.bkG GG A x b (PP b) (s + 1)).k, P7, (W.bkG GG A x b (PP b) (s + 1)).h⟩ w7 := by
                    rw [HZ.out.1, HA.out.2.1]
                    show LkF Φ w0 ⟨kb, ab, pb, rb, gb, n, .slice (some ⟨lg, lo, none⟩) n lc, A, PP, updI R2 j WY, PS.g, ⟨⟨F2, Z2⟩, T2⟩, PS.k, P7, PS.h⟩ w7
                    rw [HZ.out.2.2.2.2.2]
                    exact L7
                  have HX : Hid _ := X
                  clear X L7 k0 kl6 HL6
                  go_wp2
                  go_roundw
                  case rel =>
                    refine ⟨s + 1, by omega, by have := HJ.out.1; go_num, P7, updI R2 j WY, by rw [← HA.out.2.1]; exact HX.out, fun q hq => ?_, fun q h1 h2 => ?_⟩
                    · unfold updI
                      rw [if_neg (by have := HJ.out; omega)]
                      exact HZ.out.2.2.1 q (by have := HJ.out; omega)
                    · unfold updI
                      by_cases e : q = j
                      · rw [if_pos e, e, HZ.out.2.1]; rfl
                      · rw [if_neg e]
                        exact HZ.out.2.2.2.1 q (by have := HJ.out; omega) h2
                  case measure => have := HJ.out.1; simp [intOf]; omega
            · rw [c1, c2] at HZ
              go_wp2
              refine wp_region_quiet (C := fun w' => Below wr.heap.size wr w' ∧ ab < w'.heap.size ∧ kb < w'.heap.size ∧ gb < w'.heap.size ∧ w'.cell? ⟨ab, j * 3, none⟩ = some (.int .u32 F) ∧ w'.cell? ⟨ab, j * 3 + 1, none⟩ = some (.int .u64 Z) ∧ w'.cell? ⟨ab, j * 3 + 2, none⟩ = some (.int .u8 T) ∧ w'.cell? ⟨kb, 4, none⟩ = some (.slice (some ⟨gb, 0, none⟩) n n) ∧ w'.cell? ⟨kb, 5, none⟩ = some (.int .u32 F2) ∧ w'.cell? ⟨kb, 6, none⟩ = some (.int .u64 Z2) ∧ w'.cell? ⟨kb, 8, none⟩ = some (.int .u8 K) ∧ w'.cell? ⟨gb, j, none⟩ = some (.int .u8 HG)) (by kernel_rfl) (by kernel_rfl) (tst_drew al kl gl x0 x1 x2 k4 k5 k6 k8 gj) ?_
              clear x0 x1 x2 k4 k5 k6 k8 gj
              simp only [List.toList_toArray]
              repeat (first
                | go_big_quiet_skip
                | (go_big_quiet_want; go_big_quiet_op; go_big_quiet_on)
                | (go_big_quiet_want
                   apply Exists.intro
                   refine ⟨fun wq hw => ?_, ?_⟩
                   · (try dsimp only at hw)
                     go_simp
                     first
                       | rfl
                       | (go_at_call 68; refine (HB.out.1 _).mono ?_; rintro e w5 ⟨rfl, hm⟩; exact ⟨rfl, tst_below hw hm⟩)
                   (try simp only [Act.put, List.setIfInBounds_toArray, List.set_cons_zero, List.set_cons_succ])
                   go_big_quiet_on))
              refine wpQuiet_nil ?_
              intro w9 hS9
              have B9 := hS9.1
              have L9 := HB.out.2.2.2.below B9
              have k3' := L9.k.c 3 (by decide)
              have k4' := L9.k.c 4 (by decide)
              have kl' := L9.k.lt
              have gj' := L9.g.c j (by show j < n; omega)
              have gl' := L9.g.lt
              simp only [Kd.f] at k3' k4' kl' gj' gl'
              rw [HA.out.2.2] at gj'
              have HL9 : Hid _ := L9
              clear L9 hS9 k0 k1 k3
              go_wp2_with (fail)
              go_region_with ((go_at_call 69; refine (HB.out.2.1 _ (HL9.out.below (Below.refl _ _).drew)).mono ?_; rintro e w5 ⟨rfl, b5⟩; have L5 := HL9.out.below ((Below.refl _ _).drew.trans b5); have k35 := L5.k.c 3 (by decide); have kl5 := L5.k.lt; have rj5 := L5.r.c j (by show j < n; omega); have rl5 := L5.r.lt; have rf5 := L5.r.fz j; simp only [Kd.f] at k35 kl5 rj5 rl5 rf5))
              all_goals
                have L6 := L5.setR j WY
                try dsimp only at L6
                obtain ⟨_, _, y2⟩ := L6.act j (by show j < n; omega)
                have k0 := L6.k.c 0 (by decide)
                have kl6 := L6.k.lt
                simp only [Kd.f] at k0 kl6
                have HL6 : Hid _ := L6
                clear L6 L5 k35 kl5 rj5 rl5 rf5 k3' k4' kl' gj' gl' HL9 b5 y2
                go_wp2_with (fail)
                refine (HB.out.2.2.1 _ _ HL6.out).mono ?_
                rintro e w7 ⟨rfl, P7, L7⟩
                have X : LkF Φ w0 ⟨kb, ab, pb, rb, gb, n, .slice (some ⟨lg, lo, none⟩) n lc, A, PP, (updI R2 j WY), (W.bkG GG A x b (PP b) (s + 1)).g, A b, (W.bkG GG A x b (PP b) (s + 1)).k, P7, (W.bkG GG A x b (PP b) (s + 1)).h⟩ w7 := by
                  rw [HZ.out.1, HA.out.2.1]
                  show LkF Φ w0 ⟨kb, ab, pb, rb, gb, n, .slice (some ⟨lg, lo, none⟩) n lc, A, PP, updI R2 j WY, PS.g, ⟨⟨F2, Z2⟩, T2⟩, PS.k, P7, PS.h⟩ w7
                  rw [HZ.out.2.2.2.2.2]
                  exact L7
                have HX : Hid _ := X
                clear X L7 k0 kl6 HL6
                go_wp2
                go_roundw
                case rel =>
                  refine ⟨s + 1, by omega, by have := HJ.out.1; go_num, P7, updI R2 j WY, by rw [← HA.out.2.1]; exact HX.out, fun q hq => ?_, fun q h1 h2 => ?_⟩
                  · unfold updI
                    rw [if_neg (by have := HJ.out; omega)]
                    exact HZ.out.2.2.1 q (by have := HJ.out; omega)
                  · unfold updI
                    by_cases e : q = j
                    · rw [if_pos e, e, HZ.out.2.1]; rfl
                    · rw [if_neg e]
                      exact HZ.out.2.2.2.1 q (by have := HJ.out; omega) h2
                case measure => have := HJ.out.1; simp [intOf]; omega
          · rw [c1] at HZ
            go_wp2
            refine wp_region_quiet (C := fun w' => Below wr.heap.size wr w' ∧ ab < w'.heap.size ∧ kb < w'.heap.size ∧ gb < w'.heap.size ∧ w'.cell? ⟨ab, j * 3, none⟩ = some (.int .u32 F) ∧ w'.cell? ⟨ab, j * 3 + 1, none⟩ = some (.int .u64 Z) ∧ w'.cell? ⟨ab, j * 3 + 2, none⟩ = some (.int .u8 T) ∧ w'.cell? ⟨kb, 4, none⟩ = some (.slice (some ⟨gb, 0, none⟩) n n) ∧ w'.cell? ⟨kb, 5, none⟩ = some (.int .u32 F2) ∧ w'.cell? ⟨kb, 6, none⟩ = some (.int .u64 Z2) ∧ w'.cell? ⟨kb, 8, none⟩ = some (.int .u8 K) ∧ w'.cell? ⟨gb, j, none⟩ = some (.int .u8 HG)) (by kernel_rfl) (by kernel_rfl) (tst_drew al kl gl x0 x1 x2 k4 k5 k6 k8 gj) ?_
            clear x0 x1 x2 k4 k5 k6 k8 gj
            simp only [List.toList_toArray]
            repeat (first
              | go_big_quiet_skip
              | (go_big_quiet_want; go_big_quiet_op; go_big_quiet_on)
              | (go_big_quiet_want
                 apply Exists.intro
                 refine ⟨fun wq hw => ?_, ?_⟩
                 · (try dsimp only at hw)
                   go_simp
                   first
                     | rfl
                     | (go_at_call 68; refine (HB.out.1 _).mono ?_; rintro e w5 ⟨rfl, hm⟩; exact ⟨rfl, tst_below hw hm⟩)
                 (try simp only [Act.put, List.setIfInBounds_toArray, List.set_cons_zero, List.set_cons_succ])
                 go_big_quiet_on))
            refine wpQuiet_nil ?_
            intro w9 hS9
            have B9 := hS9.1
            have L9 := HB.out.2.2.2.below B9
            have k3' := L9.k.c 3 (by decide)
            have k4' := L9.k.c 4 (by decide)
            have kl' := L9.k.lt
            have gj' := L9.g.c j (by show j < n; omega)
            have gl' := L9.g.lt
            simp only [Kd.f] at k3' k4' kl' gj' gl'
            rw [HA.out.2.2] at gj'
            have HL9 : Hid _ := L9
            clear L9 hS9 k0 k1 k3
            go_wp2_with (fail)
            go_region_with ((go_at_call 69; refine (HB.out.2.1 _ (HL9.out.below (Below.refl _ _).drew)).mono ?_; rintro e w5 ⟨rfl, b5⟩; have L5 := HL9.out.below ((Below.refl _ _).drew.trans b5); have k35 := L5.k.c 3 (by decide); have kl5 := L5.k.lt; have rj5 := L5.r.c j (by show j < n; omega); have rl5 := L5.r.lt; have rf5 := L5.r.fz j; simp only [Kd.f] at k35 kl5 rj5 rl5 rf5))
            all_goals
              have L6 := L5.setR j WY
              try dsimp only at L6
              obtain ⟨_, _, y2⟩ := L6.act j (by show j < n; omega)
              have k0 := L6.k.c 0 (by decide)
              have kl6 := L6.k.lt
              simp only [Kd.f] at k0 kl6
              have HL6 : Hid _ := L6
              clear L6 L5 k35 kl5 rj5 rl5 rf5 k3' k4' kl' gj' gl' HL9 b5 y2
              go_wp2_with (fail)
              refine (HB.out.2.2.1 _ _ HL6.out).mono ?_
              rintro e w7 ⟨rfl, P7, L7⟩
              have X : LkF Φ w0 ⟨kb, ab, pb, rb, gb, n, .slice (some ⟨lg, lo, none⟩) n lc, A, PP, (updI R2 j WY), (W.bkG GG A x b (PP b) (s + 1)).g, A b, (W.bkG GG A x b (PP b) (s + 1)).k, P7, (W.bkG GG A x b (PP b) (s + 1)).h⟩ w7 := by
                rw [HZ.out.1, HA.out.2.1]
                show LkF Φ w0 ⟨kb, ab, pb, rb, gb, n, .slice (some ⟨lg, lo, none⟩) n lc, A, PP, updI R2 j WY, PS.g, ⟨⟨F2, Z2⟩, T2⟩, PS.k, P7, PS.h⟩ w7
                rw [HZ.out.2.2.2.2.2]
                exact L7
              have HX : Hid _ := X
              clear X L7 k0 kl6 HL6
              go_wp2
              go_roundw
              case rel =>
                refine ⟨s + 1, by omega, by have := HJ.out.1; go_num, P7, updI R2 j WY, by rw [← HA.out.2.1]; exact HX.out, fun q hq => ?_, fun q h1 h2 => ?_⟩
                · unfold updI
                  rw [if_neg (by have := HJ.out; omega)]
                  exact HZ.out.2.2.1 q (by have := HJ.out; omega)
                · unfold updI
                  by_cases e : q = j
                  · rw [if_pos e, e, HZ.out.2.1]; rfl
                  · rw [if_neg e]
                    exact HZ.out.2.2.2.1 q (by have := HJ.out; omega) h2
              case measure => have := HJ.out.1; simp [intOf]; omega
        · have q' : (bits BinOp.and IntKind.u8 (A j).t 4 != 0) = true := q
          have hst : W.step (A b) (A j) (x j) (G j) ⟨K, HI, G⟩ = W.fence (A b) (x j) ⟨K, HI, G⟩ := by unfold W.step; rw [q]; rfl
          have hrl : W.rul (A b) (A j) (G j) ⟨K, HI, G⟩ = 0 := by unfold W.rul; rw [q]; rfl
          rw [hst] at hbk
          rw [hrl] at hrul
          clear q hst hrl
          have hFn := fence_any w0 _ wr L3 lg (lo + j * 13) (x j) oz
          unfold Kd.st at hFn
          try dsimp only at hFn
          obtain ⟨fh, fg⟩ := W.fence_h (A b) (x j) ⟨K, HI, G⟩
          have HF : Hid (Calls _ _ _ _ _) := hFn
          have HZ : Hid (_ ∧ _ ∧ _ ∧ _ ∧ _ ∧ _ ∧ _) := ⟨hbk, hrul, z1, z2, z3, fh, fg⟩
          clear hFn L3 hbk hrul z1 z2 z3 oz oaj oab fh fg
          go_wp2_with (fail)
          refine HF.out.mono ?_
          rintro e w4 ⟨rfl, L4⟩
          have X : LkF Φ w0 ⟨kb, ab, pb, rb, gb, n, .slice (some ⟨lg, lo, none⟩) n lc, A, PP, R2, (W.bkG GG A x b (PP b) (s + 1)).g, A b, (W.bkG GG A x b (PP b) (s + 1)).k, H2, (W.bkG GG A x b (PP b) (s + 1)).h⟩ w4 := by
            rw [HZ.out.1, HZ.out.2.2.2.2.2.1, HZ.out.2.2.2.2.2.2]
            exact L4
          have HX : Hid _ := X
          clear X L4 k0 k1 k3 k4 k5 k6 k8 x0 x1 x2 gj
          go_wp2
          go_roundw
          case rel =>
            refine ⟨s + 1, by omega, by have := HJ.out.1; go_num, H2, R2, HX.out, fun q hq => HZ.out.2.2.1 q (by have := HJ.out; omega), fun q h1 h2 => ?_⟩
            by_cases e : q = j
            · rw [e, HZ.out.2.1]; exact HZ.out.2.2.2.2.1
            · exact HZ.out.2.2.2.1 q (by have := HJ.out; omega) h2
          case measure => have := HJ.out.1; simp [intOf]; omega
      · have e : s = b - a := by omega
        subst e
        have f1 : ¬ (a : Int) ≤ (b : Int) - 1 - ((b - a : Nat) : Int) := by omega
        have X := fun q (h1 : a ≤ q) (h2 : q < b) => z2 q (by omega) h2
        have HX : Hid (_ ∧ _) := ⟨L3, X⟩
        clear L3 X z1 z2
        go_wp2
        go_end0
        exact ⟨rfl, _, _, _, _, _, _, HX.out.1, HX.out.2⟩
  · have q4' : (bits BinOp.and IntKind.u8 (A b).t 4 != 0) = true := q4
    clear q4
    go_enter Tryd.func59, Tryd.ntmps59
    go_wp2
    exact bodyPost_ret (v := .tuple #[]) (by simp [results, Tryd.results59, go_sem]) rfl ⟨rfl, _, _, _, _, _, _, HK.out.1, fun q _ hq => if_pos hq⟩
theorem back2_any (w0 : World) (d : Kd) (w : World) (h : LkF Φ w0 d w) (b a : Nat) (hab : a ≤ b) (hb : b < d.n) (hn : d.n ≤ 4000) (lg lo lc : Nat) (hl : d.l = .slice (some ⟨lg, lo, none⟩) d.n lc) (x : Nat → W.Oz) (hx : ∀ j, j ≤ b → OzAt lg (lo + j * 13) (x j) w0) (oa : ∀ j, j < d.n → W.SpOk (d.A j).p) :
    Calls Tryd.prog 59 #[.pointer (some ⟨d.kb, 0, none⟩), .int .i64 (b : Int), .int .i64 (a : Int)] w fun e w' => e = .returned (.tuple #[]) ∧ ∃ B k H hid G R, LkF Φ w0 { d with b := B, k := k, H := H, hid := hid, G := G, R := R } w' ∧ ∀ q, a ≤ q → q < b → R q = bif W.a8 (d.A b).t 4 != 0 then 0 else W.rulA d.A x b (d.P b) q :=
  (backG_any w0 d w h b a hab hb hn lg lo lc hl x hx oa).mono fun e w' ⟨h1, B, k, H, hid, G, R, h2, h3⟩ => ⟨h1, B, k, H, hid, G, R, h2, fun q q1 q2 => by rw [h3 q q1 q2, W.rul_ag _ _ _ _ _ _ q2]⟩
end Go.Proofs.YtibohlbkkaghkaaDoor
