/- wmo: follow. -/
import Derived.Test.YtibohlbkkaghkaaDoorWmoH
namespace Go.Proofs.YtibohlbkkaghkaaDoor
open Go.ChangeShapes Go.WideShapes Go.ChangeAt Go.RowKit Go.Maps
set_option linter.unusedVariables false
set_option linter.unusedSimpArgs false

namespace W
/-- Behind k bytes of an operation at place p: what was written where, and what it reads. -/
def folO (o : Opr) (p : Int) (L : Int → Int) (f : Nat → Int) : Nat → (Int → Int) × (Nat → Int)
  | 0 => (L, f)
  | k + 1 =>
    let r := folO o p L f k
    (bif wrs o.k then updL r.1 (o.ad + k) (max (r.1 (o.ad + k)) p) else r.1, bif rds o.k then updF r.2 k (max (r.2 k) (r.1 (o.ad + k))) else r.2)
/-- Behind j steps of a line. -/
def fol (q : Nat → StR) (ln : Nat → Nat) : Nat → (Int → Int) × (Nat → StR)
  | 0 => (fun _ => 0, q)
  | j + 1 =>
    let r := fol q ln j
    let p := ln j
    let z := folO (r.2 p).o (p : Int) r.1 (r.2 p).fr (r.2 p).o.sz.toNat
    (z.1, updQ r.2 p { r.2 p with fr := z.2 })
/-- Bytes such as can be, or none at all. -/
structure Byt (o : Opr) : Prop where
  s0 : 0 ≤ o.sz
  s4 : o.sz ≤ 4
  a0 : 0 ≤ o.ad
  a1 : o.ad + o.sz ≤ 4294967296
end W
/-- What follow's loop over bytes keeps: the steps, the map, apart. -/
structure Fo (b N B c : Nat) (q : Nat → StR) (L : Int → Int) (w0 w : World) : Prop where
  s : Sb2 b N q w
  m : Mp B c L w
  ne : b ≠ B
  nw : w0.heap.size ≤ B
  g : w0.grownBy w (some b)
theorem gcomp {x y z : World} {b : Nat} {r : Option Nat} (h : x.grownBy y (some b)) (k : y.grownBy z r) (hr : ∀ d, r = some d → d = b ∨ x.heap.size ≤ d) : x.grownBy z (some b) :=
  ⟨k.os.trans h.os, k.tape.trans h.tape, k.output.trans h.output, Nat.le_trans h.size k.size, fun i hi hne => (k.block i (Nat.lt_of_lt_of_le hi h.size) (fun e => by
    rcases hr i e.symm with e2 | e2
    · exact hne (by rw [e2])
    · omega)).trans (h.block i hi hne)⟩
theorem gdrew (w : World) : w.grownBy w.drew none := ⟨rfl, rfl, rfl, Nat.le_refl _, fun _ _ _ => rfl⟩
theorem Fo.setF {b N B c : Nat} {q : Nat → StR} {L : Int → Int} {w0 w : World} (h : Fo b N B c q L w0 w) (p k : Nat) (hk : k < 4) (v : Int) : Fo b N B c (updQ q p { q p with fr := updF (q p).fr k v }) L w0 (w.setCell ⟨b, p * 19 + (15 + k), none⟩ (.int .i64 v)) := by
  have g1 := gsetCell w b (p * 19 + (15 + k)) (.int .i64 v)
  exact ⟨h.s.setF p k hk v, h.m.kept g1 (by simpa using h.ne.symm), h.ne, h.nw, gcomp h.g g1 (fun d e => by cases e; exact Or.inl rfl)⟩
theorem Fo.drew {b N B c : Nat} {q : Nat → StR} {L : Int → Int} {w0 w : World} (h : Fo b N B c q L w0 w) : Fo b N B c q L w0 w.drew :=
  ⟨h.s.other (gdrew w) (by simp), h.m.kept (gdrew w) (by simp), h.ne, h.nw, gcomp h.g (gdrew w) (fun d e => by cases e)⟩
theorem Fo.put {b N B c : Nat} {q : Nat → StR} {L : Int → Int} {w0 w : World} (h : Fo b N B c q L w0 w) (hc : c < 100000) (a v : Int) (h0 : 0 ≤ a) (h1 : a < 4294967296) (v0 : -9223372036854775808 ≤ v) (v1 : v ≤ 9223372036854775807) : ∃ w', (Instr.mapUpdate 102 (.map (some B)) (.int .u32 a) (.int .i64 v)).run Tryd.prog w = .ok () w' ∧ Fo b N B (c + 1) q (updL L a v) w0 w' := by
  obtain ⟨w', hr, hM, hg⟩ := h.m.put hc a v h0 h1 v0 v1
  exact ⟨w', hr, h.s.other hg (by simpa using h.ne), hM, h.ne, h.nw, gcomp h.g hg (fun d e => by cases e; exact Or.inr h.nw)⟩
namespace W
theorem folO_bd (o : Opr) (p M : Int) (L : Int → Int) (f : Nat → Int) (hL : ∀ a, 0 ≤ L a ∧ L a ≤ M) (hp : 0 ≤ p ∧ p ≤ M) : ∀ k a, 0 ≤ (folO o p L f k).1 a ∧ (folO o p L f k).1 a ≤ M
  | 0, a => hL a
  | k + 1, a => by
    have h := folO_bd o p M L f hL hp k
    unfold folO
    cases wrs o.k
    · exact h a
    · show 0 ≤ updL _ _ _ a ∧ updL _ _ _ a ≤ M
      unfold updL
      have h1 := h (o.ad + k)
      split
      · omega
      · exact h a
theorem fol_o (q : Nat → StR) (ln : Nat → Nat) : ∀ j p, ((fol q ln j).2 p).o = (q p).o
  | 0, p => rfl
  | j + 1, p => by
    have h := fol_o q ln j
    unfold fol
    show (updQ _ _ _ p).o = _
    unfold updQ
    split
    · rename_i e
      rw [e]
      exact h _
    · exact h p
theorem fol_bd (q : Nat → StR) (ln : Nat → Nat) (M : Nat) : ∀ j, (∀ i, i < j → ln i ≤ M) → ∀ a, 0 ≤ (fol q ln j).1 a ∧ (fol q ln j).1 a ≤ (M : Int)
  | 0, _, a => ⟨Int.le_refl _, by show (0 : Int) ≤ M; omega⟩
  | j + 1, h, a => by
    have h1 := fol_bd q ln M j (fun i hi => h i (by omega))
    unfold fol
    exact folO_bd _ _ _ _ _ h1 ⟨by omega, by have := h j (by omega); omega⟩ _ a
end W
theorem updQ_same (q : Nat → StR) (p : Nat) (z : StR) : updQ q p z p = z := by unfold updQ; rw [if_pos rfl]
theorem updQ_self (q : Nat → StR) (p : Nat) : updQ q p { q p with fr := (q p).fr } = q := by
  funext i
  unfold updQ
  split
  · rename_i e; rw [e]
  · rfl
theorem updQ_twice (q : Nat → StR) (p : Nat) (y z : StR) : updQ (updQ q p y) p z = updQ q p z := by
  funext i
  unfold updQ
  split <;> rfl
theorem stF_fr (z : StR) (k : Nat) (hk : k < 4) : stF (fun _ => z) (15 + k) = .int .i64 (z.fr k) := by
  unfold stF
  rw [if_neg (by omega), if_neg (by omega), if_neg (by omega), show (15 + k) % 19 - 15 = k by omega]
set_option maxHeartbeats 1600000 in
theorem follow_any (b N : Nat) (q : Nat → StR) (lb m : Nat) (ln : Nat → Nat) (w0 : World) (hs : Sb2 b N q w0) (hl : Bc lb m (fun i => .int .i64 (ln i : Int)) w0) (hlb : lb ≠ b) (hN : N ≤ 5000) (hm : m ≤ 5000) (hln : ∀ i, i < m → ln i < N) (hB : ∀ i, i < m → W.Byt (q (ln i)).o) :
    Calls Tryd.prog 40 #[.slice (some ⟨b, 0, none⟩) N N, .slice (some ⟨lb, 0, none⟩) m m] w0 fun e w' => e = .returned (.tuple #[]) ∧ Sb2 b N (W.fol q ln m).2 w' ∧ w0.grownBy w' (some b) := by
  have hmm := @run_makeMap Tryd.prog
  have F0 : Fo b N w0.heap.size 0 q (fun _ => 0) w0 (w0.alloc (.map #[] 0)) := ⟨hs.other (World.grownBy_alloc w0 _ none) (by simp), Mp.made w0, by have := hs.b.lt; omega, Nat.le_refl _, World.grownBy_alloc w0 _ _⟩
  have bl := hl.lt
  have HH : Hid (_ ∧ _ ∧ _ ∧ _) := ⟨F0, hl, hln, hB⟩
  clear hs hl hln hB F0
  go_enter Tryd.func40, Tryd.ntmps40
  go_wp2
  go_loopw [13] (fun i wr => ∃ j : Nat, j ≤ m ∧ i = .int .i64 (j : Int) ∧ ∃ c, c ≤ 4 * j ∧ Fo b N w0.heap.size c (W.fol q ln j).2 (W.fol q ln j).1 w0 wr) (fun i _ => m - (intOf i).toNat)
  case atStart => exact ⟨0, by omega, rfl, 0, by omega, HH.out.1⟩
  case round =>
    clear hmm
    obtain ⟨j, hj, rfl, c, hc, hF⟩ := hrel
    by_cases hlt : j < m
    · have hjm : (j : Int) < (m : Int) := by omega
      have l0 := (HH.out.2.1.grown hF.g (by simpa using hlb)).c j hlt
      have bl2 := (HH.out.2.1.grown hF.g (by simpa using hlb)).lt
      have pN := HH.out.2.2.1 j hlt
      have pNi : (ln j : Int) < (N : Int) := by omega
      have by_ := HH.out.2.2.2 j hlt
      rw [← W.fol_o q ln j (ln j)] at by_
      have LB := W.fol_bd q ln N j (fun i hi => by have := HH.out.2.2.1 i (by omega); omega)
      have eF : W.fol q ln (j + 1) = ((W.folO ((W.fol q ln j).2 (ln j)).o (ln j : Int) (W.fol q ln j).1 ((W.fol q ln j).2 (ln j)).fr ((W.fol q ln j).2 (ln j)).o.sz.toNat).1, updQ (W.fol q ln j).2 (ln j) { (W.fol q ln j).2 (ln j) with fr := (W.folO ((W.fol q ln j).2 (ln j)).o (ln j : Int) (W.fol q ln j).1 ((W.fol q ln j).2 (ln j)).fr ((W.fol q ln j).2 (ln j)).o.sz.toNat).2 }) := rfl
      generalize (W.fol q ln j).1 = L at *
      generalize (W.fol q ln j).2 = Q at *
      generalize ln j = p at *
      obtain ⟨s0, s4, ad0, ad1⟩ := by_
      obtain ⟨SZ, hSZ⟩ := Int.eq_ofNat_of_zero_le s0
      have c1 := hF.s.cell p 1 pN (by decide) (.int .i64 (SZ : Int)) (by rw [← hSZ]; rfl)
      have bL := hF.s.b.lt
      have HF : Hid (_ ∧ _) := ⟨hF, eF⟩
      have ez : (Q p).o.sz.toNat = SZ := by omega
      clear hF eF
      go_wp2
      go_loopw [25] (fun t wy => ∃ k : Nat, k ≤ SZ ∧ t = .int .i64 (k : Int) ∧ ∃ c', c' ≤ 4 * j + k ∧ Fo b N w0.heap.size c' (updQ Q p { Q p with fr := (W.folO (Q p).o (p : Int) L (Q p).fr k).2 }) (W.folO (Q p).o (p : Int) L (Q p).fr k).1 w0 wy) (fun t _ => SZ - (intOf t).toNat)
      case atStart => exact ⟨0, by omega, rfl, c, by omega, by
          have := HF.out.1
          show Fo b N w0.heap.size c (updQ Q p { Q p with fr := (Q p).fr }) L w0 _
          rw [updQ_self]; exact this⟩
      case round =>
        clear c1 bL l0 bl2
        obtain ⟨k, hk, rfl, c', hc', hF⟩ := hrel
        by_cases hlk : k < SZ
        · have hks : (k : Int) < (SZ : Int) := by omega
          have k4 : k < 4 := by omega
          have k4i : (k : Int) < 4 := by omega
          have bL := hF.s.b.lt
          have d0 := hF.s.cell p 0 pN (by decide) (.int .i64 (Q p).o.k) (by rw [updQ_same]; rfl)
          rw [Nat.add_zero] at d0
          have d2 := hF.s.cell p 2 pN (by decide) (.int .u32 (Q p).o.ad) (by rw [updQ_same]; rfl)
          have df := hF.s.cell p (15 + k) pN (by omega) (.int .i64 ((W.folO (Q p).o (p : Int) L (Q p).fr k).2 k)) (by rw [updQ_same]; exact stF_fr _ k k4)
          have fz := hF.s.b.fz
          have LB' := W.folO_bd (Q p).o (p : Int) N L (Q p).fr LB ⟨by omega, by omega⟩ k ((Q p).o.ad + k)
          have lk := hF.m.look ((Q p).o.ad + k) (by omega) (by omega)
          have eK : W.folO (Q p).o (p : Int) L (Q p).fr (k + 1) = (bif W.wrs (Q p).o.k then updL (W.folO (Q p).o (p : Int) L (Q p).fr k).1 ((Q p).o.ad + k) (max ((W.folO (Q p).o (p : Int) L (Q p).fr k).1 ((Q p).o.ad + k)) p) else (W.folO (Q p).o (p : Int) L (Q p).fr k).1, bif W.rds (Q p).o.k then updF (W.folO (Q p).o (p : Int) L (Q p).fr k).2 k (max ((W.folO (Q p).o (p : Int) L (Q p).fr k).2 k) ((W.folO (Q p).o (p : Int) L (Q p).fr k).1 ((Q p).o.ad + k))) else (W.folO (Q p).o (p : Int) L (Q p).fr k).2) := rfl
          generalize hFF : W.folO (Q p).o (p : Int) L (Q p).fr k = FF at *
          obtain ⟨LL, ff⟩ := FF
          dsimp only at *
          have hcall := reads_any b (p * 19) (Q p).o.k wr bL d0
          have HR : Hid (Calls _ _ _ _ _) := hcall
          clear hcall
          cases hrd : W.rds (Q p).o.k
          · rw [hrd] at HR eK
            rw [cond_false] at eK
            go_wp2_with (fail)
            refine HR.out.mono ?_
            rintro e w1 ⟨rfl, rfl⟩
            clear HR
            have hcall := writes_any b (p * 19) (Q p).o.k wr bL d0
            have HR : Hid (Calls _ _ _ _ _) := hcall
            clear hcall
            cases hwr : W.wrs (Q p).o.k
            · rw [hwr] at HR eK
              rw [cond_false] at eK
              have HZ : Hid (Fo b N w0.heap.size c' _ _ w0 wr ∧ _) := ⟨hF, eK⟩
              clear eK
              go_wp2_with (fail)
              refine HR.out.mono ?_
              rintro e w1 ⟨rfl, rfl⟩
              clear HR
              go_wp2
              go_roundw
              case rel => exact ⟨k + 1, by omega, by go_num, c', by omega, by rw [HZ.out.2]; exact HZ.out.1⟩
              case measure => simp [intOf]; omega
            · rw [hwr] at HR eK
              rw [cond_true] at eK
              have lk1 := (hF).m.look ((Q p).o.ad + k) (by omega) (by omega)
              obtain ⟨w5, hr5, hF5⟩ := (hF).put (by omega) ((Q p).o.ad + k) (max (LL ((Q p).o.ad + k)) p) (by omega) (by omega) (by omega) (by omega)
              have HZ : Hid (_ ∧ _) := ⟨hF5, eK⟩
              clear eK hF5
              go_wp2_with (fail)
              refine HR.out.mono ?_
              rintro e w1 ⟨rfl, rfl⟩
              clear HR
              go_wp2
              go_roundw
              case rel => exact ⟨k + 1, by omega, by go_num, c' + 1, by omega, by rw [HZ.out.2]; exact HZ.out.1⟩
              case measure => simp [intOf]; omega
          · rw [hrd] at HR eK
            rw [cond_true] at eK
            go_wp2_with (fail)
            refine HR.out.mono ?_
            rintro e w1 ⟨rfl, rfl⟩
            clear HR
            have lkd := (hF.m.kept (gdrew wr) (by simp)).look ((Q p).o.ad + k) (by omega) (by omega)
            have hF1 := (hF.setF p k k4 (max (ff k) (LL ((Q p).o.ad + k)))).drew
            rw [updQ_twice, updQ_same] at hF1
            dsimp only at hF1
            rw [← Nat.add_assoc] at df hF1
            have bL1 := hF1.s.b.lt
            have d01 := hF1.s.cell p 0 pN (by decide) (.int .i64 (Q p).o.k) (by rw [updQ_same]; rfl)
            rw [Nat.add_zero] at d01
            have HF1 : Hid _ := hF1
            clear hF hF1 lk
            go_wp2
            go_region
            generalize (wr.setCell ⟨b, p * 19 + 15 + k, none⟩ (.int .i64 (max (ff k) (LL ((Q p).o.ad + k))))).drew = wr2 at *
            clear lkd df fz d2 d0 bL
            have hcall := writes_any b (p * 19) (Q p).o.k wr2 bL1 d01
            have HR : Hid (Calls _ _ _ _ _) := hcall
            clear hcall
            cases hwr : W.wrs (Q p).o.k
            · rw [hwr] at HR eK
              rw [cond_false] at eK
              have HZ : Hid (Fo b N w0.heap.size c' _ _ w0 wr2 ∧ _) := ⟨HF1.out, eK⟩
              clear eK
              go_wp2_with (fail)
              refine HR.out.mono ?_
              rintro e w1 ⟨rfl, rfl⟩
              clear HR
              go_wp2
              go_roundw
              case rel => exact ⟨k + 1, by omega, by go_num, c', by omega, by rw [HZ.out.2]; exact HZ.out.1⟩
              case measure => simp [intOf]; omega
            · rw [hwr] at HR eK
              rw [cond_true] at eK
              have lk1 := (HF1.out).m.look ((Q p).o.ad + k) (by omega) (by omega)
              obtain ⟨w5, hr5, hF5⟩ := (HF1.out).put (by omega) ((Q p).o.ad + k) (max (LL ((Q p).o.ad + k)) p) (by omega) (by omega) (by omega) (by omega)
              have HZ : Hid (_ ∧ _) := ⟨hF5, eK⟩
              clear eK hF5
              go_wp2_with (fail)
              refine HR.out.mono ?_
              rintro e w1 ⟨rfl, rfl⟩
              clear HR
              go_wp2
              go_roundw
              case rel => exact ⟨k + 1, by omega, by go_num, c' + 1, by omega, by rw [HZ.out.2]; exact HZ.out.1⟩
              case measure => simp [intOf]; omega
        · have hks : ¬ (k : Int) < (SZ : Int) := by omega
          obtain rfl : k = SZ := by omega
          have HZ : Hid (_ ∧ _) := ⟨hF, HF.out.2⟩
          clear hF HF
          go_wp2
          go_roundw
          case rel => exact ⟨j + 1, by omega, by go_num, c', by omega, by rw [HZ.out.2, ez]; exact HZ.out.1⟩
          case measure => simp [intOf]; omega
    · have hjm : ¬ (j : Int) < (m : Int) := by omega
      obtain rfl : j = m := by omega
      have HZ : Hid (_ ∧ _) := ⟨hF.s, hF.g⟩
      clear hF
      go_wp2
      go_end0
      exact ⟨rfl, HZ.out.1, HZ.out.2⟩
end Go.Proofs.YtibohlbkkaghkaaDoor
