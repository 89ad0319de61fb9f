/- Texts in one: WmoI, PpoIs, WmoJ, WmoK, WmoL. -/
import Derived.Deep.DeepAppendRoom
import Derived.Deep.MidRow
import Derived.Deep.CutRange
import Derived.Defers
import Derived.Recover
import Derived.Laws.Pointers
import Derived.Test.YtibohlbkkaghkaaDoorJ02
/- wmo: follow. -/
namespace Go.Proofs.YtibohlbkkaghkaaDoor
open Go.ChangeShapes Go.WideShapes Go.ChangeAt Go.RowKit Go.Maps
set_option linter.unusedVariables false
set_option linter.unusedSimpArgs false

namespace W
/-- Behind k bytes of an operation at place p: what was written where, and what it reads. -/
def folO (o : Opr) (p : Int) (L : Int → Int) (f : Nat → Int) : Nat → (Int → Int) × (Nat → Int)
  | 0 => (L, f)
  | k + 1 =>
    let r := folO o p L f k
    (bif wrs o.k then updL r.1 (o.ad + k) (max (r.1 (o.ad + k)) p) else r.1, bif rds o.k then updF r.2 k (max (r.2 k) (r.1 (o.ad + k))) else r.2)
/-- Behind j steps of a line. -/
def fol (q : Nat → StR) (ln : Nat → Nat) : Nat → (Int → Int) × (Nat → StR)
  | 0 => (fun _ => 0, q)
  | j + 1 =>
    let r := fol q ln j
    let p := ln j
    let z := folO (r.2 p).o (p : Int) r.1 (r.2 p).fr (r.2 p).o.sz.toNat
    (z.1, updQ r.2 p { r.2 p with fr := z.2 })
/-- Bytes such as can be, or none at all. -/
structure Byt (o : Opr) : Prop where
  s0 : 0 ≤ o.sz
  s4 : o.sz ≤ 4
  a0 : 0 ≤ o.ad
  a1 : o.ad + o.sz ≤ 4294967296
end W
/-- What follow's loop over bytes keeps: the steps, the map, apart. -/
structure Fo (b N B c : Nat) (q : Nat → StR) (L : Int → Int) (w0 w : World) : Prop where
  s : Sb2 b N q w
  m : Mp B c L w
  ne : b ≠ B
  nw : w0.heap.size ≤ B
  g : w0.grownBy w (some b)
theorem gcomp {x y z : World} {b : Nat} {r : Option Nat} (h : x.grownBy y (some b)) (k : y.grownBy z r) (hr : ∀ d, r = some d → d = b ∨ x.heap.size ≤ d) : x.grownBy z (some b) :=
  ⟨k.os.trans h.os, k.tape.trans h.tape, k.output.trans h.output, Nat.le_trans h.size k.size, fun i hi hne => (k.block i (Nat.lt_of_lt_of_le hi h.size) (fun e => by
    rcases hr i e.symm with e2 | e2
    · exact hne (by rw [e2])
    · omega)).trans (h.block i hi hne)⟩
theorem gdrew (w : World) : w.grownBy w.drew none := ⟨rfl, rfl, rfl, Nat.le_refl _, fun _ _ _ => rfl⟩
theorem Fo.setF {b N B c : Nat} {q : Nat → StR} {L : Int → Int} {w0 w : World} (h : Fo b N B c q L w0 w) (p k : Nat) (hk : k < 4) (v : Int) : Fo b N B c (updQ q p { q p with fr := updF (q p).fr k v }) L w0 (w.setCell ⟨b, p * 19 + (15 + k), none⟩ (.int .i64 v)) := by
  have g1 := gsetCell w b (p * 19 + (15 + k)) (.int .i64 v)
  exact ⟨h.s.setF p k hk v, h.m.kept g1 (by simpa using h.ne.symm), h.ne, h.nw, gcomp h.g g1 (fun d e => by cases e; exact Or.inl rfl)⟩
theorem Fo.drew {b N B c : Nat} {q : Nat → StR} {L : Int → Int} {w0 w : World} (h : Fo b N B c q L w0 w) : Fo b N B c q L w0 w.drew :=
  ⟨h.s.other (gdrew w) (by simp), h.m.kept (gdrew w) (by simp), h.ne, h.nw, gcomp h.g (gdrew w) (fun d e => by cases e)⟩
theorem Fo.put {b N B c : Nat} {q : Nat → StR} {L : Int → Int} {w0 w : World} (h : Fo b N B c q L w0 w) (hc : c < 100000) (a v : Int) (h0 : 0 ≤ a) (h1 : a < 4294967296) (v0 : -9223372036854775808 ≤ v) (v1 : v ≤ 9223372036854775807) : ∃ w', (Instr.mapUpdate 102 (.map (some B)) (.int .u32 a) (.int .i64 v)).run Tryd.prog w = .ok () w' ∧ Fo b N B (c + 1) q (updL L a v) w0 w' := by
  obtain ⟨w', hr, hM, hg⟩ := h.m.put hc a v h0 h1 v0 v1
  exact ⟨w', hr, h.s.other hg (by simpa using h.ne), hM, h.ne, h.nw, gcomp h.g hg (fun d e => by cases e; exact Or.inr h.nw)⟩
namespace W
theorem folO_bd (o : Opr) (p M : Int) (L : Int → Int) (f : Nat → Int) (hL : ∀ a, 0 ≤ L a ∧ L a ≤ M) (hp : 0 ≤ p ∧ p ≤ M) : ∀ k a, 0 ≤ (folO o p L f k).1 a ∧ (folO o p L f k).1 a ≤ M
  | 0, a => hL a
  | k + 1, a => by
    have h := folO_bd o p M L f hL hp k
    unfold folO
    cases wrs o.k
    · exact h a
    · show 0 ≤ updL _ _ _ a ∧ updL _ _ _ a ≤ M
      unfold updL
      have h1 := h (o.ad + k)
      split
      · omega
      · exact h a
theorem fol_o (q : Nat → StR) (ln : Nat → Nat) : ∀ j p, ((fol q ln j).2 p).o = (q p).o
  | 0, p => rfl
  | j + 1, p => by
    have h := fol_o q ln j
    unfold fol
    show (updQ _ _ _ p).o = _
    unfold updQ
    split
    · rename_i e
      rw [e]
      exact h _
    · exact h p
theorem fol_bd (q : Nat → StR) (ln : Nat → Nat) (M : Nat) : ∀ j, (∀ i, i < j → ln i ≤ M) → ∀ a, 0 ≤ (fol q ln j).1 a ∧ (fol q ln j).1 a ≤ (M : Int)
  | 0, _, a => ⟨Int.le_refl _, by show (0 : Int) ≤ M; omega⟩
  | j + 1, h, a => by
    have h1 := fol_bd q ln M j (fun i hi => h i (by omega))
    unfold fol
    exact folO_bd _ _ _ _ _ h1 ⟨by omega, by have := h j (by omega); omega⟩ _ a
end W
theorem updQ_same (q : Nat → StR) (p : Nat) (z : StR) : updQ q p z p = z := by unfold updQ; rw [if_pos rfl]
theorem updQ_self (q : Nat → StR) (p : Nat) : updQ q p { q p with fr := (q p).fr } = q := by
  funext i
  unfold updQ
  split
  · rename_i e; rw [e]
  · rfl
theorem updQ_twice (q : Nat → StR) (p : Nat) (y z : StR) : updQ (updQ q p y) p z = updQ q p z := by
  funext i
  unfold updQ
  split <;> rfl
theorem stF_fr (z : StR) (k : Nat) (hk : k < 4) : stF (fun _ => z) (15 + k) = .int .i64 (z.fr k) := by
  unfold stF
  rw [if_neg (by omega), if_neg (by omega), if_neg (by omega), show (15 + k) % 19 - 15 = k by omega]
set_option maxHeartbeats 1600000 in
theorem follow_any (b N : Nat) (q : Nat → StR) (lb m : Nat) (ln : Nat → Nat) (w0 : World) (hs : Sb2 b N q w0) (hl : Bc lb m (fun i => .int .i64 (ln i : Int)) w0) (hlb : lb ≠ b) (hN : N ≤ 5000) (hm : m ≤ 5000) (hln : ∀ i, i < m → ln i < N) (hB : ∀ i, i < m → W.Byt (q (ln i)).o) :
    Calls Tryd.prog 40 #[.slice (some ⟨b, 0, none⟩) N N, .slice (some ⟨lb, 0, none⟩) m m] w0 fun e w' => e = .returned (.tuple #[]) ∧ Sb2 b N (W.fol q ln m).2 w' ∧ w0.grownBy w' (some b) := by
  have hmm := @run_makeMap Tryd.prog
  have F0 : Fo b N w0.heap.size 0 q (fun _ => 0) w0 (w0.alloc (.map #[] 0)) := ⟨hs.other (World.grownBy_alloc w0 _ none) (by simp), Mp.made w0, by have := hs.b.lt; omega, Nat.le_refl _, World.grownBy_alloc w0 _ _⟩
  have bl := hl.lt
  have HH : Hid (_ ∧ _ ∧ _ ∧ _) := ⟨F0, hl, hln, hB⟩
  clear hs hl hln hB F0
  go_enter Tryd.func40, Tryd.ntmps40
  go_wp2
  go_loopw [13] (fun i wr => ∃ j : Nat, j ≤ m ∧ i = .int .i64 (j : Int) ∧ ∃ c, c ≤ 4 * j ∧ Fo b N w0.heap.size c (W.fol q ln j).2 (W.fol q ln j).1 w0 wr) (fun i _ => m - (intOf i).toNat)
  case atStart => exact ⟨0, by omega, rfl, 0, by omega, HH.out.1⟩
  case round =>
    clear hmm
    obtain ⟨j, hj, rfl, c, hc, hF⟩ := hrel
    by_cases hlt : j < m
    · have hjm : (j : Int) < (m : Int) := by omega
      have l0 := (HH.out.2.1.grown hF.g (by simpa using hlb)).c j hlt
      have bl2 := (HH.out.2.1.grown hF.g (by simpa using hlb)).lt
      have pN := HH.out.2.2.1 j hlt
      have pNi : (ln j : Int) < (N : Int) := by omega
      have by_ := HH.out.2.2.2 j hlt
      rw [← W.fol_o q ln j (ln j)] at by_
      have LB := W.fol_bd q ln N j (fun i hi => by have := HH.out.2.2.1 i (by omega); omega)
      have eF : W.fol q ln (j + 1) = ((W.folO ((W.fol q ln j).2 (ln j)).o (ln j : Int) (W.fol q ln j).1 ((W.fol q ln j).2 (ln j)).fr ((W.fol q ln j).2 (ln j)).o.sz.toNat).1, updQ (W.fol q ln j).2 (ln j) { (W.fol q ln j).2 (ln j) with fr := (W.folO ((W.fol q ln j).2 (ln j)).o (ln j : Int) (W.fol q ln j).1 ((W.fol q ln j).2 (ln j)).fr ((W.fol q ln j).2 (ln j)).o.sz.toNat).2 }) := rfl
      generalize (W.fol q ln j).1 = L at *
      generalize (W.fol q ln j).2 = Q at *
      generalize ln j = p at *
      obtain ⟨s0, s4, ad0, ad1⟩ := by_
      obtain ⟨SZ, hSZ⟩ := Int.eq_ofNat_of_zero_le s0
      have c1 := hF.s.cell p 1 pN (by decide) (.int .i64 (SZ : Int)) (by rw [← hSZ]; rfl)
      have bL := hF.s.b.lt
      have HF : Hid (_ ∧ _) := ⟨hF, eF⟩
      have ez : (Q p).o.sz.toNat = SZ := by omega
      clear hF eF
      go_wp2
      go_loopw [25] (fun t wy => ∃ k : Nat, k ≤ SZ ∧ t = .int .i64 (k : Int) ∧ ∃ c', c' ≤ 4 * j + k ∧ Fo b N w0.heap.size c' (updQ Q p { Q p with fr := (W.folO (Q p).o (p : Int) L (Q p).fr k).2 }) (W.folO (Q p).o (p : Int) L (Q p).fr k).1 w0 wy) (fun t _ => SZ - (intOf t).toNat)
      case atStart => exact ⟨0, by omega, rfl, c, by omega, by
          have := HF.out.1
          show Fo b N w0.heap.size c (updQ Q p { Q p with fr := (Q p).fr }) L w0 _
          rw [updQ_self]; exact this⟩
      case round =>
        clear c1 bL l0 bl2
        obtain ⟨k, hk, rfl, c', hc', hF⟩ := hrel
        by_cases hlk : k < SZ
        · have hks : (k : Int) < (SZ : Int) := by omega
          have k4 : k < 4 := by omega
          have k4i : (k : Int) < 4 := by omega
          have bL := hF.s.b.lt
          have d0 := hF.s.cell p 0 pN (by decide) (.int .i64 (Q p).o.k) (by rw [updQ_same]; rfl)
          rw [Nat.add_zero] at d0
          have d2 := hF.s.cell p 2 pN (by decide) (.int .u32 (Q p).o.ad) (by rw [updQ_same]; rfl)
          have df := hF.s.cell p (15 + k) pN (by omega) (.int .i64 ((W.folO (Q p).o (p : Int) L (Q p).fr k).2 k)) (by rw [updQ_same]; exact stF_fr _ k k4)
          have fz := hF.s.b.fz
          have LB' := W.folO_bd (Q p).o (p : Int) N L (Q p).fr LB ⟨by omega, by omega⟩ k ((Q p).o.ad + k)
          have lk := hF.m.look ((Q p).o.ad + k) (by omega) (by omega)
          have eK : W.folO (Q p).o (p : Int) L (Q p).fr (k + 1) = (bif W.wrs (Q p).o.k then updL (W.folO (Q p).o (p : Int) L (Q p).fr k).1 ((Q p).o.ad + k) (max ((W.folO (Q p).o (p : Int) L (Q p).fr k).1 ((Q p).o.ad + k)) p) else (W.folO (Q p).o (p : Int) L (Q p).fr k).1, bif W.rds (Q p).o.k then updF (W.folO (Q p).o (p : Int) L (Q p).fr k).2 k (max ((W.folO (Q p).o (p : Int) L (Q p).fr k).2 k) ((W.folO (Q p).o (p : Int) L (Q p).fr k).1 ((Q p).o.ad + k))) else (W.folO (Q p).o (p : Int) L (Q p).fr k).2) := rfl
          generalize hFF : W.folO (Q p).o (p : Int) L (Q p).fr k = FF at *
          obtain ⟨LL, ff⟩ := FF
          dsimp only at *
          have hcall := reads_any b (p * 19) (Q p).o.k wr bL d0
          have HR : Hid (Calls _ _ _ _ _) := hcall
          clear hcall
          cases hrd : W.rds (Q p).o.k
          · rw [hrd] at HR eK
            rw [cond_false] at eK
            go_wp2_with (fail)
            refine HR.out.mono ?_
            rintro e w1 ⟨rfl, rfl⟩
            clear HR
            have hcall := writes_any b (p * 19) (Q p).o.k wr bL d0
            have HR : Hid (Calls _ _ _ _ _) := hcall
            clear hcall
            cases hwr : W.wrs (Q p).o.k
            · rw [hwr] at HR eK
              rw [cond_false] at eK
              have HZ : Hid (Fo b N w0.heap.size c' _ _ w0 wr ∧ _) := ⟨hF, eK⟩
              clear eK
              go_wp2_with (fail)
              refine HR.out.mono ?_
              rintro e w1 ⟨rfl, rfl⟩
              clear HR
              go_wp2
              go_roundw
              case rel => exact ⟨k + 1, by omega, by go_num, c', by omega, by rw [HZ.out.2]; exact HZ.out.1⟩
              case measure => simp [intOf]; omega
            · rw [hwr] at HR eK
              rw [cond_true] at eK
              have lk1 := (hF).m.look ((Q p).o.ad + k) (by omega) (by omega)
              obtain ⟨w5, hr5, hF5⟩ := (hF).put (by omega) ((Q p).o.ad + k) (max (LL ((Q p).o.ad + k)) p) (by omega) (by omega) (by omega) (by omega)
              have HZ : Hid (_ ∧ _) := ⟨hF5, eK⟩
              clear eK hF5
              go_wp2_with (fail)
              refine HR.out.mono ?_
              rintro e w1 ⟨rfl, rfl⟩
              clear HR
              go_wp2
              go_roundw
              case rel => exact ⟨k + 1, by omega, by go_num, c' + 1, by omega, by rw [HZ.out.2]; exact HZ.out.1⟩
              case measure => simp [intOf]; omega
          · rw [hrd] at HR eK
            rw [cond_true] at eK
            go_wp2_with (fail)
            refine HR.out.mono ?_
            rintro e w1 ⟨rfl, rfl⟩
            clear HR
            have lkd := (hF.m.kept (gdrew wr) (by simp)).look ((Q p).o.ad + k) (by omega) (by omega)
            have hF1 := (hF.setF p k k4 (max (ff k) (LL ((Q p).o.ad + k)))).drew
            rw [updQ_twice, updQ_same] at hF1
            dsimp only at hF1
            rw [← Nat.add_assoc] at df hF1
            have bL1 := hF1.s.b.lt
            have d01 := hF1.s.cell p 0 pN (by decide) (.int .i64 (Q p).o.k) (by rw [updQ_same]; rfl)
            rw [Nat.add_zero] at d01
            have HF1 : Hid _ := hF1
            clear hF hF1 lk
            go_wp2
            go_region
            generalize (wr.setCell ⟨b, p * 19 + 15 + k, none⟩ (.int .i64 (max (ff k) (LL ((Q p).o.ad + k))))).drew = wr2 at *
            clear lkd df fz d2 d0 bL
            have hcall := writes_any b (p * 19) (Q p).o.k wr2 bL1 d01
            have HR : Hid (Calls _ _ _ _ _) := hcall
            clear hcall
            cases hwr : W.wrs (Q p).o.k
            · rw [hwr] at HR eK
              rw [cond_false] at eK
              have HZ : Hid (Fo b N w0.heap.size c' _ _ w0 wr2 ∧ _) := ⟨HF1.out, eK⟩
              clear eK
              go_wp2_with (fail)
              refine HR.out.mono ?_
              rintro e w1 ⟨rfl, rfl⟩
              clear HR
              go_wp2
              go_roundw
              case rel => exact ⟨k + 1, by omega, by go_num, c', by omega, by rw [HZ.out.2]; exact HZ.out.1⟩
              case measure => simp [intOf]; omega
            · rw [hwr] at HR eK
              rw [cond_true] at eK
              have lk1 := (HF1.out).m.look ((Q p).o.ad + k) (by omega) (by omega)
              obtain ⟨w5, hr5, hF5⟩ := (HF1.out).put (by omega) ((Q p).o.ad + k) (max (LL ((Q p).o.ad + k)) p) (by omega) (by omega) (by omega) (by omega)
              have HZ : Hid (_ ∧ _) := ⟨hF5, eK⟩
              clear eK hF5
              go_wp2_with (fail)
              refine HR.out.mono ?_
              rintro e w1 ⟨rfl, rfl⟩
              clear HR
              go_wp2
              go_roundw
              case rel => exact ⟨k + 1, by omega, by go_num, c' + 1, by omega, by rw [HZ.out.2]; exact HZ.out.1⟩
              case measure => simp [intOf]; omega
        · have hks : ¬ (k : Int) < (SZ : Int) := by omega
          obtain rfl : k = SZ := by omega
          have HZ : Hid (_ ∧ _) := ⟨hF, HF.out.2⟩
          clear hF HF
          go_wp2
          go_roundw
          case rel => exact ⟨j + 1, by omega, by go_num, c', by omega, by rw [HZ.out.2, ez]; exact HZ.out.1⟩
          case measure => simp [intOf]; omega
    · have hjm : ¬ (j : Int) < (m : Int) := by omega
      obtain rfl : j = m := by omega
      have HZ : Hid (_ ∧ _) := ⟨hF.s, hF.g⟩
      clear hF
      go_wp2
      go_end0
      exact ⟨rfl, HZ.out.1, HZ.out.2⟩
end Go.Proofs.YtibohlbkkaghkaaDoor

/- Operations as they come. -/
namespace Go.Proofs.YtibohlbkkaghkaaDoor
open Go.ChangeShapes Go.WideShapes Go.ChangeAt Go.RowKit
set_option linter.unusedVariables false
set_option linter.unusedSimpArgs false

def lst (f : Nat → Int) (n : Nat) : List Int := (List.range n).map f
theorem lst_len (f : Nat → Int) (n : Nat) : (lst f n).length = n := by unfold lst; simp
theorem lst_get (f : Nat → Int) (n j : Nat) (x : Int) (h : (lst f n)[j]? = some x) : j < n ∧ x = f j := by
  unfold lst at h
  rw [List.getElem?_map] at h
  by_cases hj : j < n
  · rw [List.getElem?_range hj] at h
    exact ⟨hj, by simpa using h.symm⟩
  · rw [List.getElem?_eq_none (by simp; omega)] at h
    simp at h
/-- A list of numbers as it comes. -/
structure IsLi (s : W.Sl) (f : Nat → Int) (w : World) : Prop where
  nc : s.n ≤ s.c
  cm : s.c ≤ maxLen
  at_ : 0 < s.n → ∃ b o, s.a = some ⟨b, o, none⟩ ∧ b < w.heap.size ∧ ∀ j, j < s.n → w.cell? ⟨b, o + j, none⟩ = some (.int .i64 (f j))
theorem IsLi.below {s : W.Sl} {f : Nat → Int} {w w' : World} (h : IsLi s f w) (hb : Below w.heap.size w w') : IsLi s f w' :=
  ⟨h.nc, h.cm, fun h0 => by
    obtain ⟨b, o, e, hl, hc⟩ := h.at_ h0
    exact ⟨b, o, e, Nat.lt_of_lt_of_le hl hb.size, fun j hj => (hb.cell (p := ⟨b, o + j, none⟩) hl).trans (hc j hj)⟩⟩
theorem IsLi.li {s : W.Sl} {f : Nat → Int} {w : World} (h : IsLi s f w) (hm : s.n ≤ 4096) : Li s (lst f s.n) w :=
  ⟨(lst_len _ _).symm, hm, h.nc, fun h0 => by
    obtain ⟨b, o, e, hl, hc⟩ := h.at_ h0
    refine ⟨b, o, e, hl, fun j x hx => ?_⟩
    obtain ⟨h1, rfl⟩ := lst_get f s.n j x hx
    exact hc j h1⟩
/-- An operation as it comes. -/
structure Ro (g off : Nat) (o : W.Opr) (S : S3) (A D C : Nat → Int) (w : World) : Prop where
  lt : g < w.heap.size
  c : ∀ k, k < 13 → w.cell? ⟨g, off + k, none⟩ = some (opF (fun _ => W.oz0 o) (fun _ => S) k)
  a : IsLi S.a A w
  d : IsLi S.d D w
  e : IsLi S.c C w
  z0 : -9223372036854775808 ≤ o.sz
  z1 : o.sz ≤ 9223372036854775807
  a0 : 0 ≤ o.ad
  a1 : o.ad < 4294967296
theorem Ro.below {g off : Nat} {o : W.Opr} {S : S3} {A D C : Nat → Int} {w w' : World} (h : Ro g off o S A D C w) (hb : Below w.heap.size w w') : Ro g off o S A D C w' :=
  ⟨Nat.lt_of_lt_of_le h.lt hb.size, fun k hk => (hb.cell (p := ⟨g, off + k, none⟩) h.lt).trans (h.c k hk), h.a.below hb, h.d.below hb, h.e.below hb, h.z0, h.z1, h.a0, h.a1⟩
/-- An operation with its lists. -/
def ozR (o : W.Opr) (S : S3) (A D C : Nat → Int) : W.Oz := ⟨o, lst A S.a.n, lst D S.d.n, lst C S.c.n⟩
theorem Ro.oz {g off : Nat} {o : W.Opr} {S : S3} {A D C : Nat → Int} {w : World} (h : Ro g off o S A D C w) (ha : S.a.n ≤ 4096) (hd : S.d.n ≤ 4096) (hc : S.c.n ≤ 4096) : OzAt g off (ozR o S A D C) w :=
  ⟨⟨h.lt, h.c 0 (by decide), h.c 1 (by decide), h.c 2 (by decide), h.c 5 (by decide), h.c 6 (by decide), h.c 7 (by decide)⟩, h.c 8 (by decide), h.c 9 (by decide), ⟨_, h.c 10 (by decide), h.a.li ha⟩, ⟨_, h.c 11 (by decide), h.d.li hd⟩, ⟨_, h.c 12 (by decide), h.e.li hc⟩⟩
/-- A row of cells loaded whole. -/
theorem ldO_any {w : World} {g off : Nat} (o : W.Opr) (S : S3) (h : ∀ k, k < 13 → w.cell? ⟨g, off + k, none⟩ = some (opF (fun _ => W.oz0 o) (fun _ => S) k)) : (ldO ⟨g, off, none⟩).run Tryd.prog w = .ok (.agg (opC o S.a S.d S.c)) w := by
  have hl := run_loadCells_list (P := Tryd.prog) w ⟨g, off, none⟩ (opC o S.a S.d S.c).toList (fun k v hv => by
    have hadd : (⟨g, off, none⟩ : Addr).add k = ⟨g, off + k, none⟩ := by unfold Addr.add; split <;> simp_all
    have hk : k < 13 := by
      have := (List.getElem?_eq_some_iff.1 hv).1
      exact this
    rw [hadd, h k hk]
    match k, hk with
    | 0, _ => exact hv
    | 1, _ => exact hv
    | 2, _ => exact hv
    | 3, _ => exact hv
    | 4, _ => exact hv
    | 5, _ => exact hv
    | 6, _ => exact hv
    | 7, _ => exact hv
    | 8, _ => exact hv
    | 9, _ => exact hv
    | 10, _ => exact hv
    | 11, _ => exact hv
    | 12, _ => exact hv)
  simp only [Array.length_toList, Array.toArray_toList] at hl
  have ha : (isAgg 38).run Tryd.prog w = .ok true w := by simp [go_sem]
  have hz : (sizeOf 38).run Tryd.prog w = .ok (opC o S.a S.d S.c).size w := by simp [go_sem, opC]
  unfold ldO
  have hs : (opC o S.a S.d S.c).size = 13 := rfl
  rw [hs] at hl hz
  simp [loadVar, Sem.run_bind, ha, hz, hl]
/-- Operations as they come. -/
structure Rs (a : Option Addr) (n c : Nat) (o : Nat → W.Opr) (S : Nat → S3) (A D C : Nat → Nat → Int) (w : World) : Prop where
  nc : n ≤ c
  cm : c ≤ maxLen
  at_ : 0 < n → ∃ g off, a = some ⟨g, off, none⟩ ∧ g < w.heap.size ∧ ∀ j, j < n → Ro g (off + j * 13) (o j) (S j) (A j) (D j) (C j) w
theorem Rs.below {a : Option Addr} {n c : Nat} {o : Nat → W.Opr} {S : Nat → S3} {A D C : Nat → Nat → Int} {w w' : World} (h : Rs a n c o S A D C w) (hb : Below w.heap.size w w') : Rs a n c o S A D C w' :=
  ⟨h.nc, h.cm, fun h0 => by
    obtain ⟨g, off, e, hl, hx⟩ := h.at_ h0
    exact ⟨g, off, e, Nat.lt_of_lt_of_le hl hb.size, fun j hj => (hx j hj).below hb⟩⟩
/-- Few, and what they hang on. -/
structure Few (n : Nat) (S : Nat → S3) : Prop where
  le : n ≤ 40
  l : ∀ j, j < n → (S j).a.n ≤ 40 ∧ (S j).d.n ≤ 40 ∧ (S j).c.n ≤ 40
end Go.Proofs.YtibohlbkkaghkaaDoor

/- wmo: a step written whole. -/
namespace Go.Proofs.YtibohlbkkaghkaaDoor
open Go.ChangeShapes Go.WideShapes Go.ChangeAt Go.RowKit Go.Maps
set_option linter.unusedVariables false
set_option linter.unusedSimpArgs false

/-- A step's cells. -/
def stC (z : StR) : Array Value := #[.int .i64 z.o.k, .int .i64 z.o.sz, .int .u32 z.o.ad, .int .u32 z.o.vl, .int .u32 z.o.gt, .bool z.o.pr, .bool z.o.aq, .bool z.o.rl, .int .i64 z.o.pd, .int .i64 z.o.sc, .slice z.s.a.a z.s.a.n z.s.a.c, .slice z.s.d.a z.s.d.n z.s.d.c, .slice z.s.c.a z.s.c.n z.s.c.c, .int .i64 z.ha, .int .i64 z.lr, .int .i64 (z.fr 0), .int .i64 (z.fr 1), .int .i64 (z.fr 2), .int .i64 (z.fr 3)]
theorem stC_get (z : StR) (k : Nat) (hk : k < 19) : (stC z).toList[k]? = some (stF (fun _ => z) k) := by
  match k, hk with
  | 0, _ => rfl
  | 1, _ => rfl
  | 2, _ => rfl
  | 3, _ => rfl
  | 4, _ => rfl
  | 5, _ => rfl
  | 6, _ => rfl
  | 7, _ => rfl
  | 8, _ => rfl
  | 9, _ => rfl
  | 10, _ => rfl
  | 11, _ => rfl
  | 12, _ => rfl
  | 13, _ => rfl
  | 14, _ => rfl
  | 15, _ => rfl
  | 16, _ => rfl
  | 17, _ => rfl
  | 18, _ => rfl
  | n + 19, h => exact absurd h (by omega)
def bdS (l : Array (Nat × Value)) : Sem Value := Instr.build 85 l
theorem bdS_eq (l : Array (Nat × Value)) : Instr.build 85 l = bdS l := rfl
def stS (a : Addr) (v : Value) : Sem Unit := storeVar 85 a v
theorem stS_eq (a : Addr) (v : Value) : storeVar 85 a v = stS a v := rfl
theorem bdS_2 (o : W.Opr) (S : S3) (h : Int) (w : World) : (bdS #[(0, .agg (opC o S.a S.d S.c)), (1, .int .i64 h)]).run Tryd.prog w = .ok (.agg (stC ⟨o, S, h, 0, fun _ => 0⟩)) w := by kernel_rfl
theorem infoS : (Tryd.prog.info? 85).map (·.size) = some 19 := by kernel_rfl
theorem stC_one (z : StR) : (stC z).all (fun x => x.oneCell') = true := by simp [stC, Value.oneCell']
theorem Sb2.there {b N : Nat} {q : Nat → StR} {w : World} (h : Sb2 b N q w) (p : Nat) (hp : p < N) : w.there b (p * 19) 19 := fun j hj => ⟨by rw [h.b.c (p * 19 + j) (by omega)]; rfl, h.b.fz _⟩
theorem Sb2.store {b N : Nat} {q : Nat → StR} {w : World} (h : Sb2 b N q w) (p : Nat) (hp : p < N) (z : StR) : (stS ⟨b, p * 19, none⟩ (.agg (stC z))).run Tryd.prog w = .ok () (w.setCells b (p * 19) (stC z).toList) :=
  run_storeVar_mid w b (p * 19) _ (stC z) (h.there p hp) (by rw [infoS]; rfl) (stC_one z)
theorem gsetCells (b : Nat) : ∀ (vs : List Value) (o : Nat) (w : World), w.grownBy (w.setCells b o vs) (some b)
  | [], o, w => ⟨rfl, rfl, rfl, Nat.le_refl _, fun _ _ _ => rfl⟩
  | v :: r, o, w => gcomp (gsetCell w b o v) (gsetCells b r (o + 1) _) (fun d e => by cases e; exact Or.inl rfl)
theorem Sb2.put {b N : Nat} {q : Nat → StR} {w : World} (h : Sb2 b N q w) (p : Nat) (hp : p < N) (z : StR) : Sb2 b N (updQ q p z) (w.setCells b (p * 19) (stC z).toList) := by
  have hl : (stC z).toList.length = 19 := rfl
  have g := gsetCells b (stC z).toList (p * 19) w
  refine ⟨⟨Nat.lt_of_lt_of_le h.b.lt g.size, fun i hi => ?_, fun i => by rw [World.frozen?_setCells]; exact h.b.fz i⟩⟩
  by_cases e : i / 19 = p
  · have hj : i % 19 < (stC z).toList.length := by rw [hl]; omega
    have q1 := World.cell?_setCells_in b (stC z).toList (p * 19) w (fun j hj => ((h.there p hp) j (by rw [hl] at hj; exact hj)).1) (i % 19) hj
    have q2 := stC_get z (i % 19) (by omega)
    rw [List.getElem?_eq_getElem hj] at q2
    have q3 := Option.some.inj q2
    rw [q3, show p * 19 + i % 19 = i by omega] at q1
    rw [q1]
    unfold stF updQ
    rw [if_pos e, Nat.mod_mod]
  · rw [World.cell?_setCells_out b _ _ w _ (fun _ _ => by rw [hl]; show i < p * 19 ∨ p * 19 + 19 ≤ i; omega), h.b.c i hi]
    unfold stF updQ
    rw [if_neg e]
/-- Harts in memory, to the cell. -/
structure Hf (b K : Nat) (a : Nat → Option Addr) (n c : Nat → Nat) (x : Nat → Nat → W.Oz) (S : Nat → Nat → S3) (w : World) : Prop where
  hs : Hs b K a n c x w
  fl : ∀ h, h < K → 0 < n h → ∃ g o, a h = some ⟨g, o, none⟩ ∧ g < w.heap.size ∧ ∀ j, j < n h → ∀ k, k < 13 → w.cell? ⟨g, o + j * 13 + k, none⟩ = some (opF (fun _ => W.oz0 (x h j).o) (fun _ => S h j) k)
theorem Hf.below {b K : Nat} {a : Nat → Option Addr} {n c : Nat → Nat} {x : Nat → Nat → W.Oz} {S : Nat → Nat → S3} {w w' : World} (h : Hf b K a n c x S w) (hb : Below w.heap.size w w') : Hf b K a n c x S w' :=
  ⟨h.hs.below hb, fun j hj h0 => by
    obtain ⟨g, o, e, hl, hc⟩ := h.fl j hj h0
    exact ⟨g, o, e, Nat.lt_of_lt_of_le hl hb.size, fun i hi k hk => (hb.cell (p := ⟨g, _, none⟩) hl).trans (hc i hi k hk)⟩⟩
def zSt : StR := ⟨W.op3 0 0 0, S3.nil, 0, 0, fun _ => 0⟩
theorem make_steps (n : Nat) (hn : n ≤ 8192) (w : World) : (Instr.makeSlice 69 (.int .i64 (n : Int)) (.int .i64 (n : Int))).run Tryd.prog w = .ok (.slice (some ⟨w.heap.size, 0, none⟩) n n) (w.alloc (.cells (madeCells (stC zSt) (n * 19)) 85)) := by
  obtain ⟨i, hi, hzz⟩ := Option.map_eq_some_iff.1 (show (Tryd.prog.info? 85).map (fun i => (i.zero, i.size, i.bytes)) = some (some (.agg (stC zSt)), 19, 168) by kernel_rfl)
  simp only [Prod.mk.injEq] at hzz
  obtain ⟨hz, hs, hb⟩ := hzz
  have hr := run_make (P := Tryd.prog) w 69 85 i _ Tryd.underlying69 hi hz .i64 .i64 n n (by omega) (by omega) (by rw [hb]; omega) (by omega)
  simp only [Int.toNat_natCast, hs] at hr
  exact hr
theorem Sb2.made (w : World) (N : Nat) (T : TypeId) : Sb2 w.heap.size N (fun _ => zSt) (w.alloc (.cells (madeCells (stC zSt) (N * 19)) T)) :=
  ⟨(Bc.made w (stC zSt) (N * 19) T).congr fun i hi => by
    have hs : (stC zSt).size = 19 := rfl
    have q := stC_get zSt (i % 19) (by omega)
    rw [hs]
    have e : stF (fun _ => zSt) i = stF (fun _ => zSt) (i % 19) := by
      unfold stF
      rw [Nat.mod_mod]
    rw [e]
    have hlt : i % 19 < (stC zSt).size := by rw [hs]; omega
    rw [getElem!_pos (stC zSt) (i % 19) hlt]
    have q' : (stC zSt)[i % 19]? = some (stF (fun _ => zSt) (i % 19)) := by rw [← q]; simp
    rw [Array.getElem?_eq_getElem hlt] at q'
    exact Option.some.inj q'⟩
end Go.Proofs.YtibohlbkkaghkaaDoor

/- wmo: stepsOf. -/
namespace Go.Proofs.YtibohlbkkaghkaaDoor
open Go.ChangeShapes Go.WideShapes Go.ChangeAt Go.RowKit Go.Maps
set_option linter.unusedVariables false
set_option linter.unusedSimpArgs false

namespace W
def lrO (x : Nat → Oz) (pl : Nat → Int) (i : Nat) : Int := if 0 ≤ pairO x i then pl (pairO x i).toNat else 0
/-- The steps of the first i operations of a hart. -/
def innS (x : Nat → Oz) (S : Nat → S3) (pl : Nat → Int) (h : Int) (q : Nat → StR) : Nat → (Nat → StR)
  | 0 => q
  | i + 1 => if pl i = 0 then innS x S pl h q i else updQ (innS x S pl h q i) (pl i).toNat ⟨(x i).o, S i, h, lrO x pl i, fun _ => 0⟩
/-- The steps of the first h harts, each gone along its list. -/
def sts (x : Nat → Nat → Oz) (S : Nat → Nat → S3) (n : Nat → Nat) (pl : Nat → Nat → Int) : Nat → (Nat → StR)
  | 0 => fun _ => zSt
  | h + 1 => (fol (innS (x h) (S h) (pl h) (h : Int) (sts x S n pl h) (n h)) (fun i => (pl h i).toNat) (n h)).2
/-- All steps. -/
def stp (x : Nat → Nat → Oz) (S : Nat → Nat → S3) (n : Nat → Nat) (pl : Nat → Nat → Int) (K N : Nat) : Nat → StR := (fol (sts x S n pl K) (fun p => p) (N + 1)).2
theorem byt_of (o : Opr) (h : FitB o) (a0 : 0 ≤ o.ad) (a1 : o.ad < 4294967296) : Byt o := by
  unfold FitB at h
  exact ⟨by omega, by omega, a0, by omega⟩
theorem inn_byt (x : Nat → Oz) (S : Nat → S3) (pl : Nat → Int) (h : Int) (q : Nat → StR) (hq : ∀ p, Byt (q p).o) : ∀ i, (∀ j, j < i → Byt (x j).o) → ∀ p, Byt (innS x S pl h q i p).o
  | 0, _, p => hq p
  | i + 1, hx, p => by
    have h1 := inn_byt x S pl h q hq i (fun j hj => hx j (by omega))
    unfold innS
    split
    · exact h1 p
    · unfold updQ
      split
      · exact hx i (by omega)
      · exact h1 p
theorem sts_byt (x : Nat → Nat → Oz) (S : Nat → Nat → S3) (n : Nat → Nat) (pl : Nat → Nat → Int) : ∀ h, (∀ j, j < h → ∀ i, i < n j → Byt (x j i).o) → ∀ p, Byt (sts x S n pl h p).o
  | 0, _, p => ⟨Int.le_refl _, (by decide : (0 : Int) ≤ 4), Int.le_refl _, (by decide : (0 : Int) + 0 ≤ 4294967296)⟩
  | h + 1, hx, p => by
    have h1 := sts_byt x S n pl h (fun j hj => hx j (by omega))
    unfold sts
    rw [fol_o]
    exact inn_byt _ _ _ _ _ h1 _ (fun j hj => hx h (by omega) j hj) p
theorem plc_bd (r : Nat → Nat × Nat) : ∀ (N h i : Nat), 0 ≤ plc r N h i ∧ plc r N h i ≤ (N : Int)
  | 0, h, i => ⟨Int.le_refl _, Int.le_refl _⟩
  | N + 1, h, i => by
    have := plc_bd r N h i
    unfold plc
    split
    · omega
    · omega
end W
theorem Sb2.setL {b N : Nat} {q : Nat → StR} {w : World} (h : Sb2 b N q w) (p : Nat) (v : Int) : Sb2 b N (updQ q p { q p with lr := v }) (w.setCell ⟨b, p * 19 + 14, none⟩ (.int .i64 v)) := by
  refine h.set p 14 (by decide) _ _ rfl (fun i hi hne => ?_)
  unfold stF
  dsimp only
  by_cases h1 : i % 19 < 13
  · rw [if_pos h1, if_pos h1]
  · rw [if_neg h1, if_neg h1]
    by_cases h2 : i % 19 = 13
    · rw [if_pos h2, if_pos h2]
    · rw [if_neg h2, if_neg h2, if_neg (by omega), if_neg (by omega)]
/-- The two that stepsOf makes, in either order. -/
structure Mk2 (w : World) (M sb lb : Nat) (q : Nat → StR) (w' : World) : Prop where
  s : Sb2 sb M q w'
  l : Bc lb M (fun _ => .int .i64 0) w'
  ne : lb ≠ sb
  s0 : w.heap.size ≤ sb
  l0 : w.heap.size ≤ lb
  b : Below w.heap.size w w'
theorem bcz (w : World) (M : Nat) (T : TypeId) : Bc w.heap.size M (fun _ => .int .i64 0) (w.alloc (.cells (madeCells #[.int .i64 0] M) T)) := (Bc.made w #[.int .i64 0] M T).congr fun i hi => by
  show (#[Value.int .i64 0] : Array Value)[i % 1]! = _
  rw [Nat.mod_one]
  rfl
theorem Mk2.a (w : World) (M : Nat) (T T2 : TypeId) : Mk2 w M w.heap.size (w.heap.size + 1) (fun _ => zSt) ((w.alloc (.cells (madeCells (stC zSt) (M * 19)) T)).alloc (.cells (madeCells #[.int .i64 0] M) T2)) := by
  have e : (w.alloc (.cells (madeCells (stC zSt) (M * 19)) T)).heap.size = w.heap.size + 1 := by simp
  have hl := bcz (w.alloc (.cells (madeCells (stC zSt) (M * 19)) T)) M T2
  rw [e] at hl
  exact ⟨(Sb2.made w M T).below ((Below.refl _ _).alloc (Nat.le_refl _) _), hl, by omega, Nat.le_refl _, by omega, ((Below.refl _ _).alloc (Nat.le_refl _) _).alloc (by simp) _⟩
theorem Mk2.b' (w : World) (M : Nat) (T T2 : TypeId) : Mk2 w M (w.heap.size + 1) w.heap.size (fun _ => zSt) ((w.alloc (.cells (madeCells #[.int .i64 0] M) T2)).alloc (.cells (madeCells (stC zSt) (M * 19)) T)) := by
  have e : (w.alloc (.cells (madeCells #[.int .i64 0] M) T2)).heap.size = w.heap.size + 1 := by simp
  have hs := Sb2.made (w.alloc (.cells (madeCells #[.int .i64 0] M) T2)) M T
  rw [e] at hs
  exact ⟨hs, (bcz w M T2).below ((Below.refl _ _).alloc (Nat.le_refl _) _), by omega, by omega, Nat.le_refl _, ((Below.refl _ _).alloc (Nat.le_refl _) _).alloc (by simp) _⟩
theorem Mk2.drew {w : World} {M sb lb : Nat} {q : Nat → StR} {w' : World} (h : Mk2 w M sb lb q w') : Mk2 w M sb lb q w'.drew := ⟨h.s.below (Below.refl _ _).drew, h.l.below (Below.refl _ _).drew, h.ne, h.s0, h.l0, h.b.drew⟩
attribute [local go_sem ↓] ldO_eq bdS_eq stS_eq
set_option maxRecDepth 10000 in
set_option maxHeartbeats 3200000 in
theorem stepsOf_any (b K KC : Nat) (a : Nat → Option Addr) (n c : Nat → Nat) (x : Nat → Nat → W.Oz) (S : Nat → Nat → S3) (base PB N : Nat) (pb : Nat → Nat) (f : Nat → Nat → Int) (w : World) (h : Hf b K a n c x S w) (v : W.Vd K n x) (hP : Pl base PB K n pb f K w) (hf : ∀ h i, 0 ≤ f h i ∧ f h i ≤ (N : Int)) (hN : N ≤ 4096) :
    Calls Tryd.prog 28 #[.slice (some ⟨b, 0, none⟩) K KC, .slice (some ⟨PB, 0, none⟩) K K, .int .i64 (N : Int)] w fun e w' => (∃ sb, e = .returned (.slice (some ⟨sb, 0, none⟩) (N + 1) (N + 1)) ∧ w.heap.size ≤ sb ∧ Sb2 sb (N + 1) (W.stp x S n f K N) w') ∧ Below w.heap.size w w' := by
  have k1 := v.k
  obtain ⟨OS, hOS, hmS⟩ : ∃ o : Obj, Hid (o = (.cells (madeCells (stC zSt) ((N + 1) * 19)) 85)) ∧ ∀ w, (Instr.makeSlice 69 (.int .i64 ((N : Int) + 1)) (.int .i64 ((N : Int) + 1))).run Tryd.prog w = .ok (.slice (some ⟨w.heap.size, 0, none⟩) (N + 1) (N + 1)) (w.alloc o) := ⟨_, rfl, make_steps (N + 1) (by omega)⟩
  obtain ⟨OL, hOL, hmL⟩ : ∃ o : Obj, Hid (o = (.cells (madeCells #[.int .i64 0] (N + 1)) 3)) ∧ ∀ w, (Instr.makeSlice 23 (.int .i64 ((N : Int) + 1)) (.int .i64 ((N : Int) + 1))).run Tryd.prog w = .ok (.slice (some ⟨w.heap.size, 0, none⟩) (N + 1) (N + 1)) (w.alloc o) := ⟨_, rfl, make_ints (N + 1) (by omega)⟩
  have HH : Hid (_ ∧ _ ∧ _ ∧ _) := ⟨h, v, hP, hf⟩
  clear h v hP hf
  go_enter Tryd.func28, Tryd.ntmps28
  go_wp2_with (fail)
  go_cut [7, 8] from 15 to 21 (fun s l wx => ∃ sb lb, s = .slice (some ⟨sb, 0, none⟩) (N + 1) (N + 1) ∧ l = .slice (some ⟨lb, 0, none⟩) (N + 1) (N + 1) ∧ Mk2 w (N + 1) sb lb (fun _ => zSt) wx)
  case first =>
    go_region
    all_goals
      go_wp2
      go_meet
      case rel => (first
        | exact ⟨_, _, rfl, rfl, by rw [hOS.out, hOL.out]; exact (Mk2.a w (N + 1) _ _).drew⟩
        | exact ⟨_, _, rfl, rfl, by rw [hOS.out, hOL.out]; exact (Mk2.b' w (N + 1) _ _).drew⟩)
  case rest =>
    obtain ⟨sb, lb, rfl, rfl, hM⟩ := hcut
    clear hmS hmL hOS hOL
    have HM : Hid _ := hM
    clear hM
    go_wp2
    go_loopw [23] (fun i wr => ∃ j : Nat, j ≤ K ∧ i = .int .i64 (j : Int) ∧ Mk2 w (N + 1) sb lb (W.sts x S n f j) wr) (fun i _ => K - (intOf i).toNat)
    case atStart => exact ⟨0, by omega, rfl, HM.out⟩
    case round =>
      clear HM
      obtain ⟨j, hj, rfl, hM⟩ := hrel
      by_cases hlt : j < K
      · have hjn : (j : Int) < (K : Int) := by omega
        have hm := HH.out.1.below hM.b
        have g0 := hm.hs.cl j hlt
        have lt := hm.hs.lt
        have nle := HH.out.2.1.le j hlt
        have hpr := pairs_any (a j) (n j) (c j) (x j) wr (hm.hs.ol j hlt) nle
        have HX : Hid (Calls _ _ _ _ _ ∧ _) := ⟨hpr, hM⟩
        clear hpr hM hm
        go_wp2_with (fail)
        refine HX.out.1.mono ?_
        rintro e w1 ⟨⟨pg, rfl, hpg, hBp⟩, b1⟩
        have hM1 : Mk2 w (N + 1) sb lb (W.sts x S n f j) w1 := ⟨HX.out.2.s.below b1, HX.out.2.l.below b1, HX.out.2.ne, HX.out.2.s0, HX.out.2.l0, HX.out.2.b.trans (b1.mono HX.out.2.b.size)⟩
        have pgs : pg ≠ sb := by have := HX.out.2.s.b.lt; omega
        clear HX b1 g0 lt
        have P1 := HH.out.2.2.1.below hM1.b
        have p1 := P1.o.c j hlt
        rw [if_pos hlt] at p1
        have p1l := P1.o.lt
        have HY : Hid (_ ∧ _) := ⟨hM1, hBp⟩
        clear P1 hM1 hBp
        go_wp2
        go_loopw [35] (fun t wy => ∃ i : Nat, i ≤ n j ∧ t = .int .i64 (i : Int) ∧ Sb2 sb (N + 1) (W.innS (x j) (S j) (f j) (j : Int) (W.sts x S n f j) i) wy ∧ w1.grownBy wy (some sb)) (fun t _ => n j - (intOf t).toNat)
        case atStart => exact ⟨0, by omega, rfl, HY.out.1.s, ⟨rfl, rfl, rfl, Nat.le_refl _, fun _ _ _ => rfl⟩⟩
        case round =>
          clear p1 p1l
          obtain ⟨i, hi, rfl, hS, hg⟩ := hrel
          have bw : Below w.heap.size w wr := Below.grown HY.out.1.b hg HY.out.1.b.size (fun d e => by cases e; exact HY.out.1.s0)
          by_cases hli : i < n j
          · have hin : (i : Int) < (n j : Int) := by omega
            have P1 := HH.out.2.2.1.below bw
            have q0 := (P1.i j hlt).c i hli
            have q0l := (P1.i j hlt).lt
            have q1 := P1.o.c j hlt
            rw [if_pos hlt] at q1
            have q1l := P1.o.lt
            have eI : W.innS (x j) (S j) (f j) (j : Int) (W.sts x S n f j) (i + 1) = if f j i = 0 then W.innS (x j) (S j) (f j) (j : Int) (W.sts x S n f j) i else updQ (W.innS (x j) (S j) (f j) (j : Int) (W.sts x S n f j) i) (f j i).toNat ⟨(x j i).o, S j i, (j : Int), W.lrO (x j) (f j) i, fun _ => 0⟩ := rfl
            have fb := HH.out.2.2.2 j i
            try dsimp only at q0
            by_cases p0 : f j i = 0
            · rw [p0] at q0
              rw [if_pos p0] at eI
              have HZ : Hid (_ ∧ _ ∧ _) := ⟨hS, hg, eI⟩
              clear hS hg eI P1 bw
              go_wp2
              go_roundw
              case rel => exact ⟨i + 1, by omega, by go_num, by rw [HZ.out.2.2]; exact HZ.out.1, HZ.out.2.1⟩
              case measure => simp [intOf]; omega
            · rw [if_neg p0] at eI
              obtain ⟨p, hp⟩ := Int.eq_ofNat_of_zero_le fb.1
              rw [hp, Int.toNat_natCast] at eI
              rw [hp] at q0 fb p0
              have pz : ((p : Int) == 0) = false := by simpa using p0
              have pN : p < N + 1 := by omega
              have pNi : (p : Int) < (N : Int) + 1 := by omega
              obtain ⟨g, o, ha, gl, hc⟩ := (HH.out.1.below bw).fl j hlt (by omega)
              have ld := ldO_any (x j i).o (S j i) (hc i hli)
              have bd := bdS_2 (x j i).o (S j i) (j : Int)
              have sto := hS.store p pN ⟨(x j i).o, S j i, (j : Int), 0, fun _ => 0⟩
              have hS2 := hS.put p pN ⟨(x j i).o, S j i, (j : Int), 0, fun _ => 0⟩
              have hg2 := gcomp hg (gsetCells sb (stC ⟨(x j i).o, S j i, (j : Int), 0, fun _ => 0⟩).toList (p * 19) wr) (fun d e => by cases e; exact Or.inl rfl)
              have sbl := hS.b.lt
              have bc2 := (HY.out.2.grown hg2 (by simpa using pgs)).c i hli
              have bl2 := (HY.out.2.grown hg2 (by simpa using pgs)).lt
              try dsimp only at bc2
              rw [ha]
              clear hc
              generalize wr.setCells sb (p * 19) (stC ⟨(x j i).o, S j i, (j : Int), 0, fun _ => 0⟩).toList = wr2 at *
              generalize stC ⟨(x j i).o, S j i, (j : Int), 0, fun _ => 0⟩ = CS at *
              have bw2 : Below w.heap.size w wr2 := Below.grown HY.out.1.b hg2 HY.out.1.b.size (fun d e => by cases e; exact HY.out.1.s0)
              have P2 := HH.out.2.2.1.below bw2
              have r1 := P2.o.c j hlt
              rw [if_pos hlt] at r1
              have r1l := P2.o.lt
              have r2l := (P2.i j hlt).lt
              have sl2 := hS2.b.lt
              have sfz := hS2.b.fz
              have s14 := hS2.cell p 14 pN (by decide) _ rfl
              generalize stF _ 14 = v14 at s14
              have r2c := (P2.i j hlt).c
              by_cases h0 : 0 ≤ W.pairO (x j) i
              · obtain ⟨Pq, hPq⟩ := Int.eq_ofNat_of_zero_le h0
                have hlP := (W.pairO_lt (x j) i).1
                rw [hPq] at hlP bc2
                have r2 := r2c Pq (by omega)
                have hPn : (Pq : Int) < (n j : Int) := by omega
                have eL : W.lrO (x j) (f j) i = f j Pq := by unfold W.lrO; rw [if_pos h0, hPq, Int.toNat_natCast]
                rw [eL] at eI
                have hS3 := hS2.setL p (f j Pq)
                rw [updQ_twice, updQ_same] at hS3
                try dsimp only at hS3
                have hg3 := gcomp hg2 (gsetCell wr2 sb (p * 19 + 14) (.int .i64 (f j Pq))) (fun d e => by cases e; exact Or.inl rfl)
                have hS4 := hS3.below (Below.refl _ _).drew
                have hg4 := gcomp hg3 (gdrew _) (fun d e => by cases e)
                have HZ : Hid (_ ∧ _ ∧ _) := ⟨hS4, hg4, eI⟩
                clear hS hS2 hS3 hS4 hg hg2 hg3 hg4 eI P1 P2 bw bw2 r2c eL h0 hPq
                generalize f j Pq = fP at *
                go_wp2
                go_region
                go_wp2
                go_roundw
                case rel => exact ⟨i + 1, by omega, by go_num, by rw [HZ.out.2.2]; exact HZ.out.1, HZ.out.2.1⟩
                case measure => simp [intOf]; omega
              · have eL : W.lrO (x j) (f j) i = 0 := by unfold W.lrO; rw [if_neg h0]
                rw [eL] at eI
                have HZ : Hid (_ ∧ _ ∧ _) := ⟨hS2, hg2, eI⟩
                clear hS hS2 hg hg2 eI P1 P2 bw bw2 r2c eL r1 r1l r2l s14 sfz sl2
                generalize W.pairO (x j) i = PP at *
                go_wp2
                go_roundw
                case rel => exact ⟨i + 1, by omega, by go_num, by rw [HZ.out.2.2]; exact HZ.out.1, HZ.out.2.1⟩
                case measure => simp [intOf]; omega
          · obtain rfl : i = n j := by omega
            have hin : ¬ ((n j : Nat) : Int) < (n j : Int) := by omega
            have P1 := HH.out.2.2.1.below bw
            have q1 := P1.o.c j hlt
            rw [if_pos hlt] at q1
            have q1l := P1.o.lt
            have fln : ∀ i, ((f j i).toNat : Int) = f j i := fun i => by have := (HH.out.2.2.2 j i).1; omega
            have hl1 : Bc (pb j) (n j) (fun i => .int .i64 (((f j i).toNat : Nat) : Int)) wr := (P1.i j hlt).congr fun i _ => by rw [fln]
            have pbs : pb j ≠ sb := by have := (HH.out.2.2.1.i j hlt).lt; have := HY.out.1.s0; omega
            have byt := W.inn_byt (x j) (S j) (f j) (j : Int) (W.sts x S n f j) (W.sts_byt x S n f j (fun t ht i hi => W.byt_of _ ((HH.out.2.1.s t (by omega)).b i hi) ((HH.out.2.1.s t (by omega)).a0 i hi) ((HH.out.2.1.s t (by omega)).a1 i hi))) (n j) (fun i hi => W.byt_of _ ((HH.out.2.1.s j hlt).b i hi) ((HH.out.2.1.s j hlt).a0 i hi) ((HH.out.2.1.s j hlt).a1 i hi))
            have fo := follow_any sb (N + 1) _ (pb j) (n j) (fun i => (f j i).toNat) wr hS hl1 pbs (by omega) (by omega) (fun i _ => by have := HH.out.2.2.2 j i; omega) (fun i _ => byt _)
            have HZ : Hid (Calls _ _ _ _ _ ∧ _ ∧ _) := ⟨fo, hg, bw⟩
            clear fo hg bw hS hl1 byt P1
            go_wp2_with (fail)
            refine HZ.out.1.mono ?_
            rintro e w5 ⟨rfl, hS5, hg5⟩
            have hg6 := gcomp HZ.out.2.1 hg5 (fun d e => by cases e; exact Or.inl rfl)
            have M5 : Mk2 w (N + 1) sb lb (W.sts x S n f (j + 1)) w5 := ⟨hS5, HY.out.1.l.grown hg6 (by simpa using HY.out.1.ne), HY.out.1.ne, HY.out.1.s0, HY.out.1.l0, Below.grown HY.out.1.b hg6 HY.out.1.b.size (fun d e => by cases e; exact HY.out.1.s0)⟩
            have HM5 : Hid _ := M5
            clear M5 hS5 hg5 hg6 HZ
            go_wp2
            go_roundw
            case rel => exact ⟨j + 1, by omega, by go_num, HM5.out⟩
            case measure => simp [intOf]; omega
      · obtain rfl : j = K := by omega
        have hjn : ¬ (j : Int) < (j : Int) := by omega
        have HM : Hid _ := hM
        clear hM
        go_wp2
        go_loopw [80] (fun t wy => ∃ i : Nat, i ≤ N + 1 ∧ t = .int .i64 (i : Int) ∧ Sb2 sb (N + 1) (W.sts x S n f j) wy ∧ Bc lb (N + 1) (fun q => .int .i64 (if q < i then (q : Int) else 0)) wy ∧ Below w.heap.size w wy) (fun t _ => N + 1 - (intOf t).toNat)
        case atStart => exact ⟨0, by omega, rfl, HM.out.s, HM.out.l.congr (fun q _ => by rw [if_neg (by omega)]), HM.out.b⟩
        case round =>
          obtain ⟨i, hi, rfl, hS, hL, hB⟩ := hrel
          by_cases hli : i < N + 1
          · have hin : (i : Int) < (N : Int) + 1 := by omega
            have c0 := hL.c i hli
            have cl := hL.lt
            have cf := hL.fz
            have hS2 := hS.other (gsetCell wr lb i (.int .i64 (i : Int))) (by simpa using HM.out.ne.symm)
            have hL2 := (hL.set i (.int .i64 (i : Int))).congr (g := fun q => .int .i64 (if q < i + 1 then (q : Int) else 0)) (fun q _ => by
              unfold updV
              by_cases e : q = i
              · rw [if_pos e, if_pos (by omega), e]
              · rw [if_neg e]
                dsimp only
                by_cases e2 : q < i
                · rw [if_pos e2, if_pos (by omega)]
                · rw [if_neg e2, if_neg (by omega)])
            have hB2 := hB.setCell (p := ⟨lb, i, none⟩) HM.out.l0 (.int .i64 (i : Int))
            have HZ : Hid (_ ∧ _ ∧ _) := ⟨hS2, hL2, hB2⟩
            clear hS hL hB hS2 hL2 hB2
            go_wp2
            go_roundw
            case rel => exact ⟨i + 1, by omega, by go_num, HZ.out.1, HZ.out.2.1, HZ.out.2.2⟩
            case measure => simp [intOf]; omega
          · obtain rfl : i = N + 1 := by omega
            have hin : ¬ ((N + 1 : Nat) : Int) < (N : Int) + 1 := by omega
            have hl1 : Bc lb (N + 1) (fun q => .int .i64 (((fun p => p) q : Nat) : Int)) wr := hL.congr fun q hq => by rw [if_pos hq]
            have byt := W.sts_byt x S n f j (fun t ht i hi => W.byt_of _ ((HH.out.2.1.s t (by omega)).b i hi) ((HH.out.2.1.s t (by omega)).a0 i hi) ((HH.out.2.1.s t (by omega)).a1 i hi))
            have fo := follow_any sb (N + 1) _ lb (N + 1) (fun p => p) wr hS hl1 HM.out.ne (by omega) (by omega) (fun i hi => hi) (fun i _ => byt _)
            have HZ : Hid (Calls _ _ _ _ _ ∧ _) := ⟨fo, hB⟩
            clear fo hB hS hl1 byt hL
            go_wp2_with (fail)
            refine HZ.out.1.mono ?_
            rintro e w5 ⟨rfl, hS5, hg5⟩
            have B5 : Below w.heap.size w w5 := Below.grown HZ.out.2 hg5 HZ.out.2.size (fun d e => by cases e; exact HM.out.s0)
            have HW : Hid (_ ∧ _ ∧ _) := ⟨HM.out.s0, hS5, B5⟩
            clear hS5 hg5 B5 HZ HM
            go_wp2
            go_ret
            exact ⟨⟨sb, rfl, HW.out.1, HW.out.2.1⟩, HW.out.2.2⟩
end Go.Proofs.YtibohlbkkaghkaaDoor

/- wmo: what memory has first; a byte that was written. -/
namespace Go.Proofs.YtibohlbkkaghkaaDoor
open Go.ChangeShapes Go.WideShapes Go.ChangeAt Go.RowKit Go.Maps
set_option linter.unusedVariables false
set_option linter.unusedSimpArgs false

/-- A memory that is 0 at first: the law's closure. -/
def fvZ (cb : Nat) : Value := .func (.func 23) #[] #[.pointer (some ⟨cb, 0, none⟩)]
structure Fz (cb : Nat) (w : World) : Prop where
  lt : cb < w.heap.size
  c : ∃ a c, w.cell? ⟨cb, 0, none⟩ = some (.slice a 0 c)
theorem Fz.below {cb : Nat} {w w' : World} (h : Fz cb w) (hb : Below w.heap.size w w') : Fz cb w' :=
  ⟨Nat.lt_of_lt_of_le h.lt hb.size, by obtain ⟨a, c, e⟩ := h.c; exact ⟨a, c, (hb.cell (p := ⟨cb, 0, none⟩) h.lt).trans e⟩⟩
theorem first0_any (cb : Nat) (a : Int) (a0 : 0 ≤ a) (a1 : a < 4294967296) (w : World) (h : Fz cb w) :
    Calls Tryd.prog 23 #[.int .u32 a, .pointer (some ⟨cb, 0, none⟩)] w fun e w' => e = .returned (.int .u8 0) ∧ w = w' := by
  obtain ⟨sa, sc, c0⟩ := h.c
  have lt := h.lt
  have e : ¬ a < 0 := by omega
  clear h
  go_enter Tryd.func23, Tryd.ntmps23
  go_wp2
  go_ret
  exact ⟨rfl, rfl⟩
theorem catch_idle (p : Addr) (w : World) :
    CallsD Tryd.prog 71 #[.pointer (some p)] .returning w fun e u' w' => e = .returned (.tuple #[]) ∧ u' = .returning ∧ w' = w := by
  refine callsD_of_wpS Tryd.func71 rfl fun c₀ cs hu => ?_
  apply wpS_seq
  apply wpS_region
  simp [wpOpsS, go_sem, recoverD, hu, Tryd.ntmps71, Exit.thenS]
  refine wpS_cond (t := false) (by simp [Act.eval, Array.replicate]) ?_
  simp only [Bool.false_eq_true, if_false]
  refine wpS_of_wp (wp_skip ?_)
  cases c₀
  simp_all [bodyPostS, results, Tryd.results71]
theorem firstAt_any (cb : Nat) (a : Int) (a0 : 0 ≤ a) (a1 : a < 4294967296) (w : World) (h : Fz cb w) :
    Calls Tryd.prog 61 #[fvZ cb, .int .u32 a] w fun e w' => e = .returned (.int .u8 0) ∧ Below w.heap.size w w' := by
  have hmf : ∀ (fn : Fn) (first cap : Array Value) (w : World), (Instr.makeFunc fn first cap).run Tryd.prog w = .ok (.func fn first cap) w := fun _ _ _ _ => rfl
  have hc := fun w' (hb : Below w.heap.size w w') => first0_any cb a a0 a1 w' (h.below hb)
  have HC : Hid _ := hc
  clear hc h
  unfold fvZ
  go_enter_defers Tryd.func61, Tryd.ntmps61
  go_wp2_with (fail)
  refine (HC.out _ ((Below.refl _ _).alloc (Nat.le_refl _) _)).mono ?_
  rintro e w1 ⟨rfl, rfl⟩
  go_wp2
  refine leaves_cons (f := 71) (args := #[.pointer (some ⟨w.heap.size, 0, none⟩)]) (by simp) (by simp [go_sem]) ?_
  refine (catch_idle ⟨w.heap.size, 0, none⟩ _).mono ?_
  rintro e u' w'' ⟨rfl, rfl, rfl⟩
  simp [Leaves, settle, results, Tryd.results61, go_sem]
  exact (Below.refl _ _).alloc (Nat.le_refl _) _
namespace W
/-- The byte of v at d. -/
def bta (v : Int) (d : Nat) : Int := (v / 2 ^ (8 * d)) % 256
end W
set_option maxHeartbeats 800000 in
theorem byteAt_any (g off : Nat) (v ad : Int) (d : Nat) (w : World) (gl : g < w.heap.size) (c2 : w.cell? ⟨g, off + 2, none⟩ = some (.int .u32 ad)) (c3 : w.cell? ⟨g, off + 3, none⟩ = some (.int .u32 v)) (hd : d < 4) (v0 : 0 ≤ v) (v1 : v < 4294967296) (a0 : 0 ≤ ad) (a1 : ad + d < 4294967296) :
    Calls Tryd.prog 62 #[.pointer (some ⟨g, off, none⟩), .int .u32 (ad + d)] w fun e w' => e = .returned (.int .u8 (W.bta v d)) ∧ Below w.heap.size w w' := by
  have es : ad + (d : Int) - ad = (d : Int) := by omega
  match d, hd with
  | 0, _ =>
    go_enter Tryd.func62, Tryd.ntmps62
    go_wp2
    go_region
    go_wp2
    go_ret
    refine ⟨?_, (Below.refl _ _).drew⟩
    unfold W.bta
    first
      | rfl
      | (simp only [Array.getD, Nat.reduceMul]; simp)
  | 1, _ =>
    go_enter Tryd.func62, Tryd.ntmps62
    go_wp2
    go_region
    go_wp2
    go_ret
    refine ⟨?_, (Below.refl _ _).drew⟩
    unfold W.bta
    first
      | rfl
      | (simp only [Array.getD, Nat.reduceMul]; simp; rw [show 8 * (ad + 1 - ad) = 8 by omega]; rfl)
  | 2, _ =>
    go_enter Tryd.func62, Tryd.ntmps62
    go_wp2
    go_region
    go_wp2
    go_ret
    refine ⟨?_, (Below.refl _ _).drew⟩
    unfold W.bta
    first
      | rfl
      | (simp only [Array.getD, Nat.reduceMul]; simp; rw [show 8 * (ad + 2 - ad) = 16 by omega]; rfl)
  | 3, _ =>
    go_enter Tryd.func62, Tryd.ntmps62
    go_wp2
    go_region
    go_wp2
    go_ret
    refine ⟨?_, (Below.refl _ _).drew⟩
    unfold W.bta
    first
      | rfl
      | (simp only [Array.getD, Nat.reduceMul]; simp; rw [show 8 * (ad + 3 - ad) = 24 by omega]; rfl)
namespace W
/-- The byte at A as the write at F left it. -/
def byR (q : Nat → StR) (F A : Int) : Int := if F = 0 then 0 else bta (q F.toNat).o.vl (A - (q F.toNat).o.ad).toNat
/-- What step p has to read of its first k bytes. -/
def rdV (q : Nat → StR) (p : Nat) : Nat → Int
  | 0 => 0
  | k + 1 => rdV q p k + byR q ((q p).fr k) ((q p).o.ad + k) * 2 ^ (8 * k)
/-- A place that a byte may come from. -/
def FrO (q : Nat → StR) (M : Nat) (F A : Int) : Prop := F = 0 ∨ (0 < F ∧ F < (M : Int) ∧ 0 ≤ (q F.toNat).o.ad ∧ (q F.toNat).o.ad ≤ A ∧ A < (q F.toNat).o.ad + 4 ∧ 0 ≤ (q F.toNat).o.vl ∧ (q F.toNat).o.vl < 4294967296)
theorem bta_bd (v : Int) (d : Nat) : 0 ≤ bta v d ∧ bta v d < 256 := by
  unfold bta
  omega
theorem byR_bd (q : Nat → StR) (F A : Int) : 0 ≤ byR q F A ∧ byR q F A < 256 := by
  unfold byR
  split
  · omega
  · exact bta_bd _ _
theorem rdV_bd (q : Nat → StR) (p : Nat) : ∀ k, 0 ≤ rdV q p k ∧ rdV q p k < 2 ^ (8 * k)
  | 0 => ⟨Int.le_refl _, by show (0 : Int) < 2 ^ 0; decide⟩
  | k + 1 => by
    have h := rdV_bd q p k
    have b := byR_bd q ((q p).fr k) ((q p).o.ad + k)
    have e : (2 : Int) ^ (8 * (k + 1)) = 256 * 2 ^ (8 * k) := by rw [Nat.mul_add, Int.pow_add]; omega
    unfold rdV
    rw [e]
    generalize byR q ((q p).fr k) ((q p).o.ad + k) = B at *
    generalize (2 : Int) ^ (8 * k) = T at *
    have h1 : B * T ≤ 255 * T := Int.mul_le_mul_of_nonneg_right (by omega) (by omega)
    have h2 : 0 ≤ B * T := Int.mul_nonneg b.1 (by omega)
    omega
end W
set_option maxHeartbeats 800000 in
theorem byteToRead_any (sb M cb : Nat) (q : Nat → StR) (F A : Int) (w : World) (hS : Sb2 sb M q w) (hM : M ≤ 5000) (hz : Fz cb w) (a0 : 0 ≤ A) (a1 : A < 4294967296) (hF : W.FrO q M F A) :
    Calls Tryd.prog 54 #[.slice (some ⟨sb, 0, none⟩) M M, .int .i64 F, .int .u32 A, fvZ cb] w fun e w' => e = .returned (.int .u8 (W.byR q F A)) ∧ Below w.heap.size w w' := by
  unfold W.byR
  by_cases f0 : F = 0
  · subst f0
    rw [if_pos rfl]
    have HC : Hid (Calls _ _ _ _ _) := firstAt_any cb A a0 a1 w hz
    clear hS hF hz
    generalize fvZ cb = FV at *
    go_enter Tryd.func54, Tryd.ntmps54
    go_wp2_with (fail)
    refine HC.out.mono ?_
    rintro e w1 ⟨rfl, b1⟩
    go_wp2
    go_ret
    exact ⟨rfl, b1⟩
  · rw [if_neg f0]
    rcases hF with h | ⟨h1, h2, h3, h4, h5, h6, h7⟩
    · exact absurd h f0
    · obtain ⟨P, rfl⟩ := Int.eq_ofNat_of_zero_le (show 0 ≤ F by omega)
      rw [Int.toNat_natCast] at *
      obtain ⟨d, hd⟩ := Int.eq_ofNat_of_zero_le (show 0 ≤ A - (q P).o.ad by omega)
      have eA : A = (q P).o.ad + d := by omega
      subst eA
      have ed : ((q P).o.ad + (d : Int) - (q P).o.ad).toNat = d := by omega
      rw [ed]
      have c2 := hS.cell P 2 (by omega) (by decide) (.int .u32 (q P).o.ad) rfl
      have c3 := hS.cell P 3 (by omega) (by decide) (.int .u32 (q P).o.vl) rfl
      have HC : Hid (Calls _ _ _ _ _) := byteAt_any sb (P * 19) (q P).o.vl (q P).o.ad d w hS.b.lt c2 c3 (by omega) h6 h7 h3 a1
      have f1 : ((P : Int) == 0) = false := by simpa using f0
      have sl := hS.b.lt
      have hPM : (P : Int) < (M : Int) := h2
      clear hS hz c2 c3 hd ed
      generalize fvZ cb = FV at *
      generalize (q P).o.ad + (d : Int) = A at *
      go_enter Tryd.func54, Tryd.ntmps54
      go_wp2_with (fail)
      refine HC.out.mono ?_
      rintro e w1 ⟨rfl, b1⟩
      go_wp2
      go_ret
      exact ⟨rfl, b1⟩
end Go.Proofs.YtibohlbkkaghkaaDoor
