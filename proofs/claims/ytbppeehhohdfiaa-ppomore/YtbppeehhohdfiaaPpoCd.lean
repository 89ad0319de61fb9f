/- The document's copy of operations. -/
import Derived.Test.YtbppeehhohdfiaaPpoCb
namespace Go.Proofs.Ytbppeehhohdfiaa
open Go.ChangeShapes Go.WideShapes Go.ChangeAt Go.RowKit
set_option linter.unusedVariables false
set_option linter.unusedSimpArgs false

def opX (o : W.Opr) (S : S3) : Array Value := opC o S.a S.d S.c
def opsX (o : Nat → W.Opr) (S : Nat → S3) (n : Nat) : List Value := (List.range n).flatMap fun j => (opX (o j) (S j)).toList
theorem opsX_succ (o : Nat → W.Opr) (S : Nat → S3) (n : Nat) : opsX o S (n + 1) = opsX o S n ++ (opX (o n) (S n)).toList := by
  unfold opsX
  rw [List.range_succ, List.flatMap_append]
  simp
theorem opsX_len (o : Nat → W.Opr) (S : Nat → S3) : ∀ n, (opsX o S n).length = n * 13
  | 0 => rfl
  | n + 1 => by rw [opsX_succ, List.length_append, opsX_len o S n]; show n * 13 + 13 = _; omega
theorem opsX_get (o : Nat → W.Opr) (S : Nat → S3) : ∀ (n j k : Nat), j < n → k < 13 → (opsX o S n)[j * 13 + k]? = (opX (o j) (S j))[k]?
  | 0, j, k, h, _ => by omega
  | n + 1, j, k, h, hk => by
    rw [opsX_succ]
    by_cases hj : j < n
    · rw [List.getElem?_append_left (by rw [opsX_len]; omega)]
      exact opsX_get o S n j k hj hk
    · obtain rfl : j = n := by omega
      rw [List.getElem?_append_right (by rw [opsX_len]; omega), opsX_len, show j * 13 + k - j * 13 = k by omega]
      simp
theorem opsX_upd (o : Nat → W.Opr) (S : Nat → S3) (m : Nat) (s : S3) : ∀ n, n ≤ m → opsX o (updS S m s) n = opsX o S n
  | 0, _ => rfl
  | n + 1, h => by
    rw [opsX_succ, opsX_succ, opsX_upd o S m s n (by omega)]
    unfold updS
    rw [if_neg (by omega)]
theorem opF_at (x : Nat → W.Oz) (S : Nat → S3) (j k : Nat) (hk : k < 13) : opF x S (j * 13 + k) = opF (fun _ => W.oz0 (x j).o) (fun _ => S j) k := by
  have h1 : (j * 13 + k) / 13 = j := by omega
  have h2 : (j * 13 + k) % 13 = k := by omega
  have h3 : k % 13 = k := by omega
  unfold opF W.oz0
  rw [h1, h2, h3]
theorem own_bc {w : World} {base n g cap : Nat} {o : Nat → W.Opr} {S : Nat → S3} (x : Nat → W.Oz) (hx : ∀ j, (x j).o = o j) (h : w.ownsRow base 30 13 (.slice (some ⟨g, 0, none⟩) n cap) n (opsX o S n)) : Bc g (n * 13) (opF x S) w := by
  have h' := h
  rcases h.2 with ⟨h1, _⟩ | ⟨g', cap', cur, h1, hg, hh, hcap, hmax, hcur, htake⟩
  · cases h1
  · cases h1
    refine ⟨(Array.getElem?_eq_some_iff.1 hh).1, fun i hi => ?_, fun j => by unfold World.frozen?; rw [hh]; simp⟩
    have hc := h'.cells (g := g) rfl i (opF x S i) (by
      have q := opsX_get o S n (i / 13) (i % 13) (by omega) (by omega)
      have e := opF_at x S (i / 13) (i % 13) (by omega)
      rw [show i / 13 * 13 + i % 13 = i by omega] at q e
      rw [q, e, hx]
      exact Cb.opC_get _ _ _ (by omega))
    rw [Addr.add_lit] at hc
    simpa using hc
theorem bsX_1 (o : W.Opr) (S : S3) (w : World) : (bsO 1 #[(0, .agg (opX o S))]).run Try.prog w = .ok (.slice (some ⟨w.heap.size, 0, none⟩) 1 1) (w.alloc (.cells (opX o S) 30)) := by kernel_rfl
theorem infoOx : (Try.prog.info? 30).map (fun i => (i.zero, i.size, i.bytes)) = some (some (.agg (opN (W.op3 0 0 0))), 13, 120) := by kernel_rfl
theorem opX_one (o : W.Opr) (S : S3) : ∀ u ∈ (opX o S).toList, u.oneCell' = true := by
  intro u hu
  simp [opX, opC] at hu
  rcases hu with h | h | h | h | h | h | h | h | h | h | h | h | h <;> rw [h] <;> rfl
theorem news_opX (o : W.Opr) (S : S3) (w : World) : ∀ j u, (opX o S).toList[j]? = some u → (w.alloc (.cells (opX o S) 30)).cell? ((⟨w.heap.size, 0, none⟩ : Addr).add j) = some u := World.news_of_block (cs := opX o S) (heap_alloc_last w _)
theorem make_ops (n : Nat) (hn : n ≤ 8192) (w : World) : (Instr.makeSlice 22 (.int .i64 0) (.int .i64 (n : Int))).run Try.prog w = .ok (.slice (some ⟨w.heap.size, 0, none⟩) 0 n) (w.alloc (.cells (madeCells (opN (W.op3 0 0 0)) (n * 13)) 30)) := by
  obtain ⟨i, hi, hzz⟩ := Option.map_eq_some_iff.1 infoOx
  simp only [Prod.mk.injEq] at hzz
  obtain ⟨hz, hs, hb⟩ := hzz
  have hr := run_make (P := Try.prog) w 22 30 i _ Try.underlying22 hi hz .i64 .i64 0 n (by omega) (by omega) (by rw [hb]; omega) (by omega)
  simp only [Int.toNat_natCast, hs] at hr
  exact hr
theorem own_ops0 (n : Nat) (hn : n ≤ 8192) (w : World) (o : Nat → W.Opr) (S : Nat → S3) : (w.alloc (.cells (madeCells (opN (W.op3 0 0 0)) (n * 13)) 30)).ownsRow w.heap.size 30 13 (.slice (some ⟨w.heap.size, 0, none⟩) 0 n) 0 (opsX o S 0) :=
  ⟨rfl, .inr ⟨w.heap.size, n, madeCells (opN (W.op3 0 0 0)) (n * 13), rfl, Nat.le_refl _, heap_alloc_last w _, Nat.zero_le _, by unfold maxLen; omega, by rw [size_madeCells], by simp [opsX]⟩⟩
/-- Lists of one's own, full, apart from block g. -/
structure Fl3 (g : Nat) (s : S3) (x : W.Oz) (w : World) : Prop where
  a : Lg g s.a x.a w
  d : Lg g s.d x.d w
  c : Lg g s.c x.c w
  fa : ∃ b, s.a = ⟨some ⟨b, 0, none⟩, x.a.length, x.a.length⟩
  fc : ∃ b, s.c = ⟨some ⟨b, 0, none⟩, x.c.length, x.c.length⟩
theorem Fl3.below {g : Nat} {s : S3} {x : W.Oz} {w w' : World} (h : Fl3 g s x w) (hb : Below w.heap.size w w') : Fl3 g s x w' := ⟨h.a.below hb, h.d.below hb, h.c.below hb, h.fa, h.fc⟩
theorem Fl3.grown {g : Nat} {s : S3} {x : W.Oz} {w w' : World} (h : Fl3 g s x w) (hb : w.grownBy w' (some g)) : Fl3 g s x w' := ⟨⟨Cb.liGrown h.a.li hb h.a.ap, h.a.ap⟩, ⟨Cb.liGrown h.d.li hb h.d.ap, h.d.ap⟩, ⟨Cb.liGrown h.c.li hb h.c.ap, h.c.ap⟩, h.fa, h.fc⟩
theorem Cb.ownBelow {w w' : World} {base : Nat} {e : TypeId} {size : Nat} {v : Value} {n : Nat} {xs : List Value} (h : w.ownsRow base e size v n xs) (hb : Below w.heap.size w w') : w'.ownsRow base e size v n xs :=
  h.kept (row := none) ⟨hb.os, hb.tape, hb.output, hb.size, fun k hk _ => hb.block k hk⟩ (by cases hv : v.ownBlock <;> simp)
attribute [local go_sem ↓] ldO_eq bsO_eq
set_option maxHeartbeats 1600000 in
theorem copy_ops (a : Option Addr) (n c : Nat) (o : Nat → W.Opr) (S : Nat → S3) (A D C : Nat → Nat → Int) (w : World) (h : Rs a n c o S A D C w) (hF : Few n S) :
    Calls Try.prog 11 #[.slice a n c] w fun e w' => e = .returned (.slice (some ⟨w.heap.size, 0, none⟩) n n) ∧ (∃ S', Bc w.heap.size (n * 13) (opF (fun j => ozR (o j) (S j) (A j) (D j) (C j)) S') w' ∧ ∀ j, j < n → Fl3 w.heap.size (S' j) (ozR (o j) (S j) (A j) (D j) (C j)) w') ∧ Below w.heap.size w w' := by
  obtain ⟨it, ht, hyy⟩ := Option.map_eq_some_iff.1 infoOx
  simp only [Prod.mk.injEq] at hyy
  obtain ⟨hy0, hy1, hy2⟩ := hyy
  have n40 := hF.le
  have hmk := make_ops n (by omega) w
  have O0 := own_ops0 n (by omega) w o (fun _ => S3.nil)
  have B0 : Below w.heap.size w (w.alloc (.cells (madeCells (opN (W.op3 0 0 0)) (n * 13)) 30)) := (Below.refl _ _).alloc (Nat.le_refl _) _
  generalize w.alloc _ = W1 at *
  have HH : Hid (_ ∧ _ ∧ _ ∧ _) := ⟨O0, B0, h, hF⟩
  clear O0 B0 h hF
  go_enter Try.func11, Try.ntmps11
  go_wp2
  go_loopw [3, 4] (fun v i wr => ∃ j : Nat, j ≤ n ∧ i = .int .i64 (j : Int) ∧ v = .slice (some ⟨w.heap.size, 0, none⟩) j n ∧ (∃ S', wr.ownsRow w.heap.size 30 13 v j (opsX o S' j) ∧ ∀ q, q < j → Fl3 w.heap.size (S' q) (ozR (o q) (S q) (A q) (D q) (C q)) wr) ∧ Below w.heap.size w wr) (fun _ i _ => n - (intOf i).toNat)
  case atStart => exact ⟨0, by omega, rfl, rfl, ⟨_, HH.out.1, fun q hq => absurd hq (by omega)⟩, HH.out.2.1⟩
  case round =>
    clear hmk
    obtain ⟨j, hj, rfl, rfl, ⟨S', hown, hfl⟩, hbl⟩ := hrel
    by_cases hlt : j < n
    · have hjn : (j : Int) < (n : Int) := by omega
      obtain ⟨g, off, rfl, hg, hx⟩ := (HH.out.2.2.1.below hbl).at_ (by omega)
      have ld := ldO_any (o j) (S j) (hx j hlt).c
      have hl := HH.out.2.2.2.l j hlt
      have hcp := copy_op (o j) (S j) _ _ _ wr ((hx j hlt).a.li (by omega)) ((hx j hlt).d.li (by omega)) ((hx j hlt).e.li (by omega))
      have gw : w.heap.size < wr.heap.size := (hown.lt w.heap.size rfl).2
      have HC : Hid (Calls _ _ _ _ _ ∧ _ ∧ _ ∧ _ ∧ _) := ⟨hcp, hown, hfl, hbl, gw⟩
      clear hcp hown hfl hbl gw hx hl
      go_wp2_with (fail)
      refine HC.out.1.mono ?_
      rintro e w2 ⟨⟨x, y, z, rfl, hx, hy, hz, La, Ld, Lc⟩, b2⟩
      obtain ⟨s1, hs1⟩ : ∃ s : S3, s = ⟨⟨some ⟨x, 0, none⟩, (lst (A j) (S j).a.n).length, (lst (A j) (S j).a.n).length⟩, ⟨some ⟨y, 0, none⟩, (lst (D j) (S j).d.n).length, (lst (D j) (S j).d.n).length⟩, ⟨some ⟨z, 0, none⟩, (lst (C j) (S j).c.n).length, (lst (C j) (S j).c.n).length⟩⟩ := ⟨_, rfl⟩
      have he : opC (o j) ⟨some ⟨x, 0, none⟩, (lst (A j) (S j).a.n).length, (lst (A j) (S j).a.n).length⟩ ⟨some ⟨y, 0, none⟩, (lst (D j) (S j).d.n).length, (lst (D j) (S j).d.n).length⟩ ⟨some ⟨z, 0, none⟩, (lst (C j) (S j).c.n).length, (lst (C j) (S j).c.n).length⟩ = opX (o j) s1 := by rw [hs1]; rfl
      rw [he]
      have gw := HC.out.2.2.2.2
      have F1 : Fl3 w.heap.size s1 (ozR (o j) (S j) (A j) (D j) (C j)) w2 := by
        rw [hs1]
        exact ⟨⟨La, fun b o _ e => by cases e; omega⟩, ⟨Ld, fun b o _ e => by cases e; omega⟩, ⟨Lc, fun b o _ e => by cases e; omega⟩, ⟨_, rfl⟩, ⟨_, rfl⟩⟩
      have b3 : Below w.heap.size w w2 := HC.out.2.2.2.1.trans (b2.mono (by omega))
      have own2 := Cb.ownBelow HC.out.2.1 b2
      have fl2 := fun q hq => (HC.out.2.2.1 q hq).below b2
      have hb1 := bsX_1 (o j) s1
      have al : Below w2.heap.size w2 (w2.alloc (.cells (opX (o j) s1) 30)) := (Below.refl _ _).alloc (Nat.le_refl _) _
      have HN : Hid (_ ∧ _ ∧ _ ∧ _ ∧ _ ∧ _) := ⟨own2, fl2, F1, b3, al, news_opX (o j) s1 w2⟩
      clear own2 fl2 F1 b3 al La Ld Lc hx hy hz b2 HC hs1 he gw ld
      go_wp2_with (at_builtin; refine wpList_append_own_spare _ rfl _ _ 22 rfl w.heap.size 30 it 13 Try.underlying22 ht hy1 w.heap.size j n (opsX o S' j) rfl (HN.out.1.alloc _) ⟨w2.heap.size, 0, none⟩ 1 1 (opX (o j) s1).toList rfl rfl HN.out.2.2.2.2.2 (opX_one _ _) (by omega) ?_)
      intro w6 own6 hg6
      have b6 : Below w.heap.size w w6 := Below.grown (HN.out.2.2.2.1.alloc HN.out.2.2.2.1.size _) hg6 (by have := HN.out.2.2.2.1.size; simp; omega) (fun b hb => by cases hb; omega)
      have X : Hid ((∃ S', w6.ownsRow w.heap.size 30 13 (.slice (some ⟨w.heap.size, 0, none⟩) (j + 1) n) (j + 1) (opsX o S' (j + 1)) ∧ ∀ q, q < j + 1 → Fl3 w.heap.size (S' q) (ozR (o q) (S q) (A q) (D q) (C q)) w6) ∧ Below w.heap.size w w6) := ⟨⟨updS S' j s1, by
          rw [opsX_succ, opsX_upd o S' j s1 j (Nat.le_refl _)]
          unfold updS
          rw [if_pos rfl]
          exact own6, fun q hq => by
          unfold updS
          by_cases e : q = j
          · subst e
            rw [if_pos rfl]
            exact (HN.out.2.2.1.below HN.out.2.2.2.2.1).grown hg6
          · rw [if_neg e]
            exact ((HN.out.2.1 q (by omega)).below HN.out.2.2.2.2.1).grown hg6⟩, b6⟩
      clear own6 hg6 b6 HN hb1
      go_wp2
      go_roundw
      case rel => exact ⟨j + 1, by omega, by go_num, rfl, X.out.1, X.out.2⟩
      case measure => simp [intOf]; omega
    · obtain rfl : j = n := by omega
      have hB := own_bc (fun j => ozR (o j) (S j) (A j) (D j) (C j)) (fun _ => rfl) hown
      have HX : Hid (_ ∧ _ ∧ _) := ⟨hB, hfl, hbl⟩
      clear hB hfl hbl hown
      go_wp2
      go_ret
      exact ⟨rfl, ⟨S', HX.out.1, HX.out.2.1⟩, HX.out.2.2⟩
end Go.Proofs.Ytbppeehhohdfiaa
