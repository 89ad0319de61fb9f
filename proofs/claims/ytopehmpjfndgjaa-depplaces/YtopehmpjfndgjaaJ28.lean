/- Texts in one: DepN, DepO, IsaF, IsaG, IsaI. -/
import Derived.Deep.RegionHeld3
import Derived.Deep.DrawnRows
import Derived.Test.YtopehmpjfndgjaaJ12
import Derived.Test.YtopehmpjfndgjaaJ15
import Derived.Test.YtopehmpjfndgjaaJ27
/- Ops of any items. -/
namespace Go.Proofs.Ytopehmpjfndgjaa
open Go.ChangeShapes Go.WideShapes Go.ChangeAt Go.RowKit
set_option linter.unusedVariables false
set_option linter.unusedSimpArgs false

/-- Items that lie in memory. -/
structure Its (a : Option Addr) (n : Nat) (x : Nat → W.It) (w : World) : Prop where
  at_ : 0 < n → ∃ b o, a = some ⟨b, o, none⟩ ∧ b < w.heap.size ∧ ∀ j, j < n → ∀ k v, (itC (x j))[k]? = some v → w.cell? ⟨b, o + j * 6 + k, none⟩ = some v
  rg : ∀ j, j < n → W.Rg (x j).wd
theorem ldT_cells {b off : Nat} {CS : Array Value} {w : World} (h : ∀ k v, CS[k]? = some v → w.cell? ⟨b, off + k, none⟩ = some v) (hs : CS.size = 6) : (ldT ⟨b, off, none⟩).run Try.prog w = .ok (.agg CS) w := by
  have hl := run_loadCells_list (P := Try.prog) w ⟨b, off, none⟩ CS.toList (fun j v hv => by
    have hadd : (⟨b, off, none⟩ : Addr).add j = ⟨b, off + j, none⟩ := by unfold Addr.add; split <;> simp_all
    rw [hadd]
    exact h j v (by simpa using hv))
  simp only [Array.length_toList, Array.toArray_toList] at hl
  have ha : (isAgg 37).run Try.prog w = .ok true w := by simp [go_sem]
  have hz : (sizeOf 37).run Try.prog w = .ok CS.size w := by rw [hs]; simp [go_sem]
  unfold ldT
  rw [hs] at hl hz
  simp [loadVar, Sem.run_bind, ha, hz, hl]
/-- What the items come to. -/
def W.runN (x : Nat → W.It) : Nat → W.Fl
  | 0 => W.Fl.z
  | n + 1 => bif W.dnB (x n) then W.tk (W.dnI (x n)) (W.oper (W.dnI (x n)) (x n)) (W.runN x n) else W.runN x n
theorem good_run (x : Nat → W.It) : ∀ n, W.Good (W.runN x n)
  | 0 => W.good_z
  | n + 1 => by
    unfold W.runN
    cases W.dnB (x n)
    · exact good_run x n
    · exact W.good_tk (good_run x n) _ _
theorem run_len (x : Nat → W.It) : ∀ n, (W.runN x n).p.length ≤ n
  | 0 => by simp [W.runN, W.Fl.z]
  | n + 1 => by
    have := run_len x n
    unfold W.runN
    cases W.dnB (x n)
    · show (W.runN x n).p.length ≤ _; omega
    · show (W.tk _ _ (W.runN x n)).p.length ≤ _
      unfold W.tk
      dsimp only
      rw [List.length_append]
      cases ((W.oper (W.dnI (x n)) (x n)).k != 0)
      · simp; omega
      · simp; omega
theorem dnI_ok (x : W.It) (h : W.Rg x.wd) : W.IOk (W.dnI x) := by
  unfold W.dnI
  cases x.tr
  · exact W.IOk.dec _ h
  · have h0 : W.IOk W.I0 := ⟨by decide, by decide, by decide, by decide, by decide, by decide, W.rg0⟩
    exact h0
theorem okind_ct (op : Int) (b : Bool) (h : (W.okind op b != 0) = true) : (W.kind op == 3) = false ∧ (op == 4) = false := by
  have h38 : op = 38 → W.kind op = 7 := fun e => by subst e; decide +kernel
  have h4 : op = 4 → W.kind op = 2 := fun e => by subst e; decide +kernel
  have h60 : op = 60 → W.kind op = 6 := fun e => by subst e; decide +kernel
  unfold W.okind at h
  constructor
  · cases e : (W.kind op == 3)
    · rfl
    · have e' : W.kind op = 3 := by simpa using e
      have n1 : ¬ op = 38 := fun k => by have := h38 k; omega
      have n2 : ¬ op = 60 := fun k => by have := h60 k; omega
      have m1 : (op == 38) = false := by simpa using n1
      have m2 : (op == 60) = false := by simpa using n2
      simp [e', m1, m2] at h
  · cases e : (op == 4)
    · rfl
    · have e' : op = 4 := by simpa using e
      have := h4 e'
      have m1 : (op == 38) = false := by rw [e']; rfl
      have m2 : (op == 60) = false := by rw [e']; rfl
      simp [this, m1, m2] at h
theorem fx_start (w : World) (T : TypeId) : Fx w.heap.size w w.heap.size W.Fl.z (w.alloc (.cells (Array.replicate 34 (.slice none 0 0)) T)) := by
  have hh := heap_alloc_last w (.cells (Array.replicate 34 (.slice none 0 0)) T)
  have hc : ∀ j, j < 34 → (w.alloc (.cells (Array.replicate 34 (.slice none 0 0)) T)).cell? ⟨w.heap.size, j, none⟩ = some (slV W.Sl.nil) := fun j hj => by
    refine (cell_of_row _ _ j _ T (0, 0) hh).trans ?_
    rw [Array.getElem?_replicate, if_pos hj]
    rfl
  refine ⟨[], fun _ => W.Sl.nil, W.Sl.nil, W.Sl.nil, ⟨⟨by simp, fun k hk => hc k (by omega), hc 32 (by decide), hc 33 (by decide), fun j => by unfold World.frozen?; rw [hh]; simp⟩, (Below.refl _ _).alloc (Nat.le_refl _) _, Nat.le_refl _, fun k hk => lx_nil _ _, lx_nil _ _, ⟨rfl, .inl ⟨rfl, rfl⟩⟩, by simp [slV, W.Sl.nil, Value.ownBlock], fun q hq => by cases hq⟩, rfl⟩
theorem stT_new (w : World) (CS Z : Array Value) (hz : Z.size = 6) (hs : CS.size = 6) (ha : CS.all (fun x => x.oneCell') = true) : (stT ⟨w.heap.size, 0, none⟩ (.agg CS)).run Try.prog (w.alloc (.cells Z 37)) = .ok () (w.alloc (.cells CS 37)) := by
  rw [stT_at (heap_alloc_last w _) hz hs ha, World.setRow_alloc_new]
theorem stI_new (w : World) (CS Z : Array Value) (hz : Z.size = 8) (hs : CS.size = 8) (ha : CS.all (fun x => x.oneCell') = true) : (stI ⟨w.heap.size, 0, none⟩ (.agg CS)).run Try.prog (w.alloc (.cells Z 47)) = .ok () (w.alloc (.cells CS 47)) := by
  rw [stI_at (heap_alloc_last w _) hz hs ha, World.setRow_alloc_new]
def inC (i : W.I) : Array Value := #[.int .i64 i.op, .int .i64 i.rd, .int .i64 i.rs1, .int .i64 i.rs2, .int .i64 i.csr, .int .u32 i.imm, .bool i.aq, .bool i.rl]
theorem Fx.below {n0 fb : Nat} {w0 w w' : World} {f : W.Fl} (h : Fx n0 w0 fb f w) (hb : Below w.heap.size w w') : Fx n0 w0 fb f w' := by
  obtain ⟨L, R, C, O, hS, hp⟩ := h
  exact ⟨L, R, C, O, hS.below hb, hp⟩
theorem Fx.b {n0 fb : Nat} {w0 w : World} {f : W.Fl} (h : Fx n0 w0 fb f w) : Below n0 w0 w := by
  obtain ⟨L, R, C, O, hS, hp⟩ := h
  exact hS.b
attribute [local go_sem ↓] ldI_eq stI_eq ldT_eq stT_eq
set_option maxRecDepth 100000 in
set_option maxHeartbeats 1600000 in
theorem ops_any (a : Option Addr) (n cap : Nat) (x : Nat → W.It) (w : World) (hI : Its a n x w) (hn : n ≤ 150) : Calls Try.prog 9 #[.slice a n cap] w fun e w' => ∃ O, e = .returned (slV O) ∧ ∃ L R C, Fs w.heap.size w w.heap.size (fun _ => False) (W.runN x n).r (W.runN x n).c L R C O w' ∧ L.map Oq.pure = (W.runN x n).p := by
  have hst := fx_start w 45
  have hz : Array.replicate 34 (Value.slice none 0 0) = #[.slice none 0 0, .slice none 0 0, .slice none 0 0, .slice none 0 0, .slice none 0 0, .slice none 0 0, .slice none 0 0, .slice none 0 0, .slice none 0 0, .slice none 0 0, .slice none 0 0, .slice none 0 0, .slice none 0 0, .slice none 0 0, .slice none 0 0, .slice none 0 0, .slice none 0 0, .slice none 0 0, .slice none 0 0, .slice none 0 0, .slice none 0 0, .slice none 0 0, .slice none 0 0, .slice none 0 0, .slice none 0 0, .slice none 0 0, .slice none 0 0, .slice none 0 0, .slice none 0 0, .slice none 0 0, .slice none 0 0, .slice none 0 0, .slice none 0 0, .slice none 0 0] := rfl
  rw [hz] at hst
  clear hz
  have HI : Hid (Its a n x w) := hI
  clear hI
  go_enter Try.func9, Try.ntmps9
  go_wp2
  generalize World.alloc w _ = W0 at *
  go_loopw [10] (fun i wr => ∃ j : Nat, j ≤ n ∧ i = .int .i64 (j : Int) ∧ Fx w.heap.size w w.heap.size (W.runN x j) wr) (fun i _ => n - (intOf i).toNat)
  case atStart => exact ⟨0, by omega, rfl, hst⟩
  case round =>
    obtain ⟨j, hj, rfl, hX⟩ := hrel
    clear hst
    by_cases hlt : j < n
    · obtain ⟨b, o, rfl, hb, hc⟩ := HI.out.at_ (by omega)
      have hwd := HI.out.rg j hlt
      have Bx := hX.b
      have ld0 : (ldT ⟨b, o + j * 6, none⟩).run Try.prog wr = .ok (.agg (itC (x j))) wr := ldT_cells (fun k v hv => (Bx.cell (p := ⟨b, o + j * 6 + k, none⟩) hb).trans (hc j hlt k v hv)) rfl
      have hnT : ∀ W : World, (stT ⟨W.heap.size, 0, none⟩ (.agg (itC (x j)))).run Try.prog (W.alloc (.cells #[.int .u32 0, .int .u32 0, .int .u32 0, .int .u32 0, .bool false, .bool false] 37)) = .ok () (W.alloc (.cells (itC (x j)) 37)) := fun W => stT_new W _ _ rfl rfl (by simp [itC, Value.oneCell'])
      have hlT : ∀ W : World, (ldT ⟨W.heap.size, 0, none⟩).run Try.prog (W.alloc (.cells (itC (x j)) 37)) = .ok (.agg (itC (x j))) (W.alloc (.cells (itC (x j)) 37)) := fun W => ldT_at (heap_alloc_last W _) (fun k v hv => by simpa using hv) rfl
      have hnI : ∀ V : World, (stI ⟨V.heap.size, 0, none⟩ (inV (W.dnI (x j)))).run Try.prog (V.alloc (.cells #[.int .i64 0, .int .i64 0, .int .i64 0, .int .i64 0, .int .i64 0, .int .u32 0, .bool false, .bool false] 47)) = .ok () (V.alloc (.cells (inC (W.dnI (x j))) 47)) := fun V => stI_new V (inC (W.dnI (x j))) _ rfl rfl (by simp [inC, Value.oneCell'])
      have hD := fun w => done_any (x j) w
      have HD : Hid (∀ w, Calls _ _ _ w _) := hD
      have j0 : (0 : Int) ≤ (j : Int) := Int.natCast_nonneg _
      have j1 : (j : Int) < (n : Int) := by omega
      clear hD hc
      have hrun : W.runN x (j + 1) = bif W.dnB (x j) then W.tk (W.dnI (x j)) (W.oper (W.dnI (x j)) (x j)) (W.runN x j) else W.runN x j := rfl
      have hok := dnI_ok (x j) hwd
      have hOp := fun w => oper_any (W.dnI (x j)) (x j) w
      have hTk := fun w2 (k : Fx w.heap.size w w.heap.size (W.runN x j) w2) => take_any w.heap.size w w.heap.size (W.runN x j) (W.dnI (x j)) (W.oper (W.dnI (x j)) (x j)) w2 k (good_run x j) (by have := run_len x j; omega) ⟨hok.rd0, hok.rd1⟩ ⟨hok.r10, hok.r11⟩ ⟨hok.r20, hok.r21⟩ (fun e => okind_ct _ (x j).dn (by rw [← oper_k]; exact e))
      have HT : Hid (_ ∧ _) := ⟨hOp, hTk⟩
      clear hOp hTk hok hwd
      have zX : (itC (x j)).size = 6 := rfl
      generalize itC (x j) = XS at *
      cases hd : W.dnB (x j)
      · rw [hd] at hrun
        have hX1 : Fx w.heap.size w w.heap.size (W.runN x (j + 1)) wr := by rw [hrun]; exact hX
        clear hX hrun
        rw [hd] at HD
        go_wp2_with (fail)
        refine (HD.out _).mono ?_
        rintro e w1 ⟨rfl, b1⟩
        have B1 := (((Below.refl wr.heap.size wr).alloc (Nat.le_refl _) (.cells XS 37)).trans (b1.mono (by simp)))
        have X2 : Hid (∀ o, Fx w.heap.size w w.heap.size (W.runN x (j + 1)) (w1.alloc o)) := show ∀ o, _ from fun o => hX1.below (B1.alloc B1.size o)
        clear hX1 b1 B1
        go_wp2
        go_roundw
        case rel => exact ⟨j + 1, by omega, by go_num, X2.out _⟩
        case measure => simp [intOf]; omega
      · rw [hd] at hrun
        rw [hd] at HD
        go_wp2_with (fail)
        refine (HD.out _).mono ?_
        rintro e w1 ⟨rfl, b1⟩
        have B1 := (((Below.refl wr.heap.size wr).alloc (Nat.le_refl _) (.cells XS 37)).trans (b1.mono (by simp)))
        have hT1 : w1.heap[wr.heap.size]? = some (.cells XS 37) := (b1.block wr.heap.size (by simp)).trans (heap_alloc_last wr _)
        have lT1 := (Array.getElem?_eq_some_iff.1 hT1).1
        have b7 : Below w1.heap.size w1 (w1.alloc (.cells (inC (W.dnI (x j))) 47)) := (Below.refl _ _).alloc (Nat.le_refl _) _
        have hT7 := (b7.block wr.heap.size lT1).trans hT1
        have hI7 := heap_alloc_last w1 (.cells (inC (W.dnI (x j))) 47)
        have X7 := hX.below (B1.trans (b7.mono B1.size))
        go_wp2_with (fail)
        clear hX b1 B1 hT1 b7 hnT hlT hnI ld0
        generalize World.alloc w1 _ = W7 at *
        have lI7 := (Array.getElem?_eq_some_iff.1 hI7).1
        have lT7 := (Array.getElem?_eq_some_iff.1 hT7).1
        have FI : ∀ w', Below W7.heap.size W7 w' → (ldI ⟨w1.heap.size, 0, none⟩).run Try.prog w' = .ok (inV (W.dnI (x j))) w' := fun w' hb => ldI_at ((hb.block _ lI7).trans hI7) rfl
        have FT : ∀ w', Below W7.heap.size W7 w' → (ldT ⟨wr.heap.size, 0, none⟩).run Try.prog w' = .ok (.agg XS) w' := fun w' hb => ldT_at ((hb.block _ lT7).trans hT7) (fun k v hv => by simpa using hv) zX
        have a1 := FI W7.drew (Below.refl _ _).drew
        have a2 := FT W7.drew (Below.refl _ _).drew
        have HF : Hid (_ ∧ _ ∧ _) := ⟨FI, FT, X7⟩
        clear FI FT X7
        go_region_with (first
          | ((go_at_call 18; refine (HT.out.1 _).mono ?_; rintro e w8 ⟨rfl, b8⟩; have a3 := HF.out.1 w8 ((Below.refl _ _).drew.trans b8)))
          | ((go_at_call 17; refine (HT.out.2 _ ((HF.out.2.2.below (Below.refl _ _).drew).below b8)).mono ?_; rintro e w9 ⟨rfl, hX9⟩)))
        all_goals
          have X10 : Hid (Fx w.heap.size w w.heap.size (W.runN x (j + 1)) w9) := by
            have : Fx w.heap.size w w.heap.size (W.runN x (j + 1)) w9 := by rw [hrun]; exact hX9
            exact this
          clear hX9 hrun HF HT
          go_wp2
          go_roundw
          case rel => exact ⟨j + 1, by omega, by go_num, X10.out⟩
          case measure => simp [intOf]; omega
    · obtain rfl : j = n := by omega
      obtain ⟨L, R, C, O, hS, hp⟩ := hX
      have g33 := hS.f.op
      have fl := hS.f.lt
      have HS : Hid (_ ∧ _) := ⟨hS, hp⟩
      clear hS hp
      go_wp2
      go_ret
      exact ⟨O, rfl, L, R, C, HS.out.1, HS.out.2⟩
end Go.Proofs.Ytopehmpjfndgjaa

/- What Ops answers, read. -/
namespace Go.Proofs.Ytopehmpjfndgjaa
open Go.ChangeShapes Go.WideShapes Go.ChangeAt Go.RowKit
set_option linter.unusedVariables false
set_option linter.unusedSimpArgs false

theorem cells_len (q : Oq) : q.cells.length = 13 := rfl
theorem opsX_get : ∀ (L : List Oq) (j k : Nat) (q : Oq), L[j]? = some q → k < 13 → (opsX L)[j * 13 + k]? = q.cells[k]?
  | [], j, k, q, h, _ => by simp at h
  | z :: L, 0, k, q, h, hk => by
    have e : z = q := by simpa using h
    subst e
    show (z.cells ++ opsX L)[0 * 13 + k]? = _
    rw [Nat.zero_mul, Nat.zero_add, List.getElem?_append_left (by rw [cells_len]; exact hk)]
  | z :: L, j + 1, k, q, h, hk => by
    show (z.cells ++ opsX L)[(j + 1) * 13 + k]? = _
    rw [List.getElem?_append_right (by rw [cells_len]; omega), cells_len, show (j + 1) * 13 + k - 13 = j * 13 + k by omega]
    exact opsX_get L j k q (by simpa using h) hk
/-- The operations lie in memory, with what they hang on. -/
structure Oi (v : W.Sl) (P : List (W.Opr × List Int × List Int × List Int)) (w : World) : Prop where
  n : v.n = P.length
  at_ : ∀ j q, P[j]? = some q → ∃ g a d c, v.a = some ⟨g, 0, none⟩ ∧ g < w.heap.size ∧ (∀ k u, (opC q.1 a d c)[k]? = some u → w.cell? ⟨g, j * 13 + k, none⟩ = some u) ∧ Li a q.2.1 w ∧ Li d q.2.2.1 w ∧ Li c q.2.2.2 w
theorem Oi.below {v : W.Sl} {P : List (W.Opr × List Int × List Int × List Int)} {w w' : World} (h : Oi v P w) (hb : Below w.heap.size w w') : Oi v P w' :=
  ⟨h.n, fun j q hq => by
    obtain ⟨g, a, d, c, h1, h2, h3, h4, h5, h6⟩ := h.at_ j q hq
    exact ⟨g, a, d, c, h1, Nat.lt_of_lt_of_le h2 hb.size, fun k u hu => (hb.cell (p := ⟨g, j * 13 + k, none⟩) h2).trans (h3 k u hu), h4.below hb, h5.below hb, h6.below hb⟩⟩
theorem fs_oi {n0 : Nat} {w0 : World} {fb : Nat} {G : Nat → Prop} {r : Nat → List Int} {c : List Int} {L : List Oq} {R : Nat → W.Sl} {C O : W.Sl} {w : World} {P : List (W.Opr × List Int × List Int × List Int)} (h : Fs n0 w0 fb G r c L R C O w) (hp : L.map Oq.pure = P) : Oi O P w := by
  subst hp
  refine ⟨by rw [own_n h.ow]; simp, fun j q hq => ?_⟩
  rw [List.getElem?_map] at hq
  cases hz : L[j]? with
  | none => rw [hz] at hq; cases hq
  | some z =>
    rw [hz] at hq
    have e : z.pure = q := by simpa using hq
    subst e
    obtain ⟨hj, hz'⟩ := List.getElem?_eq_some_iff.1 hz
    obtain ⟨g, cap, hv, hb, hl⟩ := h.ow.form (by omega)
    have hm := h.ll z (by rw [← hz']; exact List.getElem_mem hj)
    have ha : O.a = some ⟨g, 0, none⟩ := by
      unfold slV at hv
      simp at hv
      exact hv.1
    refine ⟨g, z.a, z.d, z.c, ha, hl, fun k u hu => ?_, hm.a.li, hm.d.li, hm.c.li⟩
    have hk : k < 13 := (Array.getElem?_eq_some_iff.1 hu).1
    have hc := h.ow.cells (g := g) (by rw [hv]; rfl) (j * 13 + k) u (by
      rw [opsX_get L j k z hz hk]
      have hu2 : (opC z.o z.a z.d z.c)[k]? = some u := hu
      simpa [Oq.cells] using hu2)
    rw [Addr.add_lit] at hc
    simpa using hc
theorem ops_oi (a : Option Addr) (n cap : Nat) (x : Nat → W.It) (w : World) (hI : Its a n x w) (hn : n ≤ 150) (P : List (W.Opr × List Int × List Int × List Int)) (hP : (W.runN x n).p = P) : Calls Try.prog 9 #[.slice a n cap] w fun e w' => (∃ O, e = .returned (slV O) ∧ Oi O P w') ∧ Below w.heap.size w w' :=
  (ops_any a n cap x w hI hn).mono fun e w' ⟨O, h1, L, R, C, h2, h3⟩ => ⟨⟨O, h1, fs_oi h2 (h3.trans hP)⟩, h2.b⟩
end Go.Proofs.Ytopehmpjfndgjaa

/- What layFields returns: the word of all fields but the immediate. -/
namespace Go.Proofs.Ytopehmpjfndgjaa
open Go.ChangeShapes Go.WideShapes Go.ChangeAt Go.RowKit
set_option linter.unusedVariables false
set_option linter.unusedSimpArgs false
attribute [local go_sem ↓] Go.wp_at_zero Go.wp_at_succ

abbrev SF (w : World) (i : W.I) (w' : World) : Prop :=
  Below w.heap.size w w' ∧ w.heap.size < w'.heap.size ∧ w'.cell? ⟨w.heap.size, 4, none⟩ = some (.int .i64 i.csr) ∧ w'.cell? ⟨w.heap.size, 6, none⟩ = some (.bool i.aq) ∧ w'.cell? ⟨w.heap.size, 7, none⟩ = some (.bool i.rl)
theorem SF.below {w a b : World} {i : W.I} (h : SF w i a) (hm : Below a.heap.size a b) : SF w i b := by
  obtain ⟨h1, h2, h3, h4, h5⟩ := h
  have q : ∀ j, b.cell? ⟨w.heap.size, j, none⟩ = a.cell? ⟨w.heap.size, j, none⟩ := fun j => hm.cell h2
  refine ⟨h1.trans (hm.mono h1.size), by have := hm.size; omega, ?_⟩
  simp only [q]
  exact ⟨h3, h4, h5⟩
theorem SF.alloc {w a : World} {i : W.I} (h : SF w i a) (o : Obj) : SF w i (a.alloc o) := h.below ((Below.refl _ _).alloc (Nat.le_refl _) _)
theorem SF.start {w w1 : World} {i : W.I} {t : TypeId}
    (hb1 : Below (w.alloc (.cells #[.int .i64 i.op, .int .i64 i.rd, .int .i64 i.rs1, .int .i64 i.rs2, .int .i64 i.csr, .int .u32 i.imm, .bool i.aq, .bool i.rl] t)).heap.size
      (w.alloc (.cells #[.int .i64 i.op, .int .i64 i.rd, .int .i64 i.rs1, .int .i64 i.rs2, .int .i64 i.csr, .int .u32 i.imm, .bool i.aq, .bool i.rl] t)) w1) : SF w i w1.drew := by
  have hs := hb1.size
  simp at hs
  have q : ∀ j, w1.drew.cell? ⟨w.heap.size, j, none⟩ = (w.alloc (.cells #[.int .i64 i.op, .int .i64 i.rd, .int .i64 i.rs1, .int .i64 i.rs2, .int .i64 i.csr, .int .u32 i.imm, .bool i.aq, .bool i.rl] t)).cell? ⟨w.heap.size, j, none⟩ := fun j => hb1.drew.cell (p := ⟨w.heap.size, j, none⟩) (by simp)
  refine ⟨(((Below.refl _ _).alloc (Nat.le_refl _) _).trans (hb1.mono (by simp))).drew, by show w.heap.size < w1.heap.size; omega, ?_⟩
  simp only [q]
  simp [go_sem]

theorem three_cells (w : World) (t : TypeId) (a b c : Int) :
    (∀ j, j < 3 → (w.alloc (.cells #[.int .i64 20, .int .i64 12, .int .u32 a, .int .i64 26, .int .i64 1, .int .u32 b, .int .i64 25, .int .i64 1, .int .u32 c] t)).cell? ⟨w.heap.size, 0 + j * 3, none⟩ = some (.int .i64 (W.gL j)))
    ∧ (∀ j, j < 3 → (w.alloc (.cells #[.int .i64 20, .int .i64 12, .int .u32 a, .int .i64 26, .int .i64 1, .int .u32 b, .int .i64 25, .int .i64 1, .int .u32 c] t)).cell? ⟨w.heap.size, 0 + j * 3 + 1, none⟩ = some (.int .i64 (W.gN j)))
    ∧ (∀ j, j < 3 → (w.alloc (.cells #[.int .i64 20, .int .i64 12, .int .u32 a, .int .i64 26, .int .i64 1, .int .u32 b, .int .i64 25, .int .i64 1, .int .u32 c] t)).cell? ⟨w.heap.size, 0 + j * 3 + 2, none⟩ = some (.int .u32 (W.three a b c j))) := by
  refine ⟨?_, ?_, ?_⟩
  all_goals
    intro j hj
    match j, hj with
    | 0, _ | 1, _ | 2, _ => simp [go_sem, W.gL, W.gN, W.three]

end Go.Proofs.Ytopehmpjfndgjaa

/- What layImm returns: the word of an immediate alone. -/
namespace Go.Proofs.Ytopehmpjfndgjaa
open Go.ChangeShapes Go.WideShapes Go.ChangeAt Go.RowKit
set_option linter.unusedVariables false
set_option linter.unusedSimpArgs false

end Go.Proofs.Ytopehmpjfndgjaa

/- What Encode returns. -/
namespace Go.Proofs.Ytopehmpjfndgjaa
open Go.ChangeShapes Go.WideShapes Go.ChangeAt Go.RowKit
set_option linter.unusedVariables false
set_option linter.unusedSimpArgs false
attribute [local go_sem ↓] Go.wp_at_zero Go.wp_at_succ

theorem idx_at (k : Nat) (hk : k < 70) (w : World) : (Instr.index 72 (.agg codesA) (.int .i64 k)).run Try.prog w = .ok (.int .u32 (W.code k)) w := by
  unfold Instr.index
  simp [go_sem]
  rw [if_pos hk, codesA_at k hk]
  rfl

/-- The instruction lies in block g. -/
def InAt (g : Nat) (i : W.I) (w' : World) : Prop :=
  w'.cell? ⟨g, 0, none⟩ = some (.int .i64 i.op) ∧ w'.cell? ⟨g, 1, none⟩ = some (.int .i64 i.rd) ∧ w'.cell? ⟨g, 2, none⟩ = some (.int .i64 i.rs1) ∧ w'.cell? ⟨g, 3, none⟩ = some (.int .i64 i.rs2) ∧ w'.cell? ⟨g, 4, none⟩ = some (.int .i64 i.csr) ∧ w'.cell? ⟨g, 5, none⟩ = some (.int .u32 i.imm) ∧ w'.cell? ⟨g, 6, none⟩ = some (.bool i.aq) ∧ w'.cell? ⟨g, 7, none⟩ = some (.bool i.rl)
def ShAt (g : Nat) (s : W.Sh) (w' : World) : Prop :=
  w'.cell? ⟨g, 0, none⟩ = some (.int .u32 s.fixed) ∧ w'.cell? ⟨g, 1, none⟩ = some (.bool s.rd) ∧ w'.cell? ⟨g, 2, none⟩ = some (.bool s.rs1) ∧ w'.cell? ⟨g, 3, none⟩ = some (.bool s.rs2) ∧ w'.cell? ⟨g, 4, none⟩ = some (.bool s.csr) ∧ w'.cell? ⟨g, 5, none⟩ = some (.bool s.ord) ∧ w'.cell? ⟨g, 6, none⟩ = some (.int .u8 s.fmt) ∧ w'.cell? ⟨g, 7, none⟩ = some (.int .i64 s.low) ∧ w'.cell? ⟨g, 8, none⟩ = some (.int .i64 s.size)
theorem InAt.below {g : Nat} {i : W.I} {a b : World} (h : InAt g i a) (hm : Below a.heap.size a b) : InAt g i b := by
  have hg := World.block_lt_of_cell? _ _ h.1
  have q : ∀ j, b.cell? ⟨g, j, none⟩ = a.cell? ⟨g, j, none⟩ := fun j => hm.cell hg
  unfold InAt
  simp only [q]
  exact h
theorem ShAt.below {g : Nat} {s : W.Sh} {a b : World} (h : ShAt g s a) (hm : Below a.heap.size a b) : ShAt g s b := by
  have hg := World.block_lt_of_cell? _ _ h.1
  have q : ∀ j, b.cell? ⟨g, j, none⟩ = a.cell? ⟨g, j, none⟩ := fun j => hm.cell hg
  unfold ShAt
  simp only [q]
  exact h
theorem InAt.start (w : World) (i : W.I) (t : TypeId) : InAt w.heap.size i (w.alloc (.cells #[.int .i64 i.op, .int .i64 i.rd, .int .i64 i.rs1, .int .i64 i.rs2, .int .i64 i.csr, .int .u32 i.imm, .bool i.aq, .bool i.rl] t)) := by
  unfold InAt; simp [go_sem]
theorem ShAt.start (w : World) (s : W.Sh) (t : TypeId) : ShAt w.heap.size s (w.alloc (.cells #[.int .u32 s.fixed, .bool s.rd, .bool s.rs1, .bool s.rs2, .bool s.csr, .bool s.ord, .int .u8 s.fmt, .int .i64 s.low, .int .i64 s.size] t)) := by
  unfold ShAt; simp [go_sem]

end Go.Proofs.Ytopehmpjfndgjaa
