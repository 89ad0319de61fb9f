/- Texts in one: AsmFirstA, AsmFirstB, AsmFirstC, AsmFirstWalk. -/
import Derived.Deep.RegionHeld3
import Derived.Deep.AppendLies
import Derived.Deep.DeepAppendRoom
import Derived.Deep.CutRange
import Derived.Test.YtbndaiombnikfaaGreatDoorJ33
import Derived.Test.YtbndaiombnikfaaGreatDoorJ34
/- AsmFirst, walked to its lists. -/
namespace Go.Proofs.YtbndaiombnikfaaGreatDoor
open Go.ChangeShapes Go.WideShapes Go.ChangeAt Go.RowKit
set_option linter.unusedVariables false
set_option linter.unusedSimpArgs false

theorem asmFirst_long (A : Nat → Addr) (n bad : Int) (s : ByteArray) (w : World) (hS : Sg A w) (hl : 60 < s.size) (hl2 : s.size ≤ maxLen) : Calls Tryz.prog 7 #[.int .i64 n, .int .i64 bad, .string s] w fun e w' => e = .returned (.bool true) ∧ Below w.heap.size w w' := by
  have HS : Hid (Sg A w) := hS
  unfold maxLen at hl2
  clear hS
  go_enter Tryz.func7, Tryz.ntmps7
  go_wp2_with (go_at_call 8; refine (first5_any A _ HS.out).mono ?_; rintro e w1 ⟨rfl, hb1⟩)
  go_ret
  exact ⟨rfl, hb1⟩

theorem tmod_bd5 (a M : Int) (hM : 0 < M) : -M < a.tmod M ∧ a.tmod M < M := by
  rcases Int.le_total 0 a with h | h
  · rw [Int.tmod_eq_emod_of_nonneg h]
    have := Int.emod_nonneg a (show M ≠ 0 by omega)
    have := Int.emod_lt_of_pos a hM
    omega
  · obtain ⟨b, rfl⟩ : ∃ b, a = -b := ⟨-a, by omega⟩
    rw [Int.neg_tmod, Int.tmod_eq_emod_of_nonneg (show 0 ≤ b by omega)]
    have := Int.emod_nonneg b (show M ≠ 0 by omega)
    have := Int.emod_lt_of_pos b hM
    omega
end Go.Proofs.YtbndaiombnikfaaGreatDoor

/- AsmFirst: its lists. -/
namespace Go.Proofs.YtbndaiombnikfaaGreatDoor
open Go.ChangeShapes Go.WideShapes Go.ChangeAt Go.RowKit
set_option linter.unusedVariables false
set_option linter.unusedSimpArgs false

theorem make40 (w : World) : (Instr.makeSlice 41 (.int .i64 0) (.int .i64 40)).run Tryz.prog w = .ok (.slice (some ⟨w.heap.size, 0, none⟩) 0 40) (w.alloc (.cells (madeCells #[.string ⟨#[]⟩] 40) 9)) := by
  obtain ⟨i, hi, hz0, hz1, hz2⟩ := info_parts infoStr
  have hr := run_make (P := Tryz.prog) w 41 9 i _ Tryz.underlying41 hi hz0 .i64 .i64 0 40 (by omega) (by omega) (by rw [hz2]; omega) (by omega)
  simp only [hz1] at hr
  exact hr

theorem step_spare {P : Program} (w : World) {ops : Array Oper} {a : Act} {K : Act → World → Prop} {Q : Exit → Act → World → Prop} {E : Prop} (d s x t : Nat) {ty : TypeId} {ps : String} {af : Array Edge}
    (base : Nat) (e : TypeId) (i : TypeInfo) (size : Nat) (ht : P.underlying t = some (.slice e)) (hi : P.info? e = some i) (hsize : i.size = size)
    (g n cap : Nat) (xs : List Value) (hs : a.eval (.tmp s) = .slice (some ⟨g, 0, none⟩) n cap) (hown : w.ownsRow base e size (.slice (some ⟨g, 0, none⟩) n cap) n xs)
    (ad : Addr) (m c : Nat) (news : List Value) (hx : a.eval (.tmp x) = .slice (some ad) m c) (hl : news.length = m * size) (hnews : ∀ j u, news[j]? = some u → w.cell? (ad.add j) = some u) (h1 : ∀ u ∈ news, u.oneCell' = true)
    (N : Nat) (hN : n + m = N) (hroom : N ≤ cap)
    (h : ∀ w', w'.ownsRow base e size (.slice (some ⟨g, 0, none⟩) N cap) N (xs ++ news) → w.grownBy w' (some g) → K (a.put (some d) (.slice (some ⟨g, 0, none⟩) N cap)) w') :
    if Region.wanted { dst := some d, op := .call { callee := .builtin .append, args := #[.tmp s, .tmp x], argTypes := #[t, t] }, type := ty, pos := ps, after := af, guard := none } (yielded ops a.tmps) = true then Oper.wp P { dst := some d, op := .call { callee := .builtin .append, args := #[.tmp s, .tmp x], argTypes := #[t, t] }, type := ty, pos := ps, after := af, guard := none } a w K Q else E := by
  subst hN
  rw [if_pos (by simp [Region.wanted])]
  exact wp_append_own_spare w _ _ t rfl base e i size ht hi hsize g n cap xs hs hown ad m c news hx hl hnews h1 hroom h
theorem own_made (W : World) (base M : Nat) (o : Obj) (ho : o = .cells (madeCells #[.string ⟨#[]⟩] 40) 9 (0, 0)) (h : W.heap[M]? = some o) (hb : base ≤ M) : W.ownsRow base 9 1 (.slice (some ⟨M, 0, none⟩) 0 40) 0 [] :=
  ⟨rfl, .inr ⟨M, 40, _, rfl, hb, ho ▸ h, by decide, by unfold maxLen; decide, by kernel_rfl, rfl⟩⟩
theorem one_str (W : World) (q : Nat) (s : ByteArray) (h : W.heap[q]? = some (.cells #[.string s] 9 (0, 0))) : ∀ j u, [Value.string s][j]? = some u → W.cell? ((⟨q, 0, none⟩ : Addr).add j) = some u :=
  World.news_of_block (cs := #[.string s]) h

def ecV : Value := .string ⟨#[101, 99, 97, 108, 108]⟩
def nopV : Value := .string ⟨#[110, 111, 112]⟩
theorem src_row (w3 : World) (g j : Nat) (cur : Array Value) (hh : w3.heap[g]? = some (.cells cur 9 (0, 0))) (htk : cur.toList.take (j * 1) = List.replicate j ecV) (W : World) (o k : Nat) (hW : W.heap[g]? = w3.heap[g]?) (hok : o + k ≤ j) :
    ∀ j' u, (List.replicate k ecV)[j']? = some u → W.cell? ((⟨g, o, none⟩ : Addr).add j') = some u := by
  intro j' u hu
  have hk : j' < k := by
    have := (List.getElem?_eq_some_iff.1 hu).1
    simpa using this
  have hadd : (⟨g, o, none⟩ : Addr).add j' = ⟨g, o + j', none⟩ := by unfold Addr.add; split <;> simp_all
  have hu2 : u = ecV := by
    rw [List.getElem?_replicate, if_pos hk] at hu
    exact (Option.some.inj hu).symm
  subst hu2
  rw [hadd, cell_of_row W g (o + j') cur 9 (0, 0) (hW.trans hh)]
  have h2 : (cur.toList.take (j * 1))[o + j']? = some ecV := by rw [htk, List.getElem?_replicate, if_pos (by omega)]
  rw [List.getElem?_take, if_pos (by omega)] at h2
  simpa using h2

/-- The lines of the law: 'ecall's with the text Ts among them, 'nop' at the end. -/
def lnF (B j : Nat) (Ts : List UInt8) (k : Nat) : List UInt8 := if k = B then Ts else if k = j + 1 then [110, 111, 112] else [101, 99, 97, 108, 108]
def inF (B j : Nat) (iT : W.I) (k : Nat) : W.I := if k = B then iT else if k = j + 1 then ⟨0, 0, 0, 0, 0, 0, false, false⟩ else W.iec
theorem row_get (B j : Nat) (hB : B ≤ j) (Ts : List UInt8) (k : Nat) (hk : k < j + 2) :
    (List.replicate B ecV ++ [.string ⟨Ts.toArray⟩] ++ List.replicate (j - B) ecV ++ [nopV])[k]? = some (.string ⟨(lnF B j Ts k).toArray⟩) := by
  unfold lnF
  by_cases h1 : k < B
  · rw [if_neg (by omega), if_neg (by omega), List.getElem?_append_left (by simp; omega), List.getElem?_append_left (by simp; omega), List.getElem?_append_left (by simp; omega), List.getElem?_replicate, if_pos h1]
    rfl
  · by_cases h2 : k = B
    · subst h2
      rw [if_pos rfl, List.getElem?_append_left (by simp <;> omega), List.getElem?_append_left (by simp), List.getElem?_append_right (by simp)]
      simp
    · by_cases h3 : k = j + 1
      · subst h3
        rw [if_neg (by omega), if_pos rfl, List.getElem?_append_right (by simp; omega)]
        have : (j + 1) - (List.replicate B ecV ++ [Value.string ⟨Ts.toArray⟩] ++ List.replicate (j - B) ecV).length = 0 := by simp; omega
        rw [this]
        rfl
      · rw [if_neg h2, if_neg h3, List.getElem?_append_left (by simp; omega), List.getElem?_append_right (by simp; omega), List.getElem?_replicate, if_pos (by simp; omega)]
        rfl
theorem row_cells {W : World} {base B j M : Nat} {Ts : List UInt8} (hB : B ≤ j) (h : W.ownsRow base 9 1 (.slice (some ⟨M, 0, none⟩) (j + 2) 40) (j + 2) (List.replicate B ecV ++ [.string ⟨Ts.toArray⟩] ++ List.replicate (j - B) ecV ++ [nopV])) :
    ∀ k, k < j + 2 → W.cell? ⟨M, 0 + k, none⟩ = some (.string ⟨(lnF B j Ts k).toArray⟩) := by
  intro k hk
  have := h.cells (g := M) rfl k _ (row_get B j hB Ts k hk)
  have hadd : (⟨M, 0, none⟩ : Addr).add k = ⟨M, 0 + k, none⟩ := by unfold Addr.add; split <;> simp_all
  rw [hadd] at this
  exact this
end Go.Proofs.YtbndaiombnikfaaGreatDoor

/- AsmFirst: walked. -/
namespace Go.Proofs.YtbndaiombnikfaaGreatDoor
open Go.ChangeShapes Go.WideShapes Go.ChangeAt Go.RowKit
set_option linter.unusedVariables false
set_option linter.unusedSimpArgs false

set_option pp.maxSteps 20000 in
set_option maxRecDepth 100000 in
set_option maxHeartbeats 1600000 in
theorem asmFirst_main (A : Nat → Addr) (n bad : Int) (N : Nat) (hN : (wrap64 (n.tmod 30 + 30)).tmod 30 = N) (hN2 : N < 30) (s : ByteArray) (w : World) (hS : Sg A w) (hl : s.size ≤ 60) : Calls Tryz.prog 7 #[.int .i64 n, .int .i64 bad, .string s] w fun e w' => e = .returned (.bool true) ∧ Below w.heap.size w w' := by
  have HS : Hid (Sg A w) := hS
  obtain ⟨i0, hi, hz0, hz1, hz2⟩ := info_parts infoStr
  have zs : decide ((60 : Int) < s.size) = false := by simp; omega
  have zs2 : decide (60 < s.size) = false := by simp; omega
  clear hS
  go_enter Tryz.func7, Tryz.ntmps7
  go_wp2_with (go_at_call 8; refine (first5_any A _ HS.out).mono ?_; rintro e w1 ⟨rfl, hb1⟩)
  go_loopw [8, 9] (fun v i wr => ∃ j : Nat, j ≤ N ∧ i = .int .i64 j ∧ wr.ownsRow w.heap.size 9 1 v j (List.replicate j ecV) ∧ Below w.heap.size w wr) (fun _ i _ => N - (intOf i).toNat)
  case atStart => exact ⟨0, Nat.zero_le _, rfl, World.ownsRow_nil _ _ _ _, hb1⟩
  case round =>
    obtain ⟨j, hj, rfl, hown, hbl⟩ := hrel
    by_cases hlt : j < N
    · go_wp2_with (at_builtin; refine wpList_append_own _ rfl _ _ 41 rfl w.heap.size 9 i0 (.string ⟨#[]⟩) 1 16 Tryz.underlying41 hi hz0 hz1 hz2 rfl (by decide) _ _ _ rfl (hown.alloc _) ⟨wr.heap.size, 0, none⟩ 1 1 [ecV] rfl rfl ?c2 ?c3 ?c4 ?c5 ?c6 ?_)
      case c2 => exact one_new wr _ _
      case c3 => intro u hu; simp at hu; subst hu; rfl
      case c4 => unfold maxLen; omega
      case c5 => omega
      case c6 => have := hbl.size; simp; omega
      intro v' w5 hown5 hg5 _
      have hb5 : Below w.heap.size w w5 := Below.grown (hbl.alloc hbl.size _) hg5 (by have := hbl.size; simp; omega) (fun q hq => (hown.lt q hq).1)
      go_wp2
      go_roundw
      case rel => exact ⟨j + 1, by omega, by go_num, by rw [List.replicate_succ']; exact hown5, hb5⟩
      case measure => simp [intOf]; omega
    · obtain rfl : j = N := by omega
      go_wp2_with fail
      obtain ⟨T, rfl⟩ : ∃ T : List UInt8, s = ⟨T.toArray⟩ := ⟨s.data.toList, by cases s; simp⟩
      obtain ⟨B, hB, hB2⟩ : ∃ B : Nat, (wrap64 (wrap64 (bad.tmod (j + 1) + j) + 1)).tmod (j + 1) = B ∧ B ≤ j := by
        have hb := tmod_bd5 bad (j + 1) (by omega)
        have e1 : wrap64 (bad.tmod (j + 1) + j) = bad.tmod (j + 1) + j := by unfold wrap64; omega
        have e2 : wrap64 (bad.tmod (j + 1) + j + 1) = bad.tmod (j + 1) + j + 1 := by unfold wrap64; omega
        rw [e1, e2, Int.tmod_eq_emod_of_nonneg (by omega)]
        have h1 := Int.emod_nonneg (bad.tmod (j + 1) + j + 1) (show (j + 1 : Int) ≠ 0 by omega)
        have h2 := Int.emod_lt_of_pos (bad.tmod (j + 1) + j + 1) (show (0 : Int) < j + 1 by omega)
        exact ⟨((bad.tmod (j + 1) + j + 1) % (j + 1)).toNat, by omega, by omega⟩
      try simp only [hB]
      obtain ⟨iT, eT, hPT, heT⟩ : ∃ (i : W.I) (e : Nat), Parses A T i e ∧ (e = 0 ∧ W.encE i = 0 ∨ e = 6) := by
        rcases parse_cls A T (by have : (ByteArray.mk T.toArray).size = T.length := by simp [ByteArray.size]
                                 omega) with ⟨i, h1, _, _, h4⟩ | h
        · exact ⟨i, 0, h4, Or.inl ⟨rfl, h1⟩⟩
        · exact ⟨_, 6, h, Or.inr rfl⟩
      refine (hPT wr (HS.out.below hbl)).mono ?_
      rintro e w2 ⟨rfl, hb2⟩
      have hbl2 : Below w.heap.size w w2 := hbl.trans (hb2.mono hbl.size)
      have hown2 := hown.kept (gbelow5 (r := none) hb2) (by cases hv : u8.ownBlock <;> simp)
      generalize hev : errV A eT = vE
      unfold inV
      go_wp2_with fail
      have hW := hbl2.alloc hbl2.size (.cells #[.int .i64 iT.op, .int .i64 iT.rd, .int .i64 iT.rs1, .int .i64 iT.rs2, .int .i64 iT.csr, .int .u32 iT.imm, .bool iT.aq, .bool iT.rl] 24)
      have hown3 := hown2.alloc (.cells #[.int .i64 iT.op, .int .i64 iT.rd, .int .i64 iT.rs1, .int .i64 iT.rs2, .int .i64 iT.csr, .int .u32 iT.imm, .bool iT.aq, .bool iT.rl] 24)
      generalize World.alloc w2 _ = w3 at *
      clear hown hown2
      clear hB
      generalize wrap64 (wrap64 (bad.tmod ((j : Int) + 1) + (j : Int)) + 1) = r3
      generalize wrap64 (bad.tmod ((j : Int) + 1) + (j : Int)) = r2
      generalize bad.tmod ((j : Int) + 1) = r1
      go_cut [8] from 53 to 64 (fun v wx => ∃ M, v = .slice (some ⟨M, 0, none⟩) (j + 1) 40 ∧ wx.ownsRow w.heap.size 9 1 (.slice (some ⟨M, 0, none⟩) (j + 1) 40) (j + 1) (List.replicate B ecV ++ [.string ⟨T.toArray⟩] ++ List.replicate (j - B) ecV) ∧ Below w.heap.size w wx)
      case first =>
        obtain ⟨MK, hMK, hmk⟩ : ∃ o : Obj, Hid (o = (.cells (madeCells #[.string ⟨#[]⟩] 40) 9 (0, 0))) ∧ ∀ w, (Instr.makeSlice 41 (.int .i64 0) (.int .i64 40)).run Tryz.prog w = .ok (.slice (some ⟨w.heap.size, 0, none⟩) 0 40) (w.alloc o) := ⟨_, rfl, make40⟩
        have hsz := hW.size
        have hone : ∀ (k : Nat) u, u ∈ List.replicate k ecV → u.oneCell' = true := by
          intro k u hu
          rw [List.eq_of_mem_replicate hu]
          rfl
        have hs1 : ∀ u, u ∈ [Value.string ⟨T.toArray⟩] → u.oneCell' = true := by
          intro u hu; simp at hu; subst hu; rfl
        have hCM : (w3.alloc MK).drew.heap[w3.heap.size]? = some MK := heap_alloc_new w3 _
        have hAM : ((w3.alloc MK).alloc (.cells #[.string ⟨T.toArray⟩] 9)).drew.heap[w3.heap.size]? = some MK := (heap_alloc_old (w3.alloc MK) _ (by simp)).trans (heap_alloc_new w3 _)
        have hAq : ((w3.alloc MK).alloc (.cells #[.string ⟨T.toArray⟩] 9)).drew.heap[w3.heap.size + 1]? = some (.cells #[.string ⟨T.toArray⟩] 9) := by
          have := heap_alloc_new (w3.alloc MK) (.cells #[.string ⟨T.toArray⟩] 9)
          rw [show (w3.alloc MK).heap.size = w3.heap.size + 1 by simp] at this
          exact this
        have hAl : w3.heap.size + 1 < ((w3.alloc MK).alloc (.cells #[.string ⟨T.toArray⟩] 9)).drew.heap.size := by simp
        have hBM : ((w3.alloc (.cells #[.string ⟨T.toArray⟩] 9)).alloc MK).drew.heap[w3.heap.size + 1]? = some MK := by
          have := heap_alloc_new (w3.alloc (.cells #[.string ⟨T.toArray⟩] 9)) MK
          rw [show (w3.alloc (.cells #[.string ⟨T.toArray⟩] 9)).heap.size = w3.heap.size + 1 by simp] at this
          exact this
        have hBq : ((w3.alloc (.cells #[.string ⟨T.toArray⟩] 9)).alloc MK).drew.heap[w3.heap.size]? = some (.cells #[.string ⟨T.toArray⟩] 9) := (heap_alloc_old (w3.alloc (.cells #[.string ⟨T.toArray⟩] 9)) _ (by simp)).trans (heap_alloc_new w3 _)
        have hBl : w3.heap.size < ((w3.alloc (.cells #[.string ⟨T.toArray⟩] 9)).alloc MK).drew.heap.size := by simp; omega
        have neA : some (w3.heap.size + 1) ≠ some w3.heap.size := by simp
        have neB : some w3.heap.size ≠ some (w3.heap.size + 1) := by simp
        have bC : Below w.heap.size w (w3.alloc MK).drew := (hW.alloc hsz _).drew
        have bA : Below w.heap.size w ((w3.alloc MK).alloc (.cells #[.string ⟨T.toArray⟩] 9)).drew := ((hW.alloc hsz _).alloc (by simp; omega) _).drew
        have bB : Below w.heap.size w ((w3.alloc (.cells #[.string ⟨T.toArray⟩] 9)).alloc MK).drew := ((hW.alloc hsz (.cells #[.string ⟨T.toArray⟩] 9)).alloc (by simp; omega) _).drew
        rcases hown3.2 with ⟨rfl, h0⟩ | ⟨g, cp, cur, rfl, hg, hh, hnc, hcm, hcs, htk⟩
        · obtain rfl : B = 0 := by omega
          obtain rfl : j = 0 := h0
          clear hN zs zs2
          have HM : Hid (((w3.alloc MK).drew.heap[w3.heap.size]? = some MK) ∧ (((w3.alloc MK).alloc (.cells #[.string ⟨T.toArray⟩] 9)).drew.heap[w3.heap.size]? = some MK) ∧ (((w3.alloc (.cells #[.string ⟨T.toArray⟩] 9)).alloc MK).drew.heap[w3.heap.size + 1]? = some MK)) := ⟨hCM, hAM, hBM⟩
          have HQ : Hid ((((w3.alloc MK).alloc (.cells #[.string ⟨T.toArray⟩] 9)).drew.heap[w3.heap.size + 1]? = some (.cells #[.string ⟨T.toArray⟩] 9)) ∧ (((w3.alloc (.cells #[.string ⟨T.toArray⟩] 9)).alloc MK).drew.heap[w3.heap.size]? = some (.cells #[.string ⟨T.toArray⟩] 9))) := ⟨hAq, hBq⟩
          clear hCM hAM hBM hAq hBq
          have Hs1 : Hid (∀ u, u ∈ [Value.string ⟨T.toArray⟩] → u.oneCell' = true) := hs1
          have rC : ∀ k, some w3.heap.size = some k → w.heap.size ≤ k := by intro k hk; cases hk; exact hsz
          have rD : ∀ k, some (w3.heap.size + 1) = some k → w.heap.size ≤ k := by intro k hk; cases hk; omega
          have o6 : w.heap.size ≤ w3.heap.size + 1 := by omega
          clear hs1
          go_region_held3 (fun _ => True) (trivial)
            (first
              | ((refine step_spare _ _ _ _ _ w.heap.size 9 i0 1 Tryz.underlying41 hi hz1 w3.heap.size 0 40 [] ?a1 ?a3 ⟨w3.heap.size + 1, 0, none⟩ 1 1 [.string ⟨T.toArray⟩] ?a2 rfl ?a4 (Hs1.out) 1 rfl (by decide) ?_
                  case a1 => rfl
                  case a2 => rfl
                  case a3 => exact own_made _ _ _ _ hMK.out HM.out.2.1 hsz
                  case a4 => exact one_str _ _ _ HQ.out.1
                  intro w6 hown6 hg6
                  have hb6 : Below w.heap.size w w6 := bA.grown hg6 bA.size rC))
              | ((refine step_spare _ _ _ _ _ w.heap.size 9 i0 1 Tryz.underlying41 hi hz1 (w3.heap.size + 1) 0 40 [] ?a1 ?a3 ⟨w3.heap.size, 0, none⟩ 1 1 [.string ⟨T.toArray⟩] ?a2 rfl ?a4 (Hs1.out) 1 rfl (by decide) ?_
                  case a1 => rfl
                  case a2 => rfl
                  case a3 => exact own_made _ _ _ _ hMK.out HM.out.2.2 o6
                  case a4 => exact one_str _ _ _ HQ.out.2
                  intro w6 hown6 hg6
                  have hb6 : Below w.heap.size w w6 := bB.grown hg6 bB.size rD))
              | (fail))
          all_goals
            go_wp2
            go_meet
            case rel => exact ⟨_, rfl, hown6, hb6⟩
        · have i1 : (0 : Int) ≤ (B : Int) := by omega
          have i2 : (B : Int) ≤ (j : Int) := by omega
          have i3 : (j : Int) ≤ (cp : Int) := by omega
          have i4 : (B : Int) ≤ (cp : Int) := by omega
          clear hN zs zs2
          have hgl : g < w3.heap.size := by
            by_cases h : g < w3.heap.size
            · exact h
            · rw [Array.getElem?_eq_none (by omega)] at hh; cases hh
          have hsr : ∀ (W : World) (o k : Nat), W.heap[g]? = w3.heap[g]? → o + k ≤ j → ∀ j' u, (List.replicate k ecV)[j']? = some u → W.cell? ((⟨g, o, none⟩ : Addr).add j') = some u := by
            exact src_row w3 g j cur hh htk
          have hCg : (w3.alloc MK).drew.heap[g]? = w3.heap[g]? := heap_alloc_old w3 _ hgl
          have hAg : ((w3.alloc MK).alloc (.cells #[.string ⟨T.toArray⟩] 9)).drew.heap[g]? = w3.heap[g]? := (heap_alloc_old (w3.alloc MK) _ (by simp; omega)).trans (heap_alloc_old w3 _ hgl)
          have hBg : ((w3.alloc (.cells #[.string ⟨T.toArray⟩] 9)).alloc MK).drew.heap[g]? = w3.heap[g]? := (heap_alloc_old (w3.alloc (.cells #[.string ⟨T.toArray⟩] 9)) _ (by simp; omega)).trans (heap_alloc_old w3 _ hgl)
          have neC : some g ≠ some w3.heap.size := by simp; omega
          have neD : some g ≠ some (w3.heap.size + 1) := by simp; omega
          have lC : g < (w3.alloc MK).drew.heap.size := by simp; omega
          have lA : g < ((w3.alloc MK).alloc (.cells #[.string ⟨T.toArray⟩] 9)).drew.heap.size := by simp; omega
          have lB : g < ((w3.alloc (.cells #[.string ⟨T.toArray⟩] 9)).alloc MK).drew.heap.size := by simp; omega
          have rC : ∀ k, some w3.heap.size = some k → w.heap.size ≤ k := by intro k hk; cases hk; exact hsz
          have rD : ∀ k, some (w3.heap.size + 1) = some k → w.heap.size ≤ k := by intro k hk; cases hk; omega
          obtain ⟨off, hoff, hle⟩ : ∃ off : Nat, Hid ((if cp = B then some (⟨g, 0, none⟩ : Addr) else some ⟨g, B, none⟩) = some ⟨g, off, none⟩) ∧ off + (j - B) ≤ j := by
            by_cases h : cp = B
            · exact ⟨0, if_pos h, by omega⟩
            · exact ⟨B, if_neg h, by omega⟩
          have o0 : 0 + B = B := Nat.zero_add B
          have o1 : B ≤ 40 := by omega
          have o2 : B + 1 ≤ 40 := by omega
          have o3 : B + 1 + (j - B) = j + 1 := by omega
          have o4 : j + 1 ≤ 40 := by omega
          have o5 : 0 + B ≤ j := by omega
          have o6 : w.heap.size ≤ w3.heap.size + 1 := by omega
          have l1 : (List.replicate B ecV).length = B * 1 := by simp
          have l2 : (List.replicate (j - B) ecV).length = (j - B) * 1 := by simp
          have Hsr : Hid (∀ (W : World) (o k : Nat), W.heap[g]? = w3.heap[g]? → o + k ≤ j → ∀ j' u, (List.replicate k ecV)[j']? = some u → W.cell? ((⟨g, o, none⟩ : Addr).add j') = some u) := hsr
          have Hone : Hid (∀ (k : Nat) u, u ∈ List.replicate k ecV → u.oneCell' = true) := hone
          have Hs1 : Hid (∀ u, u ∈ [Value.string ⟨T.toArray⟩] → u.oneCell' = true) := hs1
          have O0 : Hid (0 + B = B) := o0
          have O3 : Hid (B + 1 + (j - B) = j + 1) := o3
          have L1 : Hid ((List.replicate B ecV).length = B * 1) := l1
          have L2 : Hid ((List.replicate (j - B) ecV).length = (j - B) * 1) := l2
          have HM : Hid (((w3.alloc MK).drew.heap[w3.heap.size]? = some MK) ∧ (((w3.alloc MK).alloc (.cells #[.string ⟨T.toArray⟩] 9)).drew.heap[w3.heap.size]? = some MK) ∧ (((w3.alloc (.cells #[.string ⟨T.toArray⟩] 9)).alloc MK).drew.heap[w3.heap.size + 1]? = some MK)) := ⟨hCM, hAM, hBM⟩
          have HG : Hid (((w3.alloc MK).drew.heap[g]? = w3.heap[g]?) ∧ (((w3.alloc MK).alloc (.cells #[.string ⟨T.toArray⟩] 9)).drew.heap[g]? = w3.heap[g]?) ∧ (((w3.alloc (.cells #[.string ⟨T.toArray⟩] 9)).alloc MK).drew.heap[g]? = w3.heap[g]?)) := ⟨hCg, hAg, hBg⟩
          have HQ : Hid ((((w3.alloc MK).alloc (.cells #[.string ⟨T.toArray⟩] 9)).drew.heap[w3.heap.size + 1]? = some (.cells #[.string ⟨T.toArray⟩] 9)) ∧ (((w3.alloc (.cells #[.string ⟨T.toArray⟩] 9)).alloc MK).drew.heap[w3.heap.size]? = some (.cells #[.string ⟨T.toArray⟩] 9))) := ⟨hAq, hBq⟩
          have Hown : Hid (w3.ownsRow w.heap.size 9 1 (.slice (some ⟨g, 0, none⟩) j cp) j (List.replicate j ecV)) := hown3
          have Hh : Hid (w3.heap[g]? = some (.cells cur 9 (0, 0))) := hh
          have Ht : Hid (List.take (j * 1) cur.toList = List.replicate j ecV) := htk
          clear hsr hone hs1 o0 o3 l1 l2 hCM hAM hBM hCg hAg hBg hAq hBq hown3 hh htk hcs hcm
          go_region_held3 (fun _ => True) (trivial)
            (first
              | ((have _q := hown6
                  refine step_spare _ 64 60 63 _ w.heap.size 9 i0 1 Tryz.underlying41 hi hz1 w3.heap.size (B + 1) 40 (List.replicate B ecV ++ [.string ⟨T.toArray⟩]) ?a1 ?a3 ⟨g, off, none⟩ (j - B) (cp - B) (List.replicate (j - B) ecV) ?a2 L2.out ?a4 (Hone.out _) (j + 1) O3.out o4 ?_
                  case a1 => rfl
                  case a3 => exact hown6
                  case a2 => exact congrArg (fun a => Value.slice a (j - B) (cp - B)) hoff.out
                  case a4 => exact Hsr.out _ off (j - B) hk6 hle
                  clear _q
                  intro w7 hown7 hg7
                  have hb7 : Below w.heap.size w w7 := hb6.grown hg7 hb6.size rC))
              | ((have _q := hown6
                  refine step_spare _ 64 60 63 _ w.heap.size 9 i0 1 Tryz.underlying41 hi hz1 (w3.heap.size + 1) (B + 1) 40 (List.replicate B ecV ++ [.string ⟨T.toArray⟩]) ?a1 ?a3 ⟨g, off, none⟩ (j - B) (cp - B) (List.replicate (j - B) ecV) ?a2 L2.out ?a4 (Hone.out _) (j + 1) O3.out o4 ?_
                  case a1 => rfl
                  case a3 => exact hown6
                  case a2 => exact congrArg (fun a => Value.slice a (j - B) (cp - B)) hoff.out
                  case a4 => exact Hsr.out _ off (j - B) hk6 hle
                  clear _q
                  intro w7 hown7 hg7
                  have hb7 : Below w.heap.size w w7 := hb6.grown hg7 hb6.size rD))
              | ((have _q := hown5
                  refine step_spare _ 60 57 59 _ w.heap.size 9 i0 1 Tryz.underlying41 hi hz1 w3.heap.size B 40 (List.replicate B ecV) ?a1 ?a3 ⟨w3.heap.size + 1, 0, none⟩ 1 1 [.string ⟨T.toArray⟩] ?a2 rfl ?a4 (Hs1.out) (B + 1) rfl o2 ?_
                  case a1 => rfl
                  case a2 => rfl
                  case a3 => exact hown5
                  case a4 => exact one_str _ _ _ ((hg5.block _ hAl neA).trans HQ.out.1)
                  clear _q
                  intro w6 hown6 hg6
                  have hk6 : w6.heap[g]? = w3.heap[g]? := (hg6.block _ hl5 neC).trans hk5
                  have hb6 : Below w.heap.size w w6 := hb5.grown hg6 hb5.size rC))
              | ((have _q := hown5
                  refine step_spare _ 60 57 59 _ w.heap.size 9 i0 1 Tryz.underlying41 hi hz1 (w3.heap.size + 1) B 40 (List.replicate B ecV) ?a1 ?a3 ⟨w3.heap.size, 0, none⟩ 1 1 [.string ⟨T.toArray⟩] ?a2 rfl ?a4 (Hs1.out) (B + 1) rfl o2 ?_
                  case a1 => rfl
                  case a2 => rfl
                  case a3 => exact hown5
                  case a4 => exact one_str _ _ _ ((hg5.block _ hBl neB).trans HQ.out.2)
                  clear _q
                  intro w6 hown6 hg6
                  have hk6 : w6.heap[g]? = w3.heap[g]? := (hg6.block _ hl5 neD).trans hk5
                  have hb6 : Below w.heap.size w w6 := hb5.grown hg6 hb5.size rD))
              | ((have _q := hown5
                  refine step_spare _ 60 57 59 _ w.heap.size 9 i0 1 Tryz.underlying41 hi hz1 w3.heap.size B 40 (List.replicate B ecV) ?a1 ?a3 ⟨w5.heap.size, 0, none⟩ 1 1 [.string ⟨T.toArray⟩] ?a2 rfl ?a4 (Hs1.out) (B + 1) rfl o2 ?_
                  case a1 => rfl
                  case a2 => rfl
                  case a3 => exact hown5.alloc _
                  case a4 => exact one_str _ _ _ (heap_alloc_new _ _)
                  clear _q
                  intro w6 hown6 hg6
                  have hk6 : w6.heap[g]? = w3.heap[g]? := (hg6.block _ (Nat.lt_of_lt_of_le hl5 (by simp)) neC).trans ((heap_alloc_old _ _ hl5).trans hk5)
                  have hb6 : Below w.heap.size w w6 := (hb5.alloc hb5.size _).grown hg6 (by have := hb5.size; simp; omega) rC))
              | ((refine step_spare _ 57 53 56 _ w.heap.size 9 i0 1 Tryz.underlying41 hi hz1 w3.heap.size 0 40 [] ?a1 ?a3 ⟨g, 0, none⟩ B cp (List.replicate B ecV) ?a2 L1.out ?a4 (Hone.out B) B O0.out o1 ?_
                  case a1 => rfl
                  case a2 => rfl
                  case a3 => first | with_reducible exact own_made _ _ _ _ hMK.out HM.out.1 hsz | with_reducible exact own_made _ _ _ _ hMK.out HM.out.2.1 hsz
                  case a4 => first | with_reducible exact Hsr.out _ 0 B HG.out.1 o5 | with_reducible exact Hsr.out _ 0 B HG.out.2.1 o5
                  intro w5 hown5 hg5
                  rw [List.nil_append] at hown5
                  have hk5 : w5.heap[g]? = w3.heap[g]? := by first | with_reducible exact (hg5.block _ lC neC).trans HG.out.1 | with_reducible exact (hg5.block _ lA neC).trans HG.out.2.1
                  have hb5 : Below w.heap.size w w5 := by first | with_reducible exact bC.grown hg5 bC.size rC | with_reducible exact bA.grown hg5 bA.size rC
                  have hl5 : g < w5.heap.size := by first | with_reducible exact Nat.lt_of_lt_of_le lC hg5.size | with_reducible exact Nat.lt_of_lt_of_le lA hg5.size))
              | ((refine step_spare _ 57 53 56 _ w.heap.size 9 i0 1 Tryz.underlying41 hi hz1 (w3.heap.size + 1) 0 40 [] ?a1 ?a3 ⟨g, 0, none⟩ B cp (List.replicate B ecV) ?a2 L1.out ?a4 (Hone.out B) B O0.out o1 ?_
                  case a1 => rfl
                  case a2 => rfl
                  case a3 => first | with_reducible exact own_made _ _ _ _ hMK.out HM.out.2.2 o6
                  case a4 => first | with_reducible exact Hsr.out _ 0 B HG.out.2.2 o5
                  intro w5 hown5 hg5
                  rw [List.nil_append] at hown5
                  have hk5 : w5.heap[g]? = w3.heap[g]? := by first | with_reducible exact (hg5.block _ lB neD).trans HG.out.2.2
                  have hb5 : Below w.heap.size w w5 := by first | with_reducible exact bB.grown hg5 bB.size rD
                  have hl5 : g < w5.heap.size := by first | with_reducible exact Nat.lt_of_lt_of_le lB hg5.size))
              | (fail))
          all_goals
            go_wp2
            all_goals
              go_meet
              case rel => exact ⟨_, rfl, hown7, hb7⟩
      case rest =>
        obtain ⟨M, rfl, hownM, hbM⟩ := hcut
        have hMb := hownM.lt M rfl
        have hnop : ∀ u, u ∈ [nopV] → u.oneCell' = true := by
          intro u hu; simp at hu; subst hu; rfl
        clear hown3 zs zs2 hN hb1 hb2 hbl2
        go_wp2_with (at_builtin; refine wpList_append_own_spare _ rfl _ _ 41 rfl w.heap.size 9 i0 1 Tryz.underlying41 hi hz1 M (j + 1) 40 _ rfl (hownM.alloc _) ⟨wc.heap.size, 0, none⟩ 1 1 [nopV] rfl rfl (one_str _ _ _ (heap_alloc_new _ _)) hnop (by omega) ?_; intro w8 hown8 hg8)
        have hb8 : Below w.heap.size w w8 := (hbM.alloc hbM.size _).grown hg8 (by have := hbM.size; simp; omega) (by intro k hk; cases hk; exact hMb.1)
        have hl8 : M < w8.heap.size := (hown8.lt M rfl).2
        have HC : Hid (∀ k, k < j + 2 → w8.cell? ⟨M, 0 + k, none⟩ = some (.string ⟨(lnF B j T k).toArray⟩)) := row_cells hB2 hown8
        clear hown8 hownM hg8
        rcases heT with ⟨rfl, hE⟩ | rfl
        · obtain rfl : vE = .nilIface := hev.symm
          go_wp2_with fail
          refine (prog_bad A M 0 (j + 2) 40 (j + 1) (lnF B j T) (inF B j iT) w8 (HS.out.below hb8) (by omega) hl8 (by omega) (fun k hk => by
            unfold lnF inF
            by_cases h : k = B
            · rw [if_pos h, if_pos h]; exact hPT
            · rw [if_neg h, if_neg h, if_neg (by omega), if_neg (by omega)]; exact parse_ecall A) (fun k hk => by
            unfold inF
            by_cases h : k = B
            · rw [if_pos h]; exact hE
            · rw [if_neg h, if_neg (by omega)]; exact W.ec_ok) (by
            unfold lnF inF
            rw [if_neg (show ¬ j + 1 = B by omega), if_neg (show ¬ j + 1 = B by omega), if_pos rfl, if_pos rfl]; exact parse_nop A) HC.out).mono ?_
          rintro e w9 ⟨q, rfl, hb9, hq9, hc9⟩
          have hbl9 : Below w.heap.size w w9 := hb8.trans (hb9.mono hb8.size)
          have HQ : Hid (w9.heap[q]? = some (.cells #[.int .i64 (((j + 1) : Nat) : Int), errV A 6] 79)) := hc9
          have HS9 : Hid (Sg A w9) := HS.out.below hbl9
          clear hc9
          go_wp2_with (first
            | (go_at_call 20; refine (placed_any (((j + 1) : Nat) : Int) _).mono ?_; rintro e w10 ⟨rfl, hb10, hc10, hs10⟩; have HC10 : Hid (w10.cell? ⟨_, 0, none⟩ = some (.int .i64 (((j + 1) : Nat) : Int))) := hc10; clear hc10)
            | (go_at_call 19; refine (same_at A q _ (((j + 1) : Nat) : Int) _ (HS9.out.below hb10).sent ((hb10.block q (Array.getElem?_eq_some_iff.1 HQ.out).1).trans HQ.out) HC10.out).mono ?_; rintro e w11 ⟨rfl, hb11⟩))
          go_ret
          exact ⟨rfl, hbl9.trans ((hb10.trans (hb11.mono hb10.size)).mono hbl9.size)⟩
        · obtain rfl : vE = .iface 194 (.pointer (some (A 5))) := hev.symm
          go_wp2_with fail
          refine (prog_bad A M 0 (j + 2) 40 B (lnF B j T) (inF B j iT) w8 (HS.out.below hb8) (by omega) hl8 (by omega) (fun k hk => by
            unfold lnF inF
            rw [if_neg (by omega), if_neg (by omega), if_neg (by omega), if_neg (by omega)]; exact parse_ecall A) (fun k hk => by
            unfold inF
            rw [if_neg (by omega), if_neg (by omega)]; exact W.ec_ok) (by
            unfold lnF inF
            rw [if_pos rfl, if_pos rfl]; exact hPT) HC.out).mono ?_
          rintro e w9 ⟨q, rfl, hb9, hq9, hc9⟩
          have hbl9 : Below w.heap.size w w9 := hb8.trans (hb9.mono hb8.size)
          have HQ : Hid (w9.heap[q]? = some (.cells #[.int .i64 ((B : Nat) : Int), errV A 6] 79)) := hc9
          have HS9 : Hid (Sg A w9) := HS.out.below hbl9
          clear hc9
          go_wp2_with (first
            | (go_at_call 20; refine (placed_any ((B : Nat) : Int) _).mono ?_; rintro e w10 ⟨rfl, hb10, hc10, hs10⟩; have HC10 : Hid (w10.cell? ⟨_, 0, none⟩ = some (.int .i64 ((B : Nat) : Int))) := hc10; clear hc10)
            | (go_at_call 19; refine (same_at A q _ ((B : Nat) : Int) _ (HS9.out.below hb10).sent ((hb10.block q (Array.getElem?_eq_some_iff.1 HQ.out).1).trans HQ.out) HC10.out).mono ?_; rintro e w11 ⟨rfl, hb11⟩))
          go_ret
          exact ⟨rfl, hbl9.trans ((hb10.trans (hb11.mono hb10.size)).mono hbl9.size)⟩
end Go.Proofs.YtbndaiombnikfaaGreatDoor

/- AsmFirst: the walk. -/
namespace Go.Proofs.YtbndaiombnikfaaGreatDoor
open Go.ChangeShapes Go.WideShapes Go.ChangeAt Go.RowKit
set_option linter.unusedVariables false

theorem asmFirst_walk (A : Nat → Addr) (n bad : Int) (s : ByteArray) (n0 : -9223372036854775808 ≤ n) (n1 : n ≤ 9223372036854775807) (b0 : -9223372036854775808 ≤ bad) (b1 : bad ≤ 9223372036854775807) (hs : s.size ≤ maxLen) (w : World) (hS : Sg A w) :
    Calls Tryz.prog 7 #[.int .i64 n, .int .i64 bad, .string s] w fun e w' => e = .returned (.bool true) ∧ Below w.heap.size w w' := by
  by_cases hl : 60 < s.size
  · exact asmFirst_long A n bad s w hS hl hs
  · have hb := tmod_bd5 n 30 (by decide)
    have e1 : wrap64 (n.tmod 30 + 30) = n.tmod 30 + 30 := by unfold wrap64; omega
    have h1 := Int.emod_nonneg (n.tmod 30 + 30) (show (30 : Int) ≠ 0 by decide)
    have h2 := Int.emod_lt_of_pos (n.tmod 30 + 30) (show (0 : Int) < 30 by decide)
    refine asmFirst_main A n bad ((n.tmod 30 + 30) % 30).toNat ?_ (by omega) s w hS (by omega)
    rw [e1, Int.tmod_eq_emod_of_nonneg (by omega)]
    omega
end Go.Proofs.YtbndaiombnikfaaGreatDoor
