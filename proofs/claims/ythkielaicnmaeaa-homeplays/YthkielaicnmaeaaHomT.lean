/- corralref: Among, Sorted, Ints; the document's without. -/
import Derived.Test.YthkielaicnmaeaaHomS
import Derived.Test.YthkielaicnmaeaaHomO1
import Derived.Deep.DeepAppendRoom
namespace Go.Proofs.Ythkielaicnmaeaa
open Go.ChangeShapes Go.WideShapes Go.ChangeAt Go.RowKit
set_option linter.unusedVariables false
set_option linter.unusedSimpArgs false

theorem among_any (s : W.Sl) (l : List Int) (x : Int) (w : World) (hl : Li s l w) : Calls Try.prog 26 #[slV s, .int .i64 x] w fun e w' => e = .returned (.bool (decide (x ∈ l))) ∧ w = w' := by
  obtain ⟨a, n, c⟩ := s
  obtain ⟨hn, hm, hnc, hat⟩ := hl
  dsimp only at hn hm hnc hat
  have HN : Hid (n = l.length) := hn
  have HA : Hid (0 < n → ∃ b o, a = some ⟨b, o, none⟩ ∧ b < w.heap.size ∧ ∀ j x, l[j]? = some x → w.cell? ⟨b, o + j, none⟩ = some (.int .i64 x)) := hat
  clear hn hat
  unfold slV
  go_enter Try.func26, Try.ntmps26
  go_wp2
  go_loopw [5] (fun j wr => ∃ k : Nat, k ≤ n ∧ j = .int .i64 k ∧ (∀ i y, i < k → l[i]? = some y → y ≠ x) ∧ w = wr) (fun j _ => n - (intOf j).toNat)
  case atStart => exact ⟨0, by omega, rfl, fun i y h => by omega, rfl⟩
  case round =>
    obtain ⟨k, hk, rfl, hno, rfl⟩ := hrel
    have HO : Hid (∀ i y, i < k → l[i]? = some y → y ≠ x) := hno
    clear hno
    by_cases h : k < n
    · have hkn : (k : Int) < n := by omega
      obtain ⟨b, o, rfl, hb, hc⟩ := HA.out (by omega)
      obtain ⟨y, hy⟩ : ∃ y, l[k]? = some y := ⟨_, List.getElem?_eq_getElem (by have := HN.out; omega)⟩
      have ck := hc k y hy
      have HY : Hid (l[k]? = some y) := hy
      clear hc hy
      by_cases e : y = x
      · subst e
        have HP : Hid (decide (y ∈ l) = true) := decide_eq_true (List.mem_of_getElem? HY.out)
        go_wp2
        go_ret
        rw [HP.out]
        exact ⟨rfl, rfl⟩
      · have hne : (y == x) = false := by simpa using e
        have hO2 : Hid (∀ i z, i < k + 1 → l[i]? = some z → z ≠ x) := fun i z hi hz => by
          by_cases q : i = k
          · subst q
            rw [HY.out] at hz
            cases hz
            exact e
          · exact HO.out i z (by omega) hz
        go_wp2
        go_roundw
        case rel => exact ⟨k + 1, by omega, by go_num, hO2.out, by first | rfl | trivial⟩
        case measure => simp [intOf]; omega
    · have HP : Hid (decide (x ∈ l) = false) := decide_eq_false (fun hy => by
        obtain ⟨j, hj, e⟩ := List.getElem_of_mem hy
        exact HO.out j _ (by have := HN.out; omega) (List.getElem?_eq_getElem hj) e)
      go_wp2
      go_ret
      rw [HP.out]
      exact ⟨rfl, rfl⟩

def mkJ (x y : Value) : Sem Value := Instr.makeSlice 39 x y
theorem mkJ_eq (x y : Value) : Instr.makeSlice 39 x y = mkJ x y := rfl
theorem make_j (n : Nat) (hn : n ≤ 60000) (w : World) : (mkJ (.int .i64 0) (.int .i64 (n : Int))).run Try.prog w = .ok (.slice (some ⟨w.heap.size, 0, none⟩) 0 n) (w.alloc (.cells (madeCells #[.int .i64 0] (n * 1)) 3)) := by
  obtain ⟨i, hi, hzz⟩ := Option.map_eq_some_iff.1 infoI
  simp only [Prod.mk.injEq] at hzz
  obtain ⟨hz, hs, hb⟩ := hzz
  have hr := run_make (P := Try.prog) w 39 3 i _ Try.underlying39 hi hz .i64 .i64 0 n (by omega) (by omega) (by rw [hb]; omega) (by omega)
  simp only [Int.toNat_natCast, hs] at hr
  exact hr
theorem made_j (n : Nat) (hn : n ≤ 60000) (w : World) (base : Nat) (hb : base ≤ w.heap.size) : (w.alloc (.cells (madeCells #[.int .i64 0] (n * 1)) 3)).ownsRow base 3 1 (.slice (some ⟨w.heap.size, 0, none⟩) 0 n) 0 [] :=
  World.ownsRow_made w _ n hb (by unfold maxLen; omega) (by rw [size_madeCells])
/-- An append of nothing. -/
theorem append_nil (t ty : TypeId) (w : World) (ht : Try.prog.underlying t = some (.slice 3)) (g n cap : Nat) (hc : n ≤ cap) : (Builtin.append_ #[t, t] ty #[.slice (some ⟨g, 0, none⟩) n cap, .slice none 0 0]).run Try.prog w = .ok (.slice (some ⟨g, 0, none⟩) n cap) w := by
  obtain ⟨i, hi, hzz⟩ := Option.map_eq_some_iff.1 infoI
  simp [Builtin.append_, run_underlying ht, sizeOf, typeInfo, hi, Builtin.lenOf, hc, Builtin.firstCells, storeCells]
attribute [local go_sem ↓] mkJ_eq
namespace W
theorem ins_at (x : Int) : ∀ (l : List Int) (k : Nat), k ≤ l.length → (∀ j (hj : j < l.length), j < k → l[j] < x) → (∀ (hk : k < l.length), x < l[k]) → ins x l = l.take k ++ x :: l.drop k
  | [], 0, h, _, _ => rfl
  | [], k + 1, h, _, _ => by simp at h
  | y :: l, 0, _, _, h2 => by
    have := h2 (by simp)
    simp at this
    unfold ins
    rw [if_neg (by omega), if_neg (by omega)]
    rfl
  | y :: l, k + 1, h, h1, h2 => by
    have := h1 0 (by simp) (by omega)
    simp at this
    unfold ins
    rw [if_pos this, ins_at x l k (by simpa using h) (fun j hj hk => by have := h1 (j + 1) (by simpa using hj) (by omega); simpa using this) (fun hk => by have := h2 (by simpa using hk); simpa using this)]
    rfl
end W
theorem run_append_copy {P : Program} (w : World) (base base' : Nat) (t ty e : TypeId) (i : TypeInfo) (size : Nat) (ht : P.underlying t = some (.slice e)) (hi : P.info? e = some i) (hsize : i.size = size)
    (g cap : Nat) (hown : w.ownsRow base e size (.slice (some ⟨g, 0, none⟩) 0 cap) 0 []) (v : Value) (n : Nat) (xs : List Value) (hv : w.ownsRow base' e size v n xs) (h1 : ∀ u ∈ xs, u.oneCell' = true) (hn : n ≤ cap) :
    ∃ w', (Builtin.append_ #[t, t] ty #[.slice (some ⟨g, 0, none⟩) 0 cap, v]).run P w = .ok (.slice (some ⟨g, 0, none⟩) n cap) w' ∧ w'.ownsRow base e size (.slice (some ⟨g, 0, none⟩) n cap) n xs ∧ w.grownBy w' (some g) := by
  have HV := hv
  rcases hv.2 with ⟨rfl, rfl⟩ | ⟨g', cap', cur, rfl, hbg, hg, hnc, hcm, hcs, htk⟩
  · have hx : xs = [] := List.eq_nil_of_length_eq_zero (by rw [hv.1]; simp)
    subst hx
    exact ⟨w, run_append_owned_none w base t ty e i size ht hi _ 0 [] hown, hown, ⟨rfl, rfl, rfl, Nat.le_refl _, fun _ _ _ => rfl⟩⟩
  · obtain ⟨w', hr, h2, h3⟩ := run_append_fits (P := P) w base t ty e i size ht hi hsize g 0 cap [] hown ⟨g', 0, none⟩ n cap' xs hv.1 (fun j u hu => by
      rw [Addr.add_mid, Nat.zero_add, HV.cellAt j (by
        have := (List.getElem?_eq_some_iff.1 hu).1
        rw [hv.1] at this
        exact this)]
      exact hu) h1 (by omega)
    rw [Nat.zero_add] at hr h2
    exact ⟨w', hr, by simpa using h2, h3⟩
theorem wp_append_copy {P : Program} (w : World) {o : Oper} {a : Act} {K : Act → World → Prop} {Q : Exit → Act → World → Prop} (s x : Operand) (t : TypeId)
    (ho : o.op = .call { callee := .builtin .append, args := #[s, x], argTypes := #[t, t] })
    (base base' : Nat) (e : TypeId) (i : TypeInfo) (size : Nat) (ht : P.underlying t = some (.slice e)) (hi : P.info? e = some i) (hsize : i.size = size)
    (g cap : Nat) (hs : a.eval s = .slice (some ⟨g, 0, none⟩) 0 cap) (hown : w.ownsRow base e size (.slice (some ⟨g, 0, none⟩) 0 cap) 0 []) (v : Value) (hx : a.eval x = v) (n : Nat) (xs : List Value) (hv : w.ownsRow base' e size v n xs) (h1 : ∀ u ∈ xs, u.oneCell' = true) (hn : n ≤ cap)
    (h : ∀ w', w'.ownsRow base e size (.slice (some ⟨g, 0, none⟩) n cap) n xs → w.grownBy w' (some g) → K (a.put o.dst (.slice (some ⟨g, 0, none⟩) n cap)) w') : o.wp P a w K Q := by
  obtain ⟨w', hr, h2, h3⟩ := run_append_copy (P := P) w base base' t o.type e i size ht hi hsize g cap hown v n xs hv h1 hn
  unfold Oper.wp execOp
  simp only [ho, resolve, invoke, builtin, Sem.run_bind, Sem.run_pure, Result.andThen_ok, List.map_toArray, List.map_cons, List.map_nil, hs, hx, hr]
  exact h w' h2 h3
theorem step_copy {P : Program} (w : World) {ops : Array Oper} {a : Act} {K : Act → World → Prop} {Q : Exit → Act → World → Prop} {E : Prop} (d s x t : Nat) {ty : TypeId} {ps : String} {af : Array Edge}
    (base base' : Nat) (e : TypeId) (i : TypeInfo) (size : Nat) (ht : P.underlying t = some (.slice e)) (hi : P.info? e = some i) (hsize : i.size = size)
    (g cap : Nat) (hs : a.eval (.tmp s) = .slice (some ⟨g, 0, none⟩) 0 cap) (hown : w.ownsRow base e size (.slice (some ⟨g, 0, none⟩) 0 cap) 0 []) (v : Value) (hx : a.eval (.tmp x) = v) (n : Nat) (xs : List Value) (hv : w.ownsRow base' e size v n xs) (h1 : ∀ u ∈ xs, u.oneCell' = true) (hn : n ≤ cap)
    (h : ∀ w', w'.ownsRow base e size (.slice (some ⟨g, 0, none⟩) n cap) n xs → w.grownBy w' (some g) → K (a.put (some d) (.slice (some ⟨g, 0, none⟩) n cap)) w') :
    if Region.wanted { dst := some d, op := .call { callee := .builtin .append, args := #[.tmp s, .tmp x], argTypes := #[t, t] }, type := ty, pos := ps, after := af, guard := none } (yielded ops a.tmps) = true then Oper.wp P { dst := some d, op := .call { callee := .builtin .append, args := #[.tmp s, .tmp x], argTypes := #[t, t] }, type := ty, pos := ps, after := af, guard := none } a w K Q else E := by
  rw [if_pos (by simp [Region.wanted])]
  exact wp_append_copy w _ _ t rfl base base' e i size ht hi hsize g cap hs hown v hx n xs hv h1 hn h
theorem own_takeI {w : World} {base g n cap k : Nat} {xs : List Value} (h : w.ownsRow base 3 1 (.slice (some ⟨g, 0, none⟩) n cap) n xs) (hk : k ≤ n) : w.ownsRow base 3 1 (.slice (some ⟨g, 0, none⟩) k cap) k (xs.take (k * 1)) := by
  rcases h.2 with ⟨h1, h2⟩ | ⟨g', cap', cur, h1, hbg, hg, hnc, hcm, hcs, htk⟩
  · cases h1
  · cases h1
    refine ⟨by rw [List.length_take, h.1]; omega, Or.inr ⟨g, cap, cur, rfl, hbg, hg, by omega, hcm, hcs, ?_⟩⟩
    rw [← htk, List.take_take, Nat.min_eq_left (by omega)]
namespace W
theorem ins_len_le (x : Int) : ∀ l : List Int, (ins x l).length ≤ l.length + 1
  | [] => by simp [ins]
  | y :: l => by
    unfold ins
    split
    · have := ins_len_le x l; simp; omega
    · split <;> simp
theorem fold_len : ∀ (l t : List Int), (l.foldl (fun t x => ins x t) t).length ≤ t.length + l.length
  | [], t => by simp
  | x :: l, t => by
    have h1 := fold_len l (ins x t)
    have h2 := ins_len_le x t
    rw [List.foldl_cons, List.length_cons]
    omega
theorem srt_len (l : List Int) : (srt l).length ≤ l.length := by
  have := fold_len l []
  simpa [srt] using this
end W

set_option maxRecDepth 10000 in
set_option maxHeartbeats 1600000 in
theorem sorted_any (s : W.Sl) (l : List Int) (w : World) (hl : Li s l w) :
    Calls Try.prog 36 #[slV s] w fun e w' => ∃ v, e = .returned v ∧ On w.heap.size v (W.srt l) w' ∧ Below w.heap.size w w' := by
  obtain ⟨a, n, c⟩ := s
  obtain ⟨hn, hm, hnc, hat⟩ := hl
  dsimp only at hn hm hnc hat
  have HN : Hid (n = l.length) := hn
  have HA : Hid (0 < n → ∃ b o, a = some ⟨b, o, none⟩ ∧ b < w.heap.size ∧ ∀ j x, l[j]? = some x → w.cell? ⟨b, o + j, none⟩ = some (.int .i64 x)) := hat
  clear hn hat
  unfold slV
  obtain ⟨ti, hti, hzz⟩ := Option.map_eq_some_iff.1 infoI
  simp only [Prod.mk.injEq] at hzz
  obtain ⟨hz0, hz1, hz2⟩ := hzz
  obtain ⟨B, hB⟩ : ∃ B, w.heap.size = B := ⟨_, rfl⟩
  have HB : Hid (w.heap.size = B) := hB
  clear hB
  go_enter Try.func36, Try.ntmps36
  go_wp2
  go_loopw [3, 4] (fun v j wr => ∃ i : Nat, i ≤ n ∧ j = .int .i64 i ∧ On B v (W.srt (l.take i)) wr ∧ Below B w wr) (fun _ j _ => n - (intOf j).toNat)
  case atStart => exact ⟨0, by omega, rfl, On.nil _ _, Below.refl _ _⟩
  case round =>
    obtain ⟨i, hi, rfl, hO, hW⟩ := hrel
    by_cases h : i < n
    · have hin : (i : Int) < n := by omega
      obtain ⟨b, o, rfl, hbl, hc⟩ := HA.out (by omega)
      obtain ⟨x, hx⟩ : ∃ x, l[i]? = some x := ⟨_, List.getElem?_eq_getElem (by have := HN.out; omega)⟩
      have hcx := hc i x hx
      have HX : Hid (∀ w', Below B w w' → w'.cell? ⟨b, o + i, none⟩ = some (.int .i64 x)) := fun w' hb => (hb.cell (p := ⟨b, o + i, none⟩) (by rw [← HB.out]; exact hbl)).trans hcx
      have htk : W.srt (l.take (i + 1)) = W.ins x (W.srt (l.take i)) := by
        rw [List.take_succ_eq_append_getElem (by have := HN.out; omega), W.srt_snoc, show l[i]'(by have := HN.out; omega) = x from Option.some.inj ((List.getElem?_eq_getElem _).symm.trans hx)]
      have HTK : Hid (_) := htk
      have hup : Hid (W.Up1 (W.srt (l.take i))) := W.srt_up _
      have hlen : (W.srt (l.take i)).length ≤ 4096 := Nat.le_trans (W.srt_len _) (by rw [List.length_take]; omega)
      clear hc hx hcx htk
      generalize hT2 : W.srt (l.take (i + 1)) = T2 at *
      have HT : Hid (W.srt (l.take (i + 1)) = T2) := hT2
      clear hT2
      generalize W.srt (l.take i) = T at *
      rcases hO.form with ⟨rfl, rfl⟩ | ⟨g, cap, rfl, hbg, hgl, hqc, hcm, hcell⟩
      · have H0 : Hid (_ ∧ _) := ⟨hO, hW⟩
        clear hO hW
        go_wp2
        go_loopw [5] (fun u wr => u = .int .i64 0 ∧ Below B w wr) (fun _ _ => 0)
        case atStart => exact ⟨rfl, H0.out.2⟩
        case round =>
          obtain ⟨rfl, hW⟩ := hrel
          clear H0
          go_wp2_with (fail)
          go_quiet (fail)
          go_wp2_with (fail)
          have hW2 := below_drewN hW nq
          generalize World.drewN wr nq = W2 at *
          go_quiet (fail)
          have hW3 : Below B w (W2.drewN nq) := below_drewN hW2 _
          clear hW hW2
          generalize World.drewN W2 _ = W3 at *
          have hBs : B ≤ W3.heap.size := by have := hW3.size; have := HB.out; omega
          obtain ⟨OM, hOM, hmk⟩ : ∃ o : Obj, Hid (o = (.cells (madeCells #[.int .i64 0] (1 * 1)) 3)) ∧ ∀ w, (mkJ (.int .i64 0) (.int .i64 1)).run Try.prog w = .ok (.slice (some ⟨w.heap.size, 0, none⟩) 0 1) (w.alloc o) := ⟨_, rfl, fun w => make_j 1 (by omega) w⟩
          have han : ∀ ty w, (Builtin.append_ #[39, 39] ty #[.slice (some ⟨W3.heap.size, 0, none⟩) 0 1, .slice none 0 0]).run Try.prog w = .ok (.slice (some ⟨W3.heap.size, 0, none⟩) 0 1) w := fun ty w => append_nil _ ty w Try.underlying39 _ 0 1 (by omega)
          have han2 : ∀ ty w, (Builtin.append_ #[39, 39] ty #[.slice (some ⟨W3.heap.size, 0, none⟩) 1 1, .slice none 0 0]).run Try.prog w = .ok (.slice (some ⟨W3.heap.size, 0, none⟩) 1 1) w := fun ty w => append_nil _ ty w Try.underlying39 _ 1 1 (by omega)
          go_wp2_with (fail)
          go_region
          all_goals
            have hO4 : (W3.alloc OM).drew.ownsRow B 3 1 (.slice (some ⟨W3.heap.size, 0, none⟩) 0 1) 0 [] := own_below (by rw [hOM.out]; exact made_j 1 (by omega) W3 B hBs) (Below.refl _ _).drew
            have hB4 : Below B w (W3.alloc OM).drew := (hW3.alloc hBs _).drew
            have HW4 : Hid (_ ∧ _) := ⟨hO4, hB4⟩
            generalize W3.heap.size = g at *
            generalize World.drew (World.alloc W3 OM) = W4 at *
            have cx := HX.out W4 HW4.out.2
            have hB5 : B ≤ W4.heap.size := by have := HW4.out.2.size; have := HB.out; omega
            have hba := below_alloc W4 (.cells #[.int .i64 x] 3)
            have HN5 : Hid (_ ∧ _) := ⟨own_below HW4.out.1 hba, World.news_of_block (cs := #[Value.int .i64 x]) (heap_alloc_last W4 (.cells #[.int .i64 x] 3))⟩
            clear hO4 hB4 hW3 hba hmk
            go_wp2_with (at_builtin; refine wpList_append_own_spare _ rfl _ _ 39 rfl B 3 ti 1 Try.underlying39 hti hz1 g 0 1 [] rfl HN5.out.1 ⟨W4.heap.size, 0, none⟩ 1 1 [.int .i64 x] rfl rfl HN5.out.2 (oneI [x]) (by omega) ?_; intro w6 hown6 hg6)
            have hW6 : Below B w w6 := (HW4.out.2.alloc hB5 (.cells #[.int .i64 x] 3)).grown hg6 (by simp; omega) (by intro k hk; cases hk; exact hBs)
            have HT2 : Hid (T2 = [x]) := HTK.out
            have hO6 : On B (.slice (some ⟨g, 0, none⟩) 1 1) T2 w6 := by
              rw [HT2.out]
              exact hown6
            have HF : Hid (_ ∧ _) := ⟨hO6, hW6⟩
            clear hO6 hW6 hown6 hg6
            go_wp2
            go_roundw
            case rel => exact ⟨i + 1, by omega, by go_num, by rw [HT.out]; exact HF.out.1, HF.out.2⟩
            case measure => simp [intOf]; omega
      · obtain ⟨q, hq⟩ : ∃ q, T.length = q := ⟨_, rfl⟩
        rw [hq] at hO hqc hlen
        have HQ : Hid (T.length = q) := hq
        have H0 : Hid (On B (.slice (some ⟨g, 0, none⟩) q cap) T wr ∧ Below B w wr) := ⟨hO, hW⟩
        rw [hq]
        unfold maxLen at hcm
        clear hO hW hcell hq hgl
        go_wp2
        go_loopw [5] (fun u wr => ∃ k : Nat, k ≤ q ∧ u = .int .i64 k ∧ (∀ j y, j < k → T[j]? = some y → y < x) ∧ On B (.slice (some ⟨g, 0, none⟩) q cap) T wr ∧ Below B w wr) (fun u _ => q - (intOf u).toNat)
        case atStart => exact ⟨0, by omega, rfl, fun j y h => by omega, H0.out.1, H0.out.2⟩
        case round =>
          obtain ⟨k, hk, rfl, hlo, hO2, hW2⟩ := hrel
          have HLO : Hid (∀ j y, j < k → T[j]? = some y → y < x) := hlo
          have H2 : Hid (On B (.slice (some ⟨g, 0, none⟩) q cap) T wr ∧ Below B w wr) := ⟨hO2, hW2⟩
          clear hlo H0 hO2 hW2
          have cx := HX.out _ H2.out.2
          have hcell : ∀ j x, T[j]? = some x → wr.cell? ⟨g, j, none⟩ = some (.int .i64 x) := fun j x hx => by
            rcases H2.out.1.form with ⟨h1, h2⟩ | ⟨g', cap', h1, _, _, _, _, h5⟩
            · cases h1
            · simp only [Value.slice.injEq, Option.some.injEq, Addr.mk.injEq] at h1
              rw [h1.1.1]
              exact h5 j x hx
          by_cases hkq : k < q
          · obtain ⟨y, hy⟩ : ∃ y, T[k]? = some y := ⟨_, List.getElem?_eq_getElem (by have := HQ.out; omega)⟩
            have ck := hcell k y hy
            have HY : Hid (T[k]? = some y) := hy
            have hkq1 : (k : Int) < q := by omega
            clear hcell hy
            by_cases hyx : y < x
            · go_wp2_with (fail)
              go_quiet (fail)
              have hB3 : Below wr.heap.size wr (wr.drewN nq) := below_drewN (Below.refl _ _) _
              have H3 : Hid (_ ∧ _) := ⟨H2.out.1.below hB3, H2.out.2.trans (hB3.mono (by have := H2.out.2.size; have := HB.out; omega))⟩
              clear hB3 H2
              have hO4 : Hid (∀ j z, j < k + 1 → T[j]? = some z → z < x) := fun j z hj hz => by
                by_cases e : j = k
                · subst e; rw [HY.out] at hz; cases hz; exact hyx
                · exact HLO.out j z (by omega) hz
              go_wp2
              go_roundw
              case rel => exact ⟨k + 1, by omega, by go_num, hO4.out, H3.out.1, H3.out.2⟩
              case measure => simp [intOf]; omega
            · have hd : decide (y < x) = false := decide_eq_false hyx
              by_cases hxy : y = x
              · subst hxy
                have HT3 : Hid (T2 = T) := HTK.out.trans (W.ins_in y T hup.out (List.mem_of_getElem? HY.out))
                go_wp2_with (fail)
                go_quiet (fail)
                go_wp2_with (fail)
                have cx2 := HX.out (wr.drewN nq) (below_drewN H2.out.2 _)
                have ck2 : (wr.drewN nq).cell? ⟨g, k, none⟩ = some (.int .i64 y) := ck
                have hB2 : Below wr.heap.size wr (wr.drewN nq) := below_drewN (Below.refl _ _) _
                clear ck cx
                generalize World.drewN wr nq = W2 at *
                go_quiet (fail)
                have hB3 : Below wr.heap.size wr (W2.drewN nq) := below_drewN hB2 _
                have H3 : Hid (_ ∧ _) := ⟨H2.out.1.below hB3, H2.out.2.trans (hB3.mono (by have := H2.out.2.size; have := HB.out; omega))⟩
                clear hB3 hB2 H2
                go_wp2
                go_roundw
                case rel => exact ⟨i + 1, by omega, by go_num, by rw [HT.out, HT3.out]; exact H3.out.1, H3.out.2⟩
                case measure => simp [intOf]; omega
              · have hne : (y == x) = false := by simpa using hxy
                have HT2 : Hid (T2 = T.take k ++ x :: T.drop k) := by
                  refine HTK.out.trans (W.ins_at x T k (by have := HQ.out; omega) (fun j hj hjk => HLO.out j _ hjk (List.getElem?_eq_getElem hj)) (fun hk' => ?_))
                  have : T[k] = y := Option.some.inj ((List.getElem?_eq_getElem hk').symm.trans HY.out)
                  rw [this]
                  omega
                go_wp2_with (fail)
                go_quiet (fail)
                go_wp2_with (fail)
                have HD : Hid (Below wr.heap.size wr wr ∧ Below wr.heap.size wr (wr.drewN nq)) := ⟨Below.refl _ _, below_drewN (Below.refl _ _) _⟩
                have cx2 := HX.out (wr.drewN nq) (below_drewN H2.out.2 _)
                have ck2 : (wr.drewN nq).cell? ⟨g, k, none⟩ = some (.int .i64 y) := ck
                clear ck cx
                generalize World.drewN wr _ = W2 at *
                go_quiet (fail)
                have hB3 : Below wr.heap.size wr (W2.drewN nq) := HD.out.2.trans (below_drewN (Below.refl _ _) _)
                have H3 : Hid (_ ∧ _) := ⟨H2.out.1.below hB3, H2.out.2.trans (hB3.mono (by have := H2.out.2.size; have := HB.out; omega))⟩
                clear hB3 HD
                generalize World.drewN W2 _ = W3 at *
                have hBs : B ≤ W3.heap.size := by have := H3.out.2.size; have := HB.out; omega
                obtain ⟨OM, hOM, hmk⟩ : ∃ o : Obj, Hid (o = (.cells (madeCells #[.int .i64 0] ((q + 1) * 1)) 3)) ∧ ∀ w, (mkJ (.int .i64 0) (.int .i64 ((q : Int) + 1))).run Try.prog w = .ok (.slice (some ⟨w.heap.size, 0, none⟩) 0 (q + 1)) (w.alloc o) := ⟨_, rfl, fun w => by rw [← Int.natCast_succ]; exact make_j (q + 1) (by omega) w⟩
                have hwr : IntKind.i64.wrap ((q : Int) + 1) = (q : Int) + 1 := IntWalk.i64_in ((q : Int) + 1) (by omega)
                have hkq' : (k : Int) ≤ q := by omega
                have hkc : (k : Int) ≤ cap := by omega
                have hqc' : (q : Int) ≤ cap := by omega
                have HO3 : Hid (W3.ownsRow B 3 1 (.slice (some ⟨g, 0, none⟩) k cap) k ((inX T).take (k * 1))) := by
                  have h3 : W3.ownsRow B 3 1 (.slice (some ⟨g, 0, none⟩) q cap) T.length (inX T) := H3.out.1
                  rw [HQ.out] at h3
                  exact own_takeI h3 (by omega)
                obtain ⟨ad, had⟩ : ∃ ad : Addr, some (⟨g, k, none⟩ : Addr) = some ad := ⟨_, rfl⟩
                have hnews : ∀ w', Below W3.heap.size W3 w' → ∀ j u, ((inX T).drop k)[j]? = some u → w'.cell? (ad.add j) = some u := fun w' hb j u hu => by
                  have hj := (List.getElem?_eq_some_iff.1 hu).1
                  rw [List.length_drop] at hj
                  have hlx : (inX T).length = q := by unfold inX; rw [List.length_map, HQ.out]
                  cases had
                  rw [Addr.add_mid]
                  have h3 : w'.ownsRow B 3 1 (.slice (some ⟨g, 0, none⟩) q cap) T.length (inX T) := H3.out.1.below hb
                  rw [HQ.out] at h3
                  rw [h3.cellAt (k + j) (by omega)]
                  rw [List.getElem?_drop] at hu
                  exact hu
                have HNW : Hid (_) := hnews
                have HAD : Hid (some (⟨g, k, none⟩ : Addr) = some ad) := had
                clear hnews had
                go_wp2_with (fail)
                go_region_law (first
                  | ((refine step_copy _ 52 48 51 _ B B 3 ti 1 Try.underlying39 hti hz1 W3.heap.size (q + 1) ?a1 ?a3 (.slice (some ⟨g, 0, none⟩) k cap) ?a2 k ((inX T).take (k * 1)) ?a4 ?a5 ?a6 ?_
                      case a1 => rfl
                      case a2 => rfl
                      case a3 => (rw [hOM.out]; exact own_below (made_j (q + 1) (by omega) W3 B hBs) (Below.refl _ _).drew)
                      case a4 => exact own_below HO3.out ((Below.refl _ _).drew.alloc (Nat.le_refl _) _)
                      case a5 => exact fun u hu => oneI T u (List.mem_of_mem_take hu)
                      case a6 => omega
                      intro w9 hown9 hg9))
                  | (fail))
                all_goals
                  have hB9w : Below W3.heap.size W3 w9 := ((below_alloc W3 OM).drew).grown hg9 (by simp) (by intro k hk; cases hk; exact Nat.le_refl _)
                  have hB9 : Below B w w9 := H3.out.2.trans (hB9w.mono hBs)
                  have cx9 := HX.out w9 hB9
                  have hg2 : W3.heap.size < w9.heap.size := by have := hg9.size; simp at this; omega
                  have hba := below_alloc w9 (.cells #[.int .i64 x] 3)
                  have HN9 : Hid (_ ∧ _ ∧ _ ∧ _) := ⟨own_below hown9 hba, World.news_of_block (cs := #[Value.int .i64 x]) (heap_alloc_last w9 (.cells #[.int .i64 x] 3)), hB9w.trans (hba.mono (Nat.le_of_lt hg2)), hB9.trans (hba.mono (Nat.le_trans hBs (Nat.le_of_lt hg2)))⟩
                  have hlx : Hid ((inX T).length = q) := by show (inX T).length = q; unfold inX; rw [List.length_map, HQ.out]
                  have HSZ : Hid (W3.heap.size < w9.heap.size ∧ W3.heap.size = W3.heap.size) := ⟨hg2, rfl⟩
                  clear hown9 hg9 hB9w hB9 hba hmk
                  go_wp2_with (first
                    | (at_builtin; refine wpList_append_own_spare _ rfl _ _ 39 rfl B 3 ti 1 Try.underlying39 hti hz1 W3.heap.size k (q + 1) ((inX T).take (k * 1)) rfl HN9.out.1 ⟨w9.heap.size, 0, none⟩ 1 1 [.int .i64 x] rfl rfl HN9.out.2.1 (oneI [x]) (by omega) ?_; intro w10 hown10 hg10; have hB10 : Below W3.heap.size W3 w10 := HN9.out.2.2.1.grown hg10 (by have := HN9.out.2.2.1.size; omega) (by intro k hk; cases hk; exact Nat.le_refl _))
                    | (at_builtin; refine wpList_append_own_spare _ rfl _ _ 39 rfl B 3 ti 1 Try.underlying39 hti hz1 W3.heap.size (k + 1) (q + 1) _ rfl hown10 ad (q - k) (cap - k) ((inX T).drop k) (congrArg (fun a => Value.slice a (q - k) (cap - k)) HAD.out) (by rw [List.length_drop, hlx.out]; omega) (HNW.out w10 hB10) (fun u hu => oneI T u (List.mem_of_mem_drop hu)) (by omega) ?_; intro w11 hown11 hg11))
                  have hW11 : Below B w w11 := (H3.out.2.trans (hB10.mono hBs)).grown hg11 (by have := H3.out.2.size; have := hB10.size; have := HB.out; omega) (by intro k hk; cases hk; exact hBs)
                  have hl2 : k + 1 + (q - k) = T2.length := by rw [HT2.out, List.length_append, List.length_cons, List.length_take, List.length_drop, HQ.out]; omega
                  have hx2 : (inX T).take (k * 1) ++ [.int .i64 x] ++ (inX T).drop k = inX T2 := by rw [HT2.out, Nat.mul_one]; simp [inX, List.map_take, List.map_drop]
                  have hO11 : On B (.slice (some ⟨W3.heap.size, 0, none⟩) (k + 1 + (q - k)) (q + 1)) T2 w11 := by
                    rw [hx2, hl2] at hown11
                    show w11.ownsRow B 3 1 _ T2.length (inX T2)
                    rw [hl2]
                    exact hown11
                  have HF : Hid (_ ∧ _) := ⟨hO11, hW11⟩
                  clear hO11 hW11 hown11 hg11 hl2 hx2
                  go_wp2
                  go_roundw
                  case rel => exact ⟨i + 1, by omega, by go_num, by rw [HT.out]; exact HF.out.1, HF.out.2⟩
                  case measure => simp [intOf]; omega
          · obtain ⟨k', hk'⟩ : ∃ k', k' = k := ⟨k, rfl⟩
            clear hk' hcell
            have HT2 : Hid (T2 = T.take k ++ x :: T.drop k) := HTK.out.trans (W.ins_at x T k (by have := HQ.out; omega) (fun j hj hjk => HLO.out j _ hjk (List.getElem?_eq_getElem hj)) (fun hk' => by have := HQ.out; omega))
            have hnk : ¬ ((k : Int) < (q : Int)) := by omega
            have hkd : decide ((k : Int) < (q : Int)) = false := decide_eq_false hnk
            go_wp2_with (fail)
            go_quiet (fail)
            go_wp2_with (fail)
            have HD : Hid (Below wr.heap.size wr wr ∧ Below wr.heap.size wr (wr.drewN nq)) := ⟨Below.refl _ _, below_drewN (Below.refl _ _) _⟩
            clear cx
            generalize World.drewN wr _ = W2 at *
            go_quiet (fail)
            have hB3 : Below wr.heap.size wr (W2.drewN nq) := HD.out.2.trans (below_drewN (Below.refl _ _) _)
            have H3 : Hid (_ ∧ _) := ⟨H2.out.1.below hB3, H2.out.2.trans (hB3.mono (by have := H2.out.2.size; have := HB.out; omega))⟩
            clear hB3 HD
            generalize World.drewN W2 _ = W3 at *
            have hBs : B ≤ W3.heap.size := by have := H3.out.2.size; have := HB.out; omega
            obtain ⟨OM, hOM, hmk⟩ : ∃ o : Obj, Hid (o = (.cells (madeCells #[.int .i64 0] ((q + 1) * 1)) 3)) ∧ ∀ w, (mkJ (.int .i64 0) (.int .i64 ((q : Int) + 1))).run Try.prog w = .ok (.slice (some ⟨w.heap.size, 0, none⟩) 0 (q + 1)) (w.alloc o) := ⟨_, rfl, fun w => by rw [← Int.natCast_succ]; exact make_j (q + 1) (by omega) w⟩
            have hwr : IntKind.i64.wrap ((q : Int) + 1) = (q : Int) + 1 := IntWalk.i64_in ((q : Int) + 1) (by omega)
            have hkq' : (k : Int) ≤ q := by omega
            have hkc : (k : Int) ≤ cap := by omega
            have hqc' : (q : Int) ≤ cap := by omega
            have HO3 : Hid (W3.ownsRow B 3 1 (.slice (some ⟨g, 0, none⟩) k cap) k ((inX T).take (k * 1))) := by
              have h3 : W3.ownsRow B 3 1 (.slice (some ⟨g, 0, none⟩) q cap) T.length (inX T) := H3.out.1
              rw [HQ.out] at h3
              exact own_takeI h3 (by omega)
            obtain ⟨ad, had⟩ : ∃ ad : Addr, (if cap = k then some (⟨g, 0, none⟩ : Addr) else some ⟨g, k, none⟩) = some ad := by
              by_cases e : cap = k
              · exact ⟨_, if_pos e⟩
              · exact ⟨_, if_neg e⟩
            have hnews : ∀ w', Below W3.heap.size W3 w' → ∀ j u, ((inX T).drop k)[j]? = some u → w'.cell? (ad.add j) = some u := fun w' hb j u hu => by
              have hj := (List.getElem?_eq_some_iff.1 hu).1
              rw [List.length_drop] at hj
              have hlx : (inX T).length = q := by unfold inX; rw [List.length_map, HQ.out]
              rw [if_neg (by omega)] at had
              cases had
              rw [Addr.add_mid]
              have h3 : w'.ownsRow B 3 1 (.slice (some ⟨g, 0, none⟩) q cap) T.length (inX T) := H3.out.1.below hb
              rw [HQ.out] at h3
              rw [h3.cellAt (k + j) (by omega)]
              rw [List.getElem?_drop] at hu
              exact hu
            have HNW : Hid (_) := hnews
            have HAD : Hid ((if cap = k then some (⟨g, 0, none⟩ : Addr) else some ⟨g, k, none⟩) = some ad) := had
            clear hnews had
            go_wp2_with (fail)
            go_region_law (first
              | ((refine step_copy _ 52 48 51 _ B B 3 ti 1 Try.underlying39 hti hz1 W3.heap.size (q + 1) ?a1 ?a3 (.slice (some ⟨g, 0, none⟩) k cap) ?a2 k ((inX T).take (k * 1)) ?a4 ?a5 ?a6 ?_
                  case a1 => rfl
                  case a2 => rfl
                  case a3 => (rw [hOM.out]; exact own_below (made_j (q + 1) (by omega) W3 B hBs) (Below.refl _ _).drew)
                  case a4 => exact own_below HO3.out ((Below.refl _ _).drew.alloc (Nat.le_refl _) _)
                  case a5 => exact fun u hu => oneI T u (List.mem_of_mem_take hu)
                  case a6 => omega
                  intro w9 hown9 hg9))
              | (fail))
            all_goals
              have hB9w : Below W3.heap.size W3 w9 := ((below_alloc W3 OM).drew).grown hg9 (by simp) (by intro k hk; cases hk; exact Nat.le_refl _)
              have hB9 : Below B w w9 := H3.out.2.trans (hB9w.mono hBs)
              have cx9 := HX.out w9 hB9
              have hg2 : W3.heap.size < w9.heap.size := by have := hg9.size; simp at this; omega
              have hba := below_alloc w9 (.cells #[.int .i64 x] 3)
              have HN9 : Hid (_ ∧ _ ∧ _ ∧ _) := ⟨own_below hown9 hba, World.news_of_block (cs := #[Value.int .i64 x]) (heap_alloc_last w9 (.cells #[.int .i64 x] 3)), hB9w.trans (hba.mono (Nat.le_of_lt hg2)), hB9.trans (hba.mono (Nat.le_trans hBs (Nat.le_of_lt hg2)))⟩
              have hlx : Hid ((inX T).length = q) := by show (inX T).length = q; unfold inX; rw [List.length_map, HQ.out]
              have HSZ : Hid (W3.heap.size < w9.heap.size ∧ W3.heap.size = W3.heap.size) := ⟨hg2, rfl⟩
              clear hown9 hg9 hB9w hB9 hba hmk
              go_wp2_with (first
                | (at_builtin; refine wpList_append_own_spare _ rfl _ _ 39 rfl B 3 ti 1 Try.underlying39 hti hz1 W3.heap.size k (q + 1) ((inX T).take (k * 1)) rfl HN9.out.1 ⟨w9.heap.size, 0, none⟩ 1 1 [.int .i64 x] rfl rfl HN9.out.2.1 (oneI [x]) (by omega) ?_; intro w10 hown10 hg10; have hB10 : Below W3.heap.size W3 w10 := HN9.out.2.2.1.grown hg10 (by have := HN9.out.2.2.1.size; omega) (by intro k hk; cases hk; exact Nat.le_refl _))
                | (at_builtin; refine wpList_append_own_spare _ rfl _ _ 39 rfl B 3 ti 1 Try.underlying39 hti hz1 W3.heap.size (k + 1) (q + 1) _ rfl hown10 ad (q - k) (cap - k) ((inX T).drop k) (congrArg (fun a => Value.slice a (q - k) (cap - k)) HAD.out) (by rw [List.length_drop, hlx.out]; omega) (HNW.out w10 hB10) (fun u hu => oneI T u (List.mem_of_mem_drop hu)) (by omega) ?_; intro w11 hown11 hg11))
              have hW11 : Below B w w11 := (H3.out.2.trans (hB10.mono hBs)).grown hg11 (by have := H3.out.2.size; have := hB10.size; have := HB.out; omega) (by intro k hk; cases hk; exact hBs)
              have hl2 : k + 1 + (q - k) = T2.length := by rw [HT2.out, List.length_append, List.length_cons, List.length_take, List.length_drop, HQ.out]; omega
              have hx2 : (inX T).take (k * 1) ++ [.int .i64 x] ++ (inX T).drop k = inX T2 := by rw [HT2.out, Nat.mul_one]; simp [inX, List.map_take, List.map_drop]
              have hO11 : On B (.slice (some ⟨W3.heap.size, 0, none⟩) (k + 1 + (q - k)) (q + 1)) T2 w11 := by
                rw [hx2, hl2] at hown11
                show w11.ownsRow B 3 1 _ T2.length (inX T2)
                rw [hl2]
                exact hown11
              have HF : Hid (_ ∧ _) := ⟨hO11, hW11⟩
              clear hO11 hW11 hown11 hg11 hl2 hx2
              go_wp2
              go_roundw
              case rel => exact ⟨i + 1, by omega, by go_num, by rw [HT.out]; exact HF.out.1, HF.out.2⟩
              case measure => simp [intOf]; omega
    · obtain rfl : i = n := by omega
      rw [List.take_of_length_le (by have := HN.out; omega)] at hO
      go_wp2
      go_ret
      exact ⟨_, rfl, by rw [HB.out]; exact hO, by rw [HB.out]; exact hW⟩

set_option maxRecDepth 10000 in
set_option maxHeartbeats 1600000 in
theorem dwithout_any (s : W.Sl) (l : List Int) (x : Int) (w : World) (hl : Li s l w) :
    Calls Try.prog 34 #[slV s, .int .i64 x] w fun e w' => ∃ v, e = .returned v ∧ On w.heap.size v (W.wo l x) w' ∧ Below w.heap.size w w' := by
  obtain ⟨a, n, c⟩ := s
  obtain ⟨hn, hm, hnc, hat⟩ := hl
  dsimp only at hn hm hnc hat
  have HN : Hid (n = l.length) := hn
  have HA : Hid (0 < n → ∃ b o, a = some ⟨b, o, none⟩ ∧ b < w.heap.size ∧ ∀ j x, l[j]? = some x → w.cell? ⟨b, o + j, none⟩ = some (.int .i64 x)) := hat
  clear hn hat
  unfold slV
  obtain ⟨ti, hti, hzz⟩ := Option.map_eq_some_iff.1 infoI
  simp only [Prod.mk.injEq] at hzz
  obtain ⟨hz0, hz1, hz2⟩ := hzz
  obtain ⟨B, hB⟩ : ∃ B, w.heap.size = B := ⟨_, rfl⟩
  have HB : Hid (w.heap.size = B) := hB
  clear hB
  go_enter Try.func34, Try.ntmps34
  go_wp2
  go_loopw [5, 6] (fun v j wr => ∃ i : Nat, i ≤ n ∧ j = .int .i64 i ∧ On B v (W.wo (l.take i) x) wr ∧ Below B w wr) (fun _ j _ => n - (intOf j).toNat)
  case atStart => exact ⟨0, by omega, rfl, On.nil _ _, Below.refl _ _⟩
  case round =>
    obtain ⟨i, hi, rfl, hO, hW⟩ := hrel
    have H0 : Hid (_ ∧ _) := ⟨hO, hW⟩
    clear hO hW
    by_cases h : i < n
    · have hin : (i : Int) < n := by omega
      obtain ⟨b, o, rfl, hbl, hc⟩ := HA.out (by omega)
      obtain ⟨y, hy⟩ : ∃ y, l[i]? = some y := ⟨_, List.getElem?_eq_getElem (by have := HN.out; omega)⟩
      have ck : wr.cell? ⟨b, o + i, none⟩ = some (.int .i64 y) := (H0.out.2.cell (p := ⟨b, o + i, none⟩) (by rw [← HB.out]; exact hbl)).trans (hc i y hy)
      have hbr : b < wr.heap.size := Nat.lt_of_lt_of_le (by rw [← HB.out] at H0; exact hbl) H0.out.2.size
      have htk : l.take (i + 1) = l.take i ++ [y] := by
        rw [List.take_succ_eq_append_getElem (by have := HN.out; omega), show l[i]'(by have := HN.out; omega) = y from Option.some.inj ((List.getElem?_eq_getElem _).symm.trans hy)]
      by_cases e : y = x
      · have ne : (y != x) = false := by simp [e]
        have hw : W.wo (l.take (i + 1)) x = W.wo (l.take i) x := by
          rw [htk]
          unfold W.wo
          rw [List.filter_append, List.filter_cons_of_neg (by simp [e]), List.filter_nil, List.append_nil]
        have HF : Hid (On B u5 (W.wo (l.take (i + 1)) x) wr ∧ _) := ⟨by rw [hw]; exact H0.out.1, H0.out.2⟩
        clear hw htk hc hy H0 e hbr
        go_wp2
        go_roundw
        case rel => exact ⟨i + 1, by omega, by go_num, HF.out.1, HF.out.2⟩
        case measure => simp [intOf]; omega
      · have ne : (y != x) = true := by simpa using e
        have hw : W.wo (l.take (i + 1)) x = W.wo (l.take i) x ++ [y] := by
          rw [htk]
          unfold W.wo
          rw [List.filter_append, List.filter_cons_of_pos (by simpa using e), List.filter_nil]
        have HTK : Hid (_) := hw
        have hlen : (W.wo (l.take i) x).length ≤ 4096 := Nat.le_trans (W.wo_len _ _) (by rw [List.length_take]; omega)
        have hsz : B ≤ wr.heap.size + 1 := by have := H0.out.2.size; have := HB.out; omega
        have hba := below_alloc wr (.cells #[.int .i64 y] 3)
        have HO5 : Hid (On B u5 (W.wo (l.take i) x) (wr.alloc (.cells #[.int .i64 y] 3)) ∧ Below B w (wr.alloc (.cells #[.int .i64 y] 3)) ∧ _) := ⟨H0.out.1.below hba, H0.out.2.trans (hba.mono (by have := H0.out.2.size; have := HB.out; omega)), World.news_of_block (cs := #[Value.int .i64 y]) (heap_alloc_last wr (.cells #[.int .i64 y] 3))⟩
        clear hw htk hc hy H0 hba
        generalize W.wo (l.take i) x = T at *
        go_wp2_with (at_builtin; refine wpList_append_lies _ rfl _ _ 39 rfl B 3 ti (.int .i64 0) 1 8 Try.underlying39 hti hz0 hz1 hz2 rfl (by decide) u5 T.length (inX T) rfl HO5.out.1 ⟨wr.heap.size, 0, none⟩ 1 1 [.int .i64 y] rfl rfl HO5.out.2.2 (oneI [y]) (by decide) (by unfold maxLen; omega) (by omega) (by simp; omega) (wr.heap.size + 1) (by simp) ?_; intro g' cap' w8 hown8 hg8 hat8 hlt8)
        have hO8 : On B (.slice (some ⟨g', 0, none⟩) (T.length + 1) cap') (T ++ [y]) w8 := by
          show w8.ownsRow B 3 1 _ (T ++ [y]).length (inX (T ++ [y]))
          rw [List.length_append, show inX (T ++ [y]) = inX T ++ [.int .i64 y] by simp [inX]]
          exact hown8
        have hB8 : Below B w w8 := HO5.out.2.1.grown hg8 (by have := HO5.out.2.1.size; have := HB.out; omega) (fun b e => (HO5.out.1.lt e).1)
        rw [← HTK.out] at hO8
        have HF : Hid (_ ∧ _) := ⟨hO8, hB8⟩
        clear hO8 hB8 hown8 hg8 hat8 HO5 ck
        go_wp2
        go_roundw
        case rel => exact ⟨i + 1, by omega, by go_num, HF.out.1, HF.out.2⟩
        case measure => simp [intOf]; omega
    · obtain rfl : i = n := by omega
      have hF : On B u5 (W.wo l x) wr := by
        have := H0.out.1
        rw [List.take_of_length_le (by have := HN.out; omega)] at this
        exact this
      go_wp2
      go_ret
      exact ⟨_, rfl, by rw [HB.out]; exact hF, by rw [HB.out]; exact H0.out.2⟩

set_option maxRecDepth 10000 in
set_option maxHeartbeats 1600000 in
theorem ints_any (s : W.Sl) (l : List Int) (w : World) (hl : Li s l w) :
    Calls Try.prog 37 #[slV s] w fun e w' => ∃ v, e = .returned v ∧ On w.heap.size v l w' ∧ Below w.heap.size w w' := by
  obtain ⟨a, n, c⟩ := s
  obtain ⟨hn, hm, hnc, hat⟩ := hl
  dsimp only at hn hm hnc hat
  have HN : Hid (n = l.length) := hn
  have HA : Hid (0 < n → ∃ b o, a = some ⟨b, o, none⟩ ∧ b < w.heap.size ∧ ∀ j x, l[j]? = some x → w.cell? ⟨b, o + j, none⟩ = some (.int .i64 x)) := hat
  clear hn hat
  unfold slV
  obtain ⟨ti, hti, hzz⟩ := Option.map_eq_some_iff.1 infoI
  simp only [Prod.mk.injEq] at hzz
  obtain ⟨hz0, hz1, hz2⟩ := hzz
  obtain ⟨B, hB⟩ : ∃ B, w.heap.size = B := ⟨_, rfl⟩
  have HB : Hid (w.heap.size = B) := hB
  have hmk := make_j n (by omega) w
  have hO0 := made_j n (by omega) w B (by omega)
  have hb0 := below_alloc w (.cells (madeCells #[.int .i64 0] (n * 1)) 3)
  rw [hB] at hb0
  have HS : Hid (On B (.slice (some ⟨w.heap.size, 0, none⟩) 0 n) [] (w.alloc (.cells (madeCells #[.int .i64 0] (n * 1)) 3)) ∧ Below B w (w.alloc (.cells (madeCells #[.int .i64 0] (n * 1)) 3))) := ⟨hO0, hb0⟩
  clear hB hO0 hb0
  generalize hOB : Obj.cells (madeCells #[.int .i64 0] (n * 1)) 3 = OB at *
  clear hOB
  go_enter Try.func37, Try.ntmps37
  go_wp2
  go_loopw [3, 4] (fun v j wr => ∃ i : Nat, i ≤ n ∧ j = .int .i64 i ∧ On B v (l.take i) wr ∧ Below B w wr) (fun _ j _ => n - (intOf j).toNat)
  case atStart => exact ⟨0, by omega, rfl, HS.out.1, HS.out.2⟩
  case round =>
    obtain ⟨i, hi, rfl, hO, hW⟩ := hrel
    have H0 : Hid (_ ∧ _) := ⟨hO, hW⟩
    clear hO hW HS
    by_cases h : i < n
    · have hin : (i : Int) < n := by omega
      obtain ⟨b, o, rfl, hbl, hc⟩ := HA.out (by omega)
      obtain ⟨y, hy⟩ : ∃ y, l[i]? = some y := ⟨_, List.getElem?_eq_getElem (by have := HN.out; omega)⟩
      have ck : wr.cell? ⟨b, o + i, none⟩ = some (.int .i64 y) := (H0.out.2.cell (p := ⟨b, o + i, none⟩) (by rw [← HB.out]; exact hbl)).trans (hc i y hy)
      have htk : l.take (i + 1) = l.take i ++ [y] := by
        rw [List.take_succ_eq_append_getElem (by have := HN.out; omega), show l[i]'(by have := HN.out; omega) = y from Option.some.inj ((List.getElem?_eq_getElem _).symm.trans hy)]
      have HTK : Hid (_) := htk
      have hlen : (l.take i).length ≤ 4096 := by rw [List.length_take]; omega
      have hsz : B ≤ wr.heap.size + 1 := by have := H0.out.2.size; have := HB.out; omega
      have hba := below_alloc wr (.cells #[.int .i64 y] 3)
      have HO5 : Hid (On B u3 (l.take i) (wr.alloc (.cells #[.int .i64 y] 3)) ∧ Below B w (wr.alloc (.cells #[.int .i64 y] 3)) ∧ _) := ⟨H0.out.1.below hba, H0.out.2.trans (hba.mono (by have := H0.out.2.size; have := HB.out; omega)), World.news_of_block (cs := #[Value.int .i64 y]) (heap_alloc_last wr (.cells #[.int .i64 y] 3))⟩
      clear htk hc hy H0 hba
      generalize l.take i = T at *
      go_wp2_with (at_builtin; refine wpList_append_lies _ rfl _ _ 39 rfl B 3 ti (.int .i64 0) 1 8 Try.underlying39 hti hz0 hz1 hz2 rfl (by decide) u3 T.length (inX T) rfl HO5.out.1 ⟨wr.heap.size, 0, none⟩ 1 1 [.int .i64 y] rfl rfl HO5.out.2.2 (oneI [y]) (by decide) (by unfold maxLen; omega) (by omega) (by simp; omega) (wr.heap.size + 1) (by simp) ?_; intro g' cap' w8 hown8 hg8 hat8 hlt8)
      have hO8 : On B (.slice (some ⟨g', 0, none⟩) (T.length + 1) cap') (T ++ [y]) w8 := by
        show w8.ownsRow B 3 1 _ (T ++ [y]).length (inX (T ++ [y]))
        rw [List.length_append, show inX (T ++ [y]) = inX T ++ [.int .i64 y] by simp [inX]]
        exact hown8
      have hB8 : Below B w w8 := HO5.out.2.1.grown hg8 (by have := HO5.out.2.1.size; have := HB.out; omega) (fun b e => (HO5.out.1.lt e).1)
      rw [← HTK.out] at hO8
      have HF : Hid (_ ∧ _) := ⟨hO8, hB8⟩
      clear hO8 hB8 hown8 hg8 hat8 HO5 ck
      go_wp2
      go_roundw
      case rel => exact ⟨i + 1, by omega, by go_num, HF.out.1, HF.out.2⟩
      case measure => simp [intOf]; omega
    · obtain rfl : i = n := by omega
      have hF : On B u3 l wr := by
        have := H0.out.1
        rw [List.take_of_length_le (by have := HN.out; omega)] at this
        exact this
      go_wp2
      go_ret
      exact ⟨_, rfl, by rw [HB.out]; exact hF, by rw [HB.out]; exact H0.out.2⟩
end Go.Proofs.Ythkielaicnmaeaa
