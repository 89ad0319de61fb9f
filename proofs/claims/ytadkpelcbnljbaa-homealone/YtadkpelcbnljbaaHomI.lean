/- home: Insert; with. -/
import Derived.Test.YtadkpelcbnljbaaHomC2
import Derived.Test.YtadkpelcbnljbaaShelfS
namespace Go.Proofs.Ytadkpelcbnljbaa
open Go.ChangeShapes Go.WideShapes Go.ChangeAt Go.RowKit
set_option linter.unusedVariables false
set_option linter.unusedSimpArgs false

theorem own_of_cells {w : World} {g n cap base : Nat} {cur : Array Value} {xs : List Value} (hg : w.heap[g]? = some (.cells cur 3)) (hsz : cur.size = cap) (hn : n ≤ cap) (hcm : cap ≤ maxLen) (hb : base ≤ g) (hx : xs.length = n) (hc : ∀ j v, xs[j]? = some v → w.cell? ⟨g, j, none⟩ = some v) : w.ownsRow base 3 1 (.slice (some ⟨g, 0, none⟩) n cap) n xs := by
  refine ⟨by omega, Or.inr ⟨g, cap, cur, rfl, hb, hg, hn, hcm, by omega, ?_⟩⟩
  apply List.ext_getElem?
  intro j
  rw [List.getElem?_take]
  by_cases hj : j < n * 1
  · rw [if_pos hj]
    have h1 : xs[j]? = some xs[j] := List.getElem?_eq_getElem (by omega)
    rw [h1]
    have := hc j _ h1
    rw [cell_of_row _ _ j _ 3 (0, 0) hg] at this
    rw [Array.getElem?_toList]
    exact this
  · rw [if_neg hj]
    exact (List.getElem?_eq_none (by omega)).symm
theorem setCells_obj {T : TypeId} (g : Nat) : ∀ (vs : List Value) (o : Nat) (w : World) (cur : Array Value), w.heap[g]? = some (.cells cur T) → ∃ cur', (w.setCells g o vs).heap[g]? = some (.cells cur' T) ∧ cur'.size = cur.size
  | [], o, w, cur, h => ⟨cur, h, rfl⟩
  | v :: vs, o, w, cur, h => by
    have h2 : (w.setCell ⟨g, o, none⟩ v).heap[g]? = some (.cells (cur.setIfInBounds o v) T) := by
      simp only [World.setCell, Array.getElem?_modify]
      simp [h]
    obtain ⟨cur', e1, e2⟩ := setCells_obj g vs (o + 1) _ _ h2
    exact ⟨cur', e1, by rw [e2]; simp⟩
theorem drewGrown (w : World) (r : Option Nat) : w.grownBy w.drew r := gdrew w r

set_option maxRecDepth 10000 in
set_option maxHeartbeats 1600000 in
theorem insert_any (n0 : Nat) (v : Value) (L1 L2 : List Int) (x : Int) (w : World) (h : On n0 v (L1 ++ L2) w) (hb : n0 ≤ w.heap.size) (hl : (L1 ++ L2).length ≤ 4096) (B : Nat) (hB : w.heap.size = B) :
    Calls Try.prog 49 #[v, .int .i64 (L1.length : Int), .slice (some ⟨B, 0, none⟩) 1 1] (w.alloc (.cells #[.int .i64 x] 3)) fun e w' => ∃ v', e = .returned v' ∧ On n0 v' (L1 ++ x :: L2) w' ∧ w.grownBy w' v.ownBlock ∧ (v'.ownBlock = v.ownBlock ∨ ∀ g, v'.ownBlock = some g → w.heap.size ≤ g) := by
  subst hB
  have hba := below_alloc w (.cells #[.int .i64 x] 3)
  have hH : (w.alloc (.cells #[.int .i64 x] 3)).heap[w.heap.size]? = some (.cells #[.int .i64 x] 3) := heap_alloc_last w _
  have hz : (w.alloc (.cells #[.int .i64 x] 3)).heap.size = w.heap.size + 1 := by simp
  have h' := h.below hba
  generalize hW : w.alloc (.cells #[.int .i64 x] 3) = W1 at *
  clear hW
  have hvs : ∀ j u, [Value.int .i64 x][j]? = some u → W1.cell? ⟨w.heap.size, 0 + j, none⟩ = some u := fun j u hu => by
    rw [cell_of_row _ _ (0 + j) _ 3 (0, 0) hH, Nat.zero_add]
    simpa using hu
  have h1v : ∀ u ∈ [Value.int .i64 x], u.oneCell' = true := by intro u hu; simp at hu; subst hu; rfl
  have hlen : (L1 ++ L2).length = L1.length + L2.length := List.length_append
  have eX : inX (L1 ++ x :: L2) = inX L1 ++ (.int .i64 x :: inX L2) := by simp [inX]
  have eY : inX (L1 ++ L2) = inX L1 ++ inX L2 := by simp [inX]
  have eL : (L1 ++ x :: L2).length = L1.length + 1 + L2.length := by simp; omega
  have hT : Try.lays21_ren.t 3 = 3 := rfl
  rcases h'.form with ⟨rfl, e⟩ | ⟨g, cap, rfl, q1, q2, q3, q4, q5⟩
  · -- nil
    have e1 : L1 = [] := by cases L1 with | nil => rfl | cons a b => simp at e
    have e2 : L2 = [] := by cases L2 with | nil => rfl | cons a b => rw [e1] at e; simp at e
    subst e1 e2
    have hI := Any2.slices_Insert_int_end_grow Try.lays21 none 0 0 w.heap.size 0 1 1 [] [.int .i64 x] W1 (by decide) (by decide) (by decide) (by decide) rfl rfl (fun _ => rfl) (fun a ha => by cases ha) hvs h1v
    simp only [hT] at hI
    have hg := grownCap_ge W1 (0 + 1) 0 3
    have hm := grownCap_le_maxLen W1 (0 + 1) 0 3 (by unfold maxLen; omega)
    generalize grownCap W1 (0 + 1) 0 3 = G at *
    refine Calls.mono hI (fun e w' ⟨he, hw'⟩ => ⟨_, he, ?_, ?_, ?_⟩)
    · unfold On
      have hh : w'.heap[W1.heap.size]? = some (.cells (([] ++ [Value.int .i64 x]).toArray ++ Builtin.zeroCells (Value.int .i64 0).cells (G - (0 + 1))) 3) := by rw [hw']; exact heap_alloc_last W1.drew _
      exact own_of_cells hh (by simp [Builtin.zeroCells, Value.cells]; omega) hg hm (by omega) rfl (fun j u hu => by
        rw [cell_of_row _ _ j _ 3 (0, 0) hh]
        have hj := (List.getElem?_eq_some_iff.1 hu).1
        simp [inX] at hj
        subst hj
        simp [inX] at hu
        rw [← hu]
        rw [Array.getElem?_append_left (by simp)]
        rfl)
    · have hbb : Below w.heap.size w w' := by
        rw [hw']
        exact (hba.drew).alloc (by have := hba.size; simpa using this) _
      exact gbelow hbb _
    · refine Or.inr fun g hg => ?_
      simp [Value.ownBlock] at hg
      omega
  · have hcs : ∀ j u, (inX (L1 ++ L2))[j]? = some u → W1.cell? ⟨g, 0 + j, none⟩ = some u := fun j u hu => by
      unfold inX at hu
      rw [List.getElem?_map] at hu
      cases hq : (L1 ++ L2)[j]? with
      | none => rw [hq] at hu; cases hu
      | some y =>
        rw [hq] at hu
        rw [Nat.zero_add, q5 j y hq]
        exact hu
    have hgl : g < w.heap.size := by
      rcases h.form with ⟨e, _⟩ | ⟨g', cap', e, _, q, _⟩
      · cases e
      · have : g = g' := by cases e; rfl
        omega
    obtain ⟨cur, hcur, hcsz⟩ : ∃ cur, W1.heap[g]? = some (.cells cur 3) ∧ cur.size = cap := by
      rcases h'.2 with ⟨e, _⟩ | ⟨g', cap', cur, e, _, hg, _, _, hcs, _⟩
      · cases e
      · cases e
        exact ⟨cur, hg, by omega⟩
    have hIX : (inX (L1 ++ L2)).length = (L1 ++ L2).length := inX_len _
    have hone := oneI (L1 ++ L2)
    have hcut : ∀ j, j < L1.length → (inX (L1 ++ L2))[j]? = (inX (L1 ++ x :: L2))[j]? := fun j hj => by
      rw [eX, eY, List.getElem?_append_left (by rw [inX_len]; exact hj), List.getElem?_append_left (by rw [inX_len]; exact hj)]
    have hat : (inX (L1 ++ x :: L2))[L1.length]? = some (.int .i64 x) := by
      rw [eX, List.getElem?_append_right (by rw [inX_len]; exact Nat.le_refl _), inX_len, Nat.sub_self]
      rfl
    have hbeh : ∀ j, (inX (L1 ++ x :: L2))[L1.length + 1 + j]? = ((inX (L1 ++ L2)).drop L1.length)[j]? := fun j => by
      rw [eX, eY, List.getElem?_append_right (by rw [inX_len]; omega), inX_len, show L1.length + 1 + j - L1.length = j + 1 by omega, List.getElem?_cons_succ, List.drop_append_of_le_length (by rw [inX_len]; exact Nat.le_refl _), List.drop_of_length_le (by rw [inX_len]; exact Nat.le_refl _)]
      rfl
    have hXl : (inX (L1 ++ x :: L2)).length = L1.length + 1 + L2.length := by rw [inX_len, eL]
    have hdl : ((inX (L1 ++ L2)).drop L1.length).length = L2.length := by rw [List.length_drop, hIX, hlen]; omega
    clear h eX eY
    rw [hlen] at hIX hl q3 ⊢
    by_cases hroom : L1.length + L2.length + 1 ≤ cap
    · -- room
      have hsp : ∀ (w' : World) (c' : Array Value), w'.heap[g]? = some (.cells c' 3) → c'.size = cap → ∀ j, j < L1.length + L2.length + 1 → (w'.cell? ⟨g, j, none⟩).isSome = true ∧ w'.frozen? ⟨g, j, none⟩ = false := fun w' c' hc' hs' j hj => by
        refine ⟨?_, ?_⟩
        · rw [cell_of_row _ _ j _ 3 (0, 0) hc', Array.getElem?_eq_getElem (by omega)]
          rfl
        · simp [World.frozen?, hc']
      have hsp1 := hsp W1 cur hcur hcsz
      by_cases h2 : L2.length = 0
      · have hI := Any2.slices_Insert_int_end_room Try.lays21 g 0 (L1.length + L2.length) cap w.heap.size 0 1 1 [.int .i64 x] W1 (by decide) (by omega) (by unfold maxLen at q4; omega) rfl (fun j hj => by rw [Nat.zero_add]; exact (hsp1 _ (by omega)).1) (fun j hj => by rw [Nat.zero_add]; exact (hsp1 _ (by omega)).2) hvs h1v
        rw [h2, Nat.add_zero] at hI ⊢
        refine Calls.mono hI (fun e w' ⟨he, hw'⟩ => ⟨_, he, ?_, ?_, Or.inl rfl⟩)
        · unfold On
          obtain ⟨cur', k1, k2⟩ := setCells_obj g [.int .i64 x] (0 + L1.length) W1 cur hcur
          rw [eL, h2]
          have hw2 : w'.heap[g]? = some (.cells cur' 3) := by rw [hw']; exact k1
          exact own_of_cells hw2 (by omega) (by omega) q4 q1 (by omega) (fun j u hu => by
            have hj := (List.getElem?_eq_some_iff.1 hu).1
            rw [hw']
            by_cases e : j = L1.length
            · subst e
              have := World.cell?_setCells_in g [Value.int .i64 x] (0 + L1.length) W1 (fun j hj => by simp at hj; subst hj; simpa using (hsp1 L1.length (by omega)).1) 0 (by simp)
              rw [hat] at hu
              cases hu
              simpa using this
            · rw [World.cell?_setCells_out g _ _ _ _ (fun _ _ => Or.inl (by show j < 0 + L1.length; omega))]
              have := hcs j u (by rw [hcut j (by omega)]; exact hu)
              rwa [Nat.zero_add] at this)
        · have : W1.grownBy w' (some g) := by rw [hw']; exact gsetCells _ _ _ _
          exact gtrans (gbelow hba _) this
      · have hI := Any2.slices_Insert_int_shift Try.lays21 g 0 (L1.length + L2.length) cap L1.length w.heap.size 0 1 1 (inX (L1 ++ L2)) [.int .i64 x] W1 (by omega) (by decide) (by omega) (by unfold maxLen at q4; omega) (by omega) hIX rfl hcs (fun j hj => by rw [Nat.zero_add]; exact (hsp1 _ (by omega)).1) (fun j hj => by rw [Nat.zero_add]; exact (hsp1 _ (by omega)).2) hvs hone h1v 3 3 1 cap (by simp [World.shape?, hH]) (by simp [World.shape?, hcur, hcsz]) (by omega) (by simp [World.frozen?, hH]) (by simp [World.frozen?, hH])
        refine Calls.mono hI (fun e w' ⟨he, hw'⟩ => ⟨_, he, ?_, ?_, Or.inl rfl⟩)
        · unfold On
          obtain ⟨cur1, k1, k2⟩ := setCells_obj g ((inX (L1 ++ L2)).drop L1.length) (0 + (L1.length + 1)) W1.drew cur hcur
          obtain ⟨cur', k3, k4⟩ := setCells_obj g [.int .i64 x] (0 + L1.length) _ cur1 k1
          rw [eL]
          have hw2 : w'.heap[g]? = some (.cells cur' 3) := by rw [hw']; exact k3
          have hsp2 := hsp _ cur1 k1 (by omega)
          rw [show L1.length + L2.length + 1 = L1.length + 1 + L2.length by omega]
          exact own_of_cells hw2 (by omega) (by omega) q4 q1 hXl (fun j u hu => by
            have hj := (List.getElem?_eq_some_iff.1 hu).1
            rw [hw']
            by_cases e : j = L1.length
            · subst e
              have := World.cell?_setCells_in g [Value.int .i64 x] (0 + L1.length) (W1.drew.setCells g (0 + (L1.length + 1)) ((inX (L1 ++ L2)).drop L1.length)) (fun j hj => by simp at hj; subst hj; simpa using (hsp2 L1.length (by omega)).1) 0 (by simp)
              rw [hat] at hu
              cases hu
              simpa using this
            · rw [World.cell?_setCells_out g _ _ _ _ (fun _ _ => by show j < 0 + L1.length ∨ 0 + L1.length + 1 ≤ j; omega)]
              by_cases e2 : j < L1.length
              · rw [World.cell?_setCells_out g _ _ _ _ (fun _ _ => Or.inl (by show j < 0 + (L1.length + 1); omega))]
                have := hcs j u (by rw [hcut j e2]; exact hu)
                rwa [Nat.zero_add] at this
              · obtain ⟨k, rfl⟩ : ∃ k, j = L1.length + 1 + k := ⟨j - L1.length - 1, by omega⟩
                rw [hbeh k] at hu
                have hk := (List.getElem?_eq_some_iff.1 hu).1
                have := World.cell?_setCells_in g ((inX (L1 ++ L2)).drop L1.length) (0 + (L1.length + 1)) W1.drew (fun j hj => by rw [hdl] at hj; exact (hsp1 (0 + (L1.length + 1) + j) (by omega)).1) k hk
                rw [Nat.zero_add] at this ⊢
                rw [this, ← List.getElem?_eq_getElem hk]
                exact hu)
        · have : W1.grownBy w' (some g) := by rw [hw']; exact gtrans (gtrans (gdrew _ _) (gsetCells _ _ _ _)) (gsetCells _ _ _ _)
          exact gtrans (gbelow hba _) this
    · by_cases h2 : L2.length = 0
      · have hI := Any2.slices_Insert_int_end_grow Try.lays21 (some ⟨g, 0, none⟩) (L1.length + L2.length) cap w.heap.size 0 1 1 (inX (L1 ++ L2)) [.int .i64 x] W1 (by decide) q3 (by omega) (by omega) hIX rfl (fun e => by cases e) (fun a ha j u hu => by cases ha; rw [Addr.add_lit]; exact hcs j u hu) hvs h1v
        simp only [hT] at hI
        have hg := grownCap_ge W1 (L1.length + L2.length + 1) cap 3
        have hm := grownCap_le_maxLen W1 (L1.length + L2.length + 1) cap 3 (by unfold maxLen; omega)
        generalize grownCap W1 (L1.length + L2.length + 1) cap 3 = G at *
        rw [h2, Nat.add_zero] at hI hg ⊢
        refine Calls.mono hI (fun e w' ⟨he, hw'⟩ => ⟨_, he, ?_, ?_, Or.inr fun g' hg' => by simp [Value.ownBlock] at hg'; omega⟩)
        · unfold On
          have hh : w'.heap[W1.heap.size]? = some (.cells ((inX (L1 ++ L2) ++ [Value.int .i64 x]).toArray ++ Builtin.zeroCells (Value.int .i64 0).cells (G - (L1.length + 1))) 3) := by rw [hw']; exact heap_alloc_last W1.drew _
          rw [eL, h2]
          exact own_of_cells hh (by simp [Builtin.zeroCells, Value.cells]; omega) hg hm (by omega) (by omega) (fun j u hu => by
            have hj := (List.getElem?_eq_some_iff.1 hu).1
            rw [cell_of_row _ _ j _ 3 (0, 0) hh, Array.getElem?_append_left (by simp; omega), List.getElem?_toArray]
            by_cases e : j = L1.length
            · subst e
              rw [List.getElem?_append_right (by omega), hIX, h2, Nat.add_zero, Nat.sub_self]
              rw [hat] at hu
              exact hu
            · rw [List.getElem?_append_left (by omega), hcut j (by omega)]
              exact hu)
        · have hbb : Below w.heap.size w w' := by
            rw [hw']
            exact (hba.drew).alloc (by have := hba.size; simpa using this) _
          exact gbelow hbb _
      · have hI := Any2.slices_Insert_int_grow Try.lays21 g 0 (L1.length + L2.length) cap L1.length w.heap.size 0 1 1 (inX (L1 ++ L2)) [.int .i64 x] W1 (by omega) (by decide) q3 (by omega) (by omega) hIX rfl hcs hvs hone h1v
        simp only [hT] at hI
        have hg := grownCap_ge W1 (L1.length + L2.length + 1) cap 3
        have hm := grownCap_le_maxLen W1 (L1.length + L2.length + 1) cap 3 (by unfold maxLen; omega)
        generalize grownCap W1 (L1.length + L2.length + 1) cap 3 = G at *
        refine Calls.mono hI (fun e w' ⟨he, hw'⟩ => ⟨_, he, ?_, ?_, Or.inr fun g' hg' => by simp [Value.ownBlock] at hg'; omega⟩)
        · unfold On
          generalize hROW : (((inX (L1 ++ L2)).take L1.length).toArray ++ Builtin.zeroCells (Value.int .i64 0).cells (L1.length + L2.length + 1 - L1.length) ++ Builtin.zeroCells (Value.int .i64 0).cells (G - (L1.length + L2.length + 1))) = ROW at hw'
          have hRs : ROW.size = G := by rw [← hROW]; simp [Builtin.zeroCells, Value.cells, hIX]; omega
          have hRl : ∀ j, j < L1.length → ROW[j]? = (inX (L1 ++ L2))[j]? := fun j hj => by
            rw [← hROW, Array.getElem?_append_left (by simp [Builtin.zeroCells, Value.cells, hIX]; omega), Array.getElem?_append_left (by simp [hIX]; omega), List.getElem?_toArray, List.getElem?_take, if_pos hj]
          have h0 : (W1.alloc (.cells ROW 3)).drew.heap[W1.heap.size]? = some (.cells ROW 3) := heap_alloc_last W1 _
          obtain ⟨cur1, k1, k2⟩ := setCells_obj W1.heap.size [.int .i64 x] L1.length _ ROW h0
          obtain ⟨cur', k3, k4⟩ := setCells_obj W1.heap.size ((inX (L1 ++ L2)).drop L1.length) (L1.length + 1) ((W1.alloc (.cells ROW 3)).drew.setCells W1.heap.size L1.length [Value.int .i64 x]).drew cur1 k1
          have hspn : ∀ (w' : World) (c' : Array Value), w'.heap[W1.heap.size]? = some (.cells c' 3) → c'.size = G → ∀ j, j < L1.length + L2.length + 1 → (w'.cell? ⟨W1.heap.size, j, none⟩).isSome = true := fun w' c' hc' hs' j hj => by
            rw [cell_of_row _ _ j _ 3 (0, 0) hc', Array.getElem?_eq_getElem (by omega)]
            rfl
          have hs0 := hspn _ ROW h0 hRs
          have hs1 := hspn _ cur1 k1 (by omega)
          rw [eL]
          have hw2 : w'.heap[W1.heap.size]? = some (.cells cur' 3) := by rw [hw']; exact k3
          rw [show L1.length + L2.length + 1 = L1.length + 1 + L2.length by omega]
          exact own_of_cells hw2 (by omega) (by omega) hm (by omega) hXl (fun j u hu => by
            have hj := (List.getElem?_eq_some_iff.1 hu).1
            rw [hw']
            by_cases e2 : j < L1.length + 1
            · rw [World.cell?_setCells_out W1.heap.size _ _ _ _ (fun _ _ => Or.inl (by show j < L1.length + 1; omega))]
              show World.cell? (World.setCells _ _ _ _) _ = _
              by_cases e : j = L1.length
              · subst e
                have := World.cell?_setCells_in W1.heap.size [Value.int .i64 x] L1.length (W1.alloc (.cells ROW 3)).drew (fun j hj => by simp at hj; subst hj; simpa using hs0 L1.length (by omega)) 0 (by simp)
                rw [hat] at hu
                cases hu
                simpa using this
              · rw [World.cell?_setCells_out W1.heap.size _ _ _ _ (fun _ _ => Or.inl (by show j < L1.length; omega)), cell_of_row _ _ j _ 3 (0, 0) h0, hRl j (by omega), hcut j (by omega)]
                exact hu
            · obtain ⟨k, rfl⟩ : ∃ k, j = L1.length + 1 + k := ⟨j - L1.length - 1, by omega⟩
              rw [hbeh k] at hu
              have hk := (List.getElem?_eq_some_iff.1 hu).1
              have := World.cell?_setCells_in W1.heap.size ((inX (L1 ++ L2)).drop L1.length) (L1.length + 1) ((W1.alloc (.cells ROW 3)).drew.setCells W1.heap.size L1.length [Value.int .i64 x]).drew (fun j hj => by rw [hdl] at hj; exact hs1 (L1.length + 1 + j) (by omega)) k hk
              rw [this, ← List.getElem?_eq_getElem hk]
              exact hu)
        · have hg1 : ∀ R, W1.grownBy ((((W1.alloc R).drew.setCells W1.heap.size L1.length [Value.int .i64 x]).drew).setCells W1.heap.size (L1.length + 1) ((inX (L1 ++ L2)).drop L1.length)) (some W1.heap.size) := fun R => gtrans (gtrans (gtrans (gtrans (galloc W1 R _) (gdrew _ _)) (gsetCells _ _ _ _)) (gdrew _ _)) (gsetCells _ _ _ _)
          have hbb : Below w.heap.size w w' := by
            rw [hw']
            exact hba.grown (hg1 _) hba.size (fun k e => by cases e; exact hba.size)
          exact gbelow hbb _

set_option maxRecDepth 10000 in
set_option maxHeartbeats 1600000 in
theorem with_any (n0 : Nat) (v : Value) (l : List Int) (x : Int) (hu : W.Up1 l) (hl : l.length ≤ 4096) (w : World) (h : On n0 v l w) (hb : n0 ≤ w.heap.size) :
    Calls Try.prog 43 #[v, .int .i64 x] w fun e w' => ∃ v', e = .returned v' ∧ On n0 v' (W.ins x l) w' ∧ w.grownBy w' v.ownBlock ∧ (v'.ownBlock = v.ownBlock ∨ ∀ g, v'.ownBlock = some g → w.heap.size ≤ g) := by
  obtain ⟨L1, L2, h1, h2, he⟩ := W.up_split x l hu
  obtain ⟨s, hs, hL⟩ := h.li hl
  have hlo : ∀ j y, j < L1.length → l[j]? = some y → y < x := fun j y hj hy => by
    have : L1[j]? = some y := by
      rcases he with e | e
      all_goals
        rw [e, List.getElem?_append_left hj] at hy
        exact hy
    exact h1 y (List.mem_of_getElem? this)
  have hhi : ∀ j y, L1.length ≤ j → l[j]? = some y → x ≤ y := fun j y hj hy => by
    rcases he with e | e
    · rw [e, List.getElem?_append_right hj] at hy
      have := h2 y (List.mem_of_getElem? hy)
      omega
    · rw [e, List.getElem?_append_right hj] at hy
      rcases List.mem_cons.1 (List.mem_of_getElem? hy) with rfl | hy
      · exact Int.le_refl _
      · have := h2 y hy
        omega
  rcases he with e | e
  · have hS := search_any s l w hL x L1.length (by rw [e]; simp) hlo hhi false (fun y hy => by
      rw [e, List.getElem?_append_right (Nat.le_refl _)] at hy
      have := h2 y (List.mem_of_getElem? hy)
      constructor
      · intro q; omega
      · intro q; cases q) (fun _ => rfl)
    rw [← hs] at hS
    have HW : Hid (W.ins x l = L1 ++ x :: L2) := by rw [e]; exact W.ins_mid h1 h2
    have HS : Hid (Calls _ _ _ _ _) := hS
    have hI := insert_any n0 v L1 L2 x w (by rw [← e]; exact h) hb (by rw [← e]; exact hl) w.heap.size rfl
    have HI : Hid (Calls _ _ _ _ _) := hI
    clear hS h hL hs hlo hhi e h1 h2 hI
    go_enter Try.func43, Try.ntmps43
    go_wp2_with (fail)
    refine HS.out.mono ?_
    rintro e w' ⟨rfl, rfl⟩
    go_wp2_with (fail)
    refine HI.out.mono ?_
    rintro e w' ⟨v', rfl, ho, hg, hv⟩
    have HO : Hid (_ ∧ _ ∧ _) := ⟨ho, hg, hv⟩
    clear ho hg hv
    go_wp2
    go_ret
    refine ⟨v', rfl, ?_, HO.out.2.1, HO.out.2.2⟩
    rw [HW.out]
    exact HO.out.1
  · have hS := search_any s l w hL x L1.length (by rw [e]; simp) hlo hhi true (fun y hy => by
      rw [e, List.getElem?_append_right (Nat.le_refl _), Nat.sub_self] at hy
      simp at hy
      simp [hy]) (fun q => by rw [e] at q; simp at q)
    rw [← hs] at hS
    have hw : W.ins x l = l := W.ins_in x l hu (by rw [e]; simp)
    have HS : Hid (Calls _ _ _ _ _) := hS
    have HO : Hid (On n0 v (W.ins x l) w) := by rw [hw]; exact h
    clear hS h hL hs hlo hhi hw e h1 h2
    go_enter Try.func43, Try.ntmps43
    go_wp2_with (fail)
    refine HS.out.mono ?_
    rintro e w' ⟨rfl, rfl⟩
    go_wp2
    go_ret
    exact ⟨v, rfl, HO.out, ⟨rfl, rfl, rfl, Nat.le_refl _, fun _ _ _ => rfl⟩, Or.inl rfl⟩
end Go.Proofs.Ytadkpelcbnljbaa
