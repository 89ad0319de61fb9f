/- the document's cache: Drop. -/
import Derived.Test.YtlindkhmjkionaaDoorDacB
import Derived.Test.YtlindkhmjkionaaDoorRegLast
namespace Go.Proofs.YtlindkhmjkionaaDoor
open Go.ChangeShapes Go.WideShapes Go.ChangeAt Go.RowKit
set_option linter.unusedVariables false
set_option linter.unusedSimpArgs false
def mkX (x y : Value) : Sem Value := Instr.makeSlice 52 x y
theorem mkX_eq (x y : Value) : Instr.makeSlice 52 x y = mkX x y := rfl
attribute [local go_sem ↓] ldE_eq stE_eq bdE_eq bsE_eq ldX_eq stX_eq bdX_eq bsX_eq mkX_eq
variable {n0 cb sb K : Nat} {ways : Int} {sv sv' sv'' : Nat → Value} {S S' : Nat → List W.En} {w w' w'' : World}
theorem infoX : (Tryd.prog.info? 42).map (fun i => (i.zero, i.size, i.bytes)) = some (some (.agg zEn), 6, 32) := by kernel_rfl
theorem make_x (w : World) : (mkX (.int .i64 0) (.int .i64 8)).run Tryd.prog w = .ok (.slice (some ⟨w.heap.size, 0, none⟩) 0 8) (w.alloc (.cells (madeCells zEn (8 * 6)) 42)) := by
  obtain ⟨i, hi, hzz⟩ := Option.map_eq_some_iff.1 infoX
  simp only [Prod.mk.injEq] at hzz
  obtain ⟨hz, hs, hb⟩ := hzz
  have hr := run_make (P := Tryd.prog) w 52 42 i _ Tryd.underlying52 hi hz .i64 .i64 0 8 (by omega) (by omega) (by rw [hb]; omega) (by omega)
  simp only [hs] at hr
  exact hr
theorem made_x (w : World) (base : Nat) (hb : base ≤ w.heap.size) : (w.alloc (.cells (madeCells zEn (8 * 6)) 42)).ownsRow base 42 6 (.slice (some ⟨w.heap.size, 0, none⟩) 0 8) 0 [] :=
  World.ownsRow_made w _ 8 hb (by unfold maxLen; omega) (by rw [size_madeCells])
theorem own_takeX {w : World} {base g n cap k : Nat} {xs : List Value} (h : w.ownsRow base 42 6 (.slice (some ⟨g, 0, none⟩) n cap) n xs) (hk : k ≤ n) : w.ownsRow base 42 6 (.slice (some ⟨g, 0, none⟩) k cap) k (xs.take (k * 6)) := by
  rcases h.2 with ⟨h1, h2⟩ | ⟨g', cap', cur, h1, hbg, hg, hnc, hcm, hcs, htk⟩
  · cases h1
  · cases h1
    refine ⟨by rw [List.length_take, h.1]; omega, Or.inr ⟨g, cap, cur, rfl, hbg, hg, by omega, hcm, hcs, ?_⟩⟩
    rw [← htk, List.take_take, Nat.min_eq_left (by omega)]

theorem dt_form (H : Dt n0 cb sb K ways sv S w) {i : Nat} (hi : i < K) (hne : 0 < (S i).length) : ∃ g cap, sv i = .slice (some ⟨g, 0, none⟩) (S i).length cap ∧ (S i).length ≤ cap ∧ cap ≤ maxLen := by
  rcases (H.o i hi).2 with ⟨h1, h2⟩ | ⟨g, cap, cur, h1, hbg, hg, hnc, hcm, hcs, htk⟩
  · omega
  · exact ⟨g, cap, h1, hnc, hcm⟩
theorem rdrop_neg (x : Int) (hx : x < 0) (w : World) : Calls Tryd.prog 16 #[.pointer (some ⟨cb, 0, none⟩), .int .i64 x] w fun e w' => e = .returned (.bool false) ∧ w = w' := by
  go_enter Tryd.func16, Tryd.ntmps16
  go_wp2_with (fail)
  refine (rfind_neg x hx _).mono ?_
  rintro e w1 ⟨rfl, rfl⟩
  go_wp2
  go_ret
  exact ⟨rfl, rfl⟩
theorem rdrop_miss (H : Dt n0 cb sb K ways sv S w) (hK : 0 < K) (hS : ∀ i, i < K → (S i).length ≤ 4096) (x : Int) (hx : 0 ≤ x) (hq : W.has (S (W.ix K x)) x = false) :
    Calls Tryd.prog 16 #[.pointer (some ⟨cb, 0, none⟩), .int .i64 x] w fun e w' => e = .returned (.bool false) ∧ w = w' := by
  have HF : Hid (Calls _ _ _ _ _) := rfind_any H hK hS x hx
  rw [W.pl_no (W.has_false hq)] at HF
  clear hq H
  go_enter Tryd.func16, Tryd.ntmps16
  go_wp2_with (fail)
  refine HF.out.mono ?_
  rintro e w1 ⟨rfl, rfl⟩
  go_wp2
  go_ret
  exact ⟨rfl, rfl⟩

set_option maxRecDepth 10000 in
set_option maxHeartbeats 1600000 in
theorem rdrop_hit (H : Dt n0 cb sb K ways sv S w) (hK : 0 < K) (hS : ∀ i, i < K → (S i).length ≤ 8) (x : Int) (hx : 0 ≤ x) (hq : W.has (S (W.ix K x)) x = true) :
    Calls Tryd.prog 16 #[.pointer (some ⟨cb, 0, none⟩), .int .i64 x] w fun e w' => e = .returned (.bool true) ∧ ∃ sv', Dt n0 cb sb K ways sv' (W.updS S (W.ix K x) (W.drp (S (W.ix K x)) x)) w' ∧ Du sb K sv sv' w w' := by
  have hi := W.ix_lt hK x
  have hF := rfind_any H hK (fun i h => Nat.le_trans (hS i h) (by omega)) x hx
  obtain ⟨L1, f, L2, hs, hfx, h1⟩ := W.split _ x hq
  have hpl : W.pl (S (W.ix K x)) x = L1.length := by rw [hs, ← hfx]; exact W.pl_mid L1 L2 f (by rw [hfx]; exact h1)
  rw [hpl] at hF
  have HF : Hid (Calls _ _ _ _ _) := hF
  have hdr : W.drp (S (W.ix K x)) x = L1 ++ L2 := by rw [hs, ← hfx, W.drp_mid L1 L2 f (by rw [hfx]; exact h1)]
  rw [hdr]
  have hn : (L1 ++ f :: L2).length = L1.length + 1 + L2.length := by simp; omega
  have hl := hS _ hi
  rw [hs] at hl
  obtain ⟨g, cap, hv, hcap, hcm⟩ := dt_form H hi (by rw [hs]; omega)
  rw [hs] at hv hcap
  obtain ⟨n, hnn⟩ : ∃ n, (L1 ++ f :: L2).length = n := ⟨_, rfl⟩
  rw [hnn] at hv hcap hn hl
  obtain ⟨i, hi1⟩ : ∃ i, L1.length = i := ⟨_, rfl⟩
  have HN : Hid ((L1 ++ f :: L2).length = n ∧ n = i + 1 + L2.length ∧ L1.length = i) := ⟨hnn, by rw [← hi1]; exact hn, hi1⟩
  rw [hi1] at HF
  have hown := H.o _ hi
  rw [hv, hs, hnn] at hown
  have HOWN : Hid (w.ownsRow n0 42 6 (.slice (some ⟨g, 0, none⟩) n cap) n (enX (L1 ++ f :: L2))) := hown
  have HH : Hid (Dt n0 cb sb K ways sv S w) := H
  have HV : Hid (sv (W.ix K x) = .slice (some ⟨g, 0, none⟩) n cap) := hv
  have hcs := H.cs
  have c2 := H.c2
  have hin : i < n := by have := HN.out; omega
  have eX : enX (L1 ++ f :: L2) = enX L1 ++ (enL f ++ enX L2) := by simp [enX]
  have hlen1 : (enX L1).length = i * 6 := by rw [enX_len, hi1]
  have hlen2 : (enX L2).length = (n - (i + 1)) * 6 := by rw [enX_len]; have := HN.out; omega
  have o1 : ∀ w', Below w.heap.size w w' → w'.ownsRow n0 42 6 (.slice (some ⟨g, 0, none⟩) i cap) i (enX L1) := fun w' hb => by
    have q := own_takeX (own_below HOWN.out hb) (k := i) (by omega)
    rw [eX, List.take_append_of_le_length (by omega), List.take_of_length_le (by omega)] at q
    exact q
  obtain ⟨ad, had⟩ : ∃ ad : Addr, (if cap = i + 1 then some (⟨g, 0, none⟩ : Addr) else some ⟨g, (i + 1) * 6, none⟩) = some ad := by
    by_cases e : cap = i + 1
    · exact ⟨_, if_pos e⟩
    · exact ⟨_, if_neg e⟩
  have hnews : ∀ w', Below w.heap.size w w' → ∀ j u, (enX L2)[j]? = some u → w'.cell? (ad.add j) = some u := fun w' hb j u hu => by
    have hj := (List.getElem?_eq_some_iff.1 hu).1
    rw [if_neg (by omega)] at had
    cases had
    rw [Addr.add_mid, (own_below HOWN.out hb).cellAt _ (by omega), eX, List.getElem?_append_right (by omega), List.getElem?_append_right (by rw [enL_len]; omega), enL_len, hlen1, show (i + 1) * 6 + j - i * 6 - 6 = j by omega]
    exact hu
  have HO1 : Hid (_) := o1
  have HNW : Hid (_ ∧ (enX L2).length = (n - (i + 1)) * 6 ∧ (enX L1).length = i * 6) := ⟨hnews, hlen2, hlen1⟩
  have HAD : Hid ((if cap = i + 1 then some (⟨g, 0, none⟩ : Addr) else some ⟨g, (i + 1) * 6, none⟩) = some ad) := had
  have HSB : Hid (∀ w', Below w.heap.size w w' → w'.cell? ⟨sb, W.ix K x, none⟩ = some (.slice (some ⟨g, 0, none⟩) n cap) ∧ w'.frozen? ⟨sb, W.ix K x, none⟩ = false ∧ w'.cell? ⟨cb, 2, none⟩ = some (.slice (some ⟨sb, 0, none⟩) K K)) := fun w' hb => by
    have hD := HH.out.below hb
    have h1 := hD.s.c _ hi
    rw [HV.out] at h1
    exact ⟨h1, hD.s.fz _, hD.c2⟩
  obtain ⟨ti, hti, hzz⟩ := Option.map_eq_some_iff.1 infoX
  simp only [Prod.mk.injEq] at hzz
  obtain ⟨hz0, hz1, hz2⟩ := hzz
  have hn0 : n0 ≤ w.heap.size := by have := H.n0s; have := H.s.lt; omega
  have HEX : Hid (enX (L1 ++ L2) = enX L1 ++ enX L2) := by show enX (L1 ++ L2) = _; simp [enX]
  clear H hs hq hfx h1 hdr hv hn hnn hi1 hown eX hlen1 hlen2 o1 had hnews hpl hF hS
  generalize hgx : W.ix K x = ix at *
  have HGX : Hid (W.ix K x = ix) := hgx
  clear hgx
  have hix' : (ix : Int) < K := by omega
  unfold maxLen at hcm
  have b0 : (0 : Int) ≤ i := by omega
  have b2 : (i : Int) + 1 ≤ n := by omega
  have b3 : (n : Int) ≤ cap := by omega
  have b4 : (i : Int) ≤ cap := by omega
  have b5 : (i : Int) + 1 ≤ cap := by omega
  have b6 : (0 : Int) ≤ (i : Int) + 1 := by omega
  go_enter Tryd.func16, Tryd.ntmps16
  go_wp2_with (fail)
  refine HF.out.mono ?_
  rintro e w1 ⟨rfl, rfl⟩
  go_wp2_with (fail)
  obtain ⟨OM, hOM, hmk⟩ : ∃ o : Obj, Hid (o = (.cells (madeCells zEn (8 * 6)) 42)) ∧ ∀ w, (mkX (.int .i64 0) (.int .i64 8)).run Tryd.prog w = .ok (.slice (some ⟨w.heap.size, 0, none⟩) 0 8) (w.alloc o) := ⟨_, rfl, fun w => make_x w⟩
  have hwr : IntKind.i64.wrap ((i : Int) + 1) = (i : Int) + 1 := IntWalk.i64_in ((i : Int) + 1) (by omega)
  have s0 := (HSB.out w (Below.refl _ _)).1
  have s1 := (HSB.out w.drew (Below.refl _ _).drew).1
  have s2 : ∀ o, (w.alloc o).drew.cell? ⟨sb, ix, none⟩ = some (.slice (some ⟨g, 0, none⟩) n cap) := fun o => (HSB.out _ (below_alloc w o).drew).1
  have s3 : ∀ o, (w.drew.alloc o).cell? ⟨sb, ix, none⟩ = some (.slice (some ⟨g, 0, none⟩) n cap) := fun o => (HSB.out _ ((Below.refl _ _).drew.alloc (Nat.le_refl _) o)).1
  have s4 : ∀ o, (w.alloc o).cell? ⟨sb, ix, none⟩ = some (.slice (some ⟨g, 0, none⟩) n cap) := fun o => (HSB.out _ (below_alloc w o)).1
  clear s0 s1 s2 s3 s4
  have hcd : (cap = i + 1) = True ∨ (cap = i + 1) = False := by
    by_cases e : cap = i + 1
    · exact Or.inl (eq_true e)
    · exact Or.inr (eq_false e)
  rcases hcd with hcd | hcd
  all_goals
    refine wp_region_noPanic ?_
    refine wp_region_last (fun w' => w'.cell? ⟨cb, 2, none⟩ = some (.slice (some ⟨sb, 0, none⟩) K K) ∧ w'.cell? ⟨sb, ix, none⟩ = some (.slice (some ⟨g, 0, none⟩) n cap)) 28 _ (by kernel_rfl) rfl rfl (by kernel_rfl) ⟨(HSB.out _ (Below.refl _ _).drew).2.2, (HSB.out _ (Below.refl _ _).drew).1⟩ (fun hHeld => ?_)
    refine wpAnyH_take (i := 0) (oi := _) (v := ?_) rfl (by kernel_rfl) (by kernel_rfl) (by kernel_rfl) (fun _ _ _ h => h) (Or.inl ⟨by rfl, ?_⟩) (by assumption) ?_
    rotate_left
    · intro w hSw
      (try dsimp only at hSw)
      obtain ⟨hS1, hS2⟩ := hSw
      go_simp
      (try with_reducible rfl)
    (try simp only [Act.put, List.setIfInBounds_toArray, List.set_cons_zero, List.set_cons_succ, List.getElem_toArray, List.getElem_cons_zero, List.getElem_cons_succ])
    refine wpAnyH_take (i := 1) (oi := _) (v := ?_) rfl (by kernel_rfl) (by kernel_rfl) (by kernel_rfl) (fun _ _ _ h => h) (Or.inl ⟨by rfl, ?_⟩) (by assumption) ?_
    rotate_left
    · intro w hSw
      (try dsimp only at hSw)
      obtain ⟨hS1, hS2⟩ := hSw
      go_simp
      (try with_reducible rfl)
    (try simp only [Act.put, List.setIfInBounds_toArray, List.set_cons_zero, List.set_cons_succ, List.getElem_toArray, List.getElem_cons_zero, List.getElem_cons_succ])
    refine wpAnyH_take (i := 2) (oi := _) (v := ?_) rfl (by kernel_rfl) (by kernel_rfl) (by kernel_rfl) (fun _ _ _ h => h) (Or.inl ⟨by rfl, ?_⟩) (by assumption) ?_
    rotate_left
    · intro w hSw
      (try dsimp only at hSw)
      obtain ⟨hS1, hS2⟩ := hSw
      go_simp
      (try with_reducible rfl)
    (try simp only [Act.put, List.setIfInBounds_toArray, List.set_cons_zero, List.set_cons_succ, List.getElem_toArray, List.getElem_cons_zero, List.getElem_cons_succ])
    refine wpAnyH_take (i := 3) (oi := _) (v := ?_) rfl (by kernel_rfl) (by kernel_rfl) (by kernel_rfl) (fun _ _ _ h => h) (Or.inl ⟨by rfl, ?_⟩) (by assumption) ?_
    rotate_left
    · intro w hSw
      (try dsimp only at hSw)
      obtain ⟨hS1, hS2⟩ := hSw
      go_simp
      (try with_reducible rfl)
    (try simp only [Act.put, List.setIfInBounds_toArray, List.set_cons_zero, List.set_cons_succ, List.getElem_toArray, List.getElem_cons_zero, List.getElem_cons_succ])
    refine wpAnyH_take (i := 4) (oi := _) (v := ?_) rfl (by kernel_rfl) (by kernel_rfl) (by kernel_rfl) (fun _ _ _ h => h) (Or.inl ⟨by rfl, ?_⟩) (by assumption) ?_
    rotate_left
    · intro w hSw
      (try dsimp only at hSw)
      obtain ⟨hS1, hS2⟩ := hSw
      go_simp
      (try with_reducible rfl)
    (try simp only [Act.put, List.setIfInBounds_toArray, List.set_cons_zero, List.set_cons_succ, List.getElem_toArray, List.getElem_cons_zero, List.getElem_cons_succ])
    refine wpAnyH_take (i := 6) (oi := _) (v := ?_) rfl (by kernel_rfl) (by kernel_rfl) (by kernel_rfl) (fun _ _ _ h => h) (Or.inl ⟨by rfl, ?_⟩) (by assumption) ?_
    rotate_left
    · intro w hSw
      (try dsimp only at hSw)
      obtain ⟨hS1, hS2⟩ := hSw
      go_simp
      (try with_reducible rfl)
    (try simp only [Act.put, List.setIfInBounds_toArray, List.set_cons_zero, List.set_cons_succ, List.getElem_toArray, List.getElem_cons_zero, List.getElem_cons_succ])
    refine wpAnyH_take (i := 7) (oi := _) (v := ?_) rfl (by kernel_rfl) (by kernel_rfl) (by kernel_rfl) (fun _ _ _ h => h) (Or.inl ⟨by rfl, ?_⟩) (by assumption) ?_
    rotate_left
    · intro w hSw
      (try dsimp only at hSw)
      obtain ⟨hS1, hS2⟩ := hSw
      go_simp
      (try with_reducible rfl)
    (try simp only [Act.put, List.setIfInBounds_toArray, List.set_cons_zero, List.set_cons_succ, List.getElem_toArray, List.getElem_cons_zero, List.getElem_cons_succ])
    refine wpAnyH_take (i := 8) (oi := _) (v := ?_) rfl (by kernel_rfl) (by kernel_rfl) (by kernel_rfl) (fun _ _ _ h => h) (Or.inl ⟨by rfl, ?_⟩) (by assumption) ?_
    rotate_left
    · intro w hSw
      (try dsimp only at hSw)
      obtain ⟨hS1, hS2⟩ := hSw
      go_simp
      (try with_reducible rfl)
    (try simp only [Act.put, List.setIfInBounds_toArray, List.set_cons_zero, List.set_cons_succ, List.getElem_toArray, List.getElem_cons_zero, List.getElem_cons_succ])
    refine wpAnyH_take (i := 9) (oi := _) (v := ?_) rfl (by kernel_rfl) (by kernel_rfl) (by kernel_rfl) (fun _ _ _ h => h) (Or.inl ⟨by rfl, ?_⟩) (by assumption) ?_
    rotate_left
    · intro w hSw
      (try dsimp only at hSw)
      obtain ⟨hS1, hS2⟩ := hSw
      go_simp
      (try with_reducible rfl)
    (try simp only [Act.put, List.setIfInBounds_toArray, List.set_cons_zero, List.set_cons_succ, List.getElem_toArray, List.getElem_cons_zero, List.getElem_cons_succ])
    refine wpAnyH_take (i := 10) (oi := _) (v := ?_) rfl (by kernel_rfl) (by kernel_rfl) (by kernel_rfl) (fun _ _ _ h => h) (Or.inl ⟨by rfl, ?_⟩) (by assumption) ?_
    rotate_left
    · intro w hSw
      (try dsimp only at hSw)
      obtain ⟨hS1, hS2⟩ := hSw
      go_simp
      (try with_reducible rfl)
    (try simp only [Act.put, List.setIfInBounds_toArray, List.set_cons_zero, List.set_cons_succ, List.getElem_toArray, List.getElem_cons_zero, List.getElem_cons_succ])
    refine wpAnyH_take (i := 11) (oi := _) (v := ?_) rfl (by kernel_rfl) (by kernel_rfl) (by kernel_rfl) (fun _ _ _ h => h) (Or.inl ⟨by rfl, ?_⟩) (by assumption) ?_
    rotate_left
    · intro w hSw
      (try dsimp only at hSw)
      obtain ⟨hS1, hS2⟩ := hSw
      go_simp
      (try with_reducible rfl)
    (try simp only [Act.put, List.setIfInBounds_toArray, List.set_cons_zero, List.set_cons_succ, List.getElem_toArray, List.getElem_cons_zero, List.getElem_cons_succ])
    refine wpAnyH_take (i := 12) (oi := _) (v := ?_) rfl (by kernel_rfl) (by kernel_rfl) (by kernel_rfl) (fun _ _ _ h => h) (Or.inl ⟨by rfl, ?_⟩) (by assumption) ?_
    rotate_left
    · intro w hSw
      (try dsimp only at hSw)
      obtain ⟨hS1, hS2⟩ := hSw
      go_simp
      (try with_reducible rfl)
    (try simp only [Act.put, List.setIfInBounds_toArray, List.set_cons_zero, List.set_cons_succ, List.getElem_toArray, List.getElem_cons_zero, List.getElem_cons_succ])
    refine wpAnyH_take (i := 13) (oi := _) (v := ?_) rfl (by kernel_rfl) (by kernel_rfl) (by kernel_rfl) (fun _ _ _ h => h) (Or.inl ⟨by rfl, ?_⟩) (by assumption) ?_
    rotate_left
    · intro w hSw
      (try dsimp only at hSw)
      obtain ⟨hS1, hS2⟩ := hSw
      go_simp
      (try with_reducible rfl)
    (try simp only [Act.put, List.setIfInBounds_toArray, List.set_cons_zero, List.set_cons_succ, List.getElem_toArray, List.getElem_cons_zero, List.getElem_cons_succ])
    refine wpAnyH_take (i := 14) (oi := _) (v := ?_) rfl (by kernel_rfl) (by kernel_rfl) (by kernel_rfl) (fun _ _ _ h => h) (Or.inl ⟨by rfl, ?_⟩) (by assumption) ?_
    rotate_left
    · intro w hSw
      (try dsimp only at hSw)
      obtain ⟨hS1, hS2⟩ := hSw
      go_simp
      (try with_reducible rfl)
    (try simp only [Act.put, List.setIfInBounds_toArray, List.set_cons_zero, List.set_cons_succ, List.getElem_toArray, List.getElem_cons_zero, List.getElem_cons_succ])
    refine wpAnyH_take (i := 16) (oi := _) (v := ?_) rfl (by kernel_rfl) (by kernel_rfl) (by kernel_rfl) (fun _ _ _ h => h) (Or.inl ⟨by rfl, ?_⟩) (by assumption) ?_
    rotate_left
    · intro w hSw
      (try dsimp only at hSw)
      obtain ⟨hS1, hS2⟩ := hSw
      go_simp
      (try with_reducible rfl)
    (try simp only [Act.put, List.setIfInBounds_toArray, List.set_cons_zero, List.set_cons_succ, List.getElem_toArray, List.getElem_cons_zero, List.getElem_cons_succ])
    refine wpAnyH_take (i := 17) (oi := _) (v := ?_) rfl (by kernel_rfl) (by kernel_rfl) (by kernel_rfl) (fun _ _ _ h => h) (Or.inl ⟨by rfl, ?_⟩) (by assumption) ?_
    rotate_left
    · intro w hSw
      (try dsimp only at hSw)
      obtain ⟨hS1, hS2⟩ := hSw
      go_simp
      (try with_reducible rfl)
    (try simp only [Act.put, List.setIfInBounds_toArray, List.set_cons_zero, List.set_cons_succ, List.getElem_toArray, List.getElem_cons_zero, List.getElem_cons_succ])
    refine wpAnyH_take (i := 18) (oi := _) (v := ?_) rfl (by kernel_rfl) (by kernel_rfl) (by kernel_rfl) (fun _ _ _ h => h) (Or.inl ⟨by rfl, ?_⟩) (by assumption) ?_
    rotate_left
    · intro w hSw
      (try dsimp only at hSw)
      obtain ⟨hS1, hS2⟩ := hSw
      go_simp
      (try with_reducible rfl)
    (try simp only [Act.put, List.setIfInBounds_toArray, List.set_cons_zero, List.set_cons_succ, List.getElem_toArray, List.getElem_cons_zero, List.getElem_cons_succ])
    refine wpAnyH_take (i := 19) (oi := _) (v := ?_) rfl (by kernel_rfl) (by kernel_rfl) (by kernel_rfl) (fun _ _ _ h => h) (Or.inl ⟨by rfl, ?_⟩) (by assumption) ?_
    rotate_left
    · intro w hSw
      (try dsimp only at hSw)
      obtain ⟨hS1, hS2⟩ := hSw
      go_simp
      (try with_reducible rfl)
    (try simp only [Act.put, List.setIfInBounds_toArray, List.set_cons_zero, List.set_cons_succ, List.getElem_toArray, List.getElem_cons_zero, List.getElem_cons_succ])
    refine wpAnyH_take (i := 20) (oi := _) (v := ?_) rfl (by kernel_rfl) (by kernel_rfl) (by kernel_rfl) (fun _ _ _ h => h) (Or.inl ⟨by rfl, ?_⟩) (by assumption) ?_
    rotate_left
    · intro w hSw
      (try dsimp only at hSw)
      obtain ⟨hS1, hS2⟩ := hSw
      go_simp
      (try with_reducible rfl)
    (try simp only [Act.put, List.setIfInBounds_toArray, List.set_cons_zero, List.set_cons_succ, List.getElem_toArray, List.getElem_cons_zero, List.getElem_cons_succ])
    refine wpAnyH_take (i := 21) (oi := _) (v := ?_) rfl (by kernel_rfl) (by kernel_rfl) (by kernel_rfl) (fun _ _ _ h => h) (Or.inl ⟨by rfl, ?_⟩) (by assumption) ?_
    rotate_left
    · intro w hSw
      (try dsimp only at hSw)
      obtain ⟨hS1, hS2⟩ := hSw
      go_simp
      (try with_reducible rfl)
    (try simp only [Act.put, List.setIfInBounds_toArray, List.set_cons_zero, List.set_cons_succ, List.getElem_toArray, List.getElem_cons_zero, List.getElem_cons_succ])
    refine wpAnyH_take (i := 22) (oi := _) (v := ?_) rfl (by kernel_rfl) (by kernel_rfl) (by kernel_rfl) (fun _ _ _ h => h) (Or.inl ⟨by rfl, ?_⟩) (by assumption) ?_
    rotate_left
    · intro w hSw
      (try dsimp only at hSw)
      obtain ⟨hS1, hS2⟩ := hSw
      go_simp
      (try with_reducible rfl)
    (try simp only [Act.put, List.setIfInBounds_toArray, List.set_cons_zero, List.set_cons_succ, List.getElem_toArray, List.getElem_cons_zero, List.getElem_cons_succ])
    refine wpAnyH_take (i := 23) (oi := _) (v := ?_) rfl (by kernel_rfl) (by kernel_rfl) (by kernel_rfl) (fun _ _ _ h => h) (Or.inl ⟨by rfl, ?_⟩) (by assumption) ?_
    rotate_left
    · intro w hSw
      (try dsimp only at hSw)
      obtain ⟨hS1, hS2⟩ := hSw
      go_simp
      (try with_reducible rfl)
    (try simp only [Act.put, List.setIfInBounds_toArray, List.set_cons_zero, List.set_cons_succ, List.getElem_toArray, List.getElem_cons_zero, List.getElem_cons_succ])
    refine wpAnyH_take (i := 24) (oi := _) (v := ?_) rfl (by kernel_rfl) (by kernel_rfl) (by kernel_rfl) (fun _ _ _ h => h) (Or.inl ⟨by rfl, ?_⟩) (by assumption) ?_
    rotate_left
    · intro w hSw
      (try dsimp only at hSw)
      obtain ⟨hS1, hS2⟩ := hSw
      go_simp
      (try with_reducible rfl)
    (try simp only [Act.put, List.setIfInBounds_toArray, List.set_cons_zero, List.set_cons_succ, List.getElem_toArray, List.getElem_cons_zero, List.getElem_cons_succ])
    refine wpAnyH_take (i := 25) (oi := _) (v := ?_) rfl (by kernel_rfl) (by kernel_rfl) (by kernel_rfl) (fun _ _ _ h => h) (Or.inl ⟨by rfl, ?_⟩) (by assumption) ?_
    rotate_left
    · intro w hSw
      (try dsimp only at hSw)
      obtain ⟨hS1, hS2⟩ := hSw
      go_simp
      (try with_reducible rfl)
    (try simp only [Act.put, List.setIfInBounds_toArray, List.set_cons_zero, List.set_cons_succ, List.getElem_toArray, List.getElem_cons_zero, List.getElem_cons_succ])
    refine wpAnyH_ready (rs := [5]) (by kernel_rfl) (by simp) ?_
    refine AllReadyH.cons (o := _) rfl (fun K' hK' => ?_) AllReadyH.nil
    go_simp
    refine hK'.out _ _ ⟨(HSB.out _ ((Below.refl _ _).drew.alloc (Nat.le_refl _) _)).2.2, (HSB.out _ ((Below.refl _ _).drew.alloc (Nat.le_refl _) _)).1⟩ (fun hHeld => ?_)
    clear hK' K'
    (try simp only [Act.put, List.setIfInBounds_toArray, List.set_cons_zero, List.set_cons_succ, List.getElem_toArray, List.getElem_cons_zero, List.getElem_cons_succ])
    refine wpAnyH_ready (rs := [15]) (by kernel_rfl) (by simp) ?_
    refine AllReadyH.cons (o := _) rfl (fun K' hK' => ?_) AllReadyH.nil
    refine step_copy _ 30 20 29 _ n0 n0 42 ti 6 Tryd.underlying52 hti hz1 w.heap.size 8 ?a1 ?a3 (.slice (some ⟨g, 0, none⟩) i cap) ?a2 i (enX L1) ?a4 ?a5 ?a6 ?_
    case a1 => rfl
    case a2 => rfl
    case a3 => (rw [hOM.out]; exact made_x w.drew n0 hn0)
    case a4 => exact HO1.out _ ((Below.refl _ _).drew.alloc (Nat.le_refl _) _)
    case a5 => exact oneEX L1
    case a6 => omega
    intro w9 hown9 hg9
    have hB9 : Below w.heap.size w w9 := ((Below.refl _ _).drew.alloc (Nat.le_refl _) OM).grown hg9 (by simp) (by intro k hk; cases hk; exact Nat.le_refl _)
    refine hK'.out _ _ ⟨(HSB.out _ hB9).2.2, (HSB.out _ hB9).1⟩ (fun hHeld => ?_)
    clear hK' K'
    (try simp only [Act.put, List.setIfInBounds_toArray, List.set_cons_zero, List.set_cons_succ, List.getElem_toArray, List.getElem_cons_zero, List.getElem_cons_succ])
    refine wpAnyH_ready (rs := [26]) (by kernel_rfl) (by simp) ?_
    refine AllReadyH.cons (o := _) rfl (fun K' hK' => ?_) AllReadyH.nil
    refine step_fits _ 41 30 40 _ n0 42 ti 6 Tryd.underlying52 hti hz1 w.heap.size i 8 (enX L1) ?b1 hown9 ad (n - (i + 1)) (cap - (i + 1)) (enX L2) ?b2 HNW.out.2.1 (HNW.out.1 _ hB9) (oneEX L2) ?b6 ?_
    case b1 => rfl
    case b2 => (have hh := HAD.out; simp only [hcd, if_true, if_false] at hh; exact congrArg (fun a => Value.slice a (n - (i + 1)) (cap - (i + 1))) hh)
    case b6 => omega
    intro w10 hown10 hg10
    have hB10 : Below w.heap.size w w10 := hB9.grown hg10 hB9.size (by intro k hk; cases hk; exact Nat.le_refl _)
    refine hK'.out _ _ ⟨(HSB.out _ hB10).2.2, (HSB.out _ hB10).1⟩ (fun hHeld => ?_)
    clear hK' K'
    (try simp only [Act.put, List.setIfInBounds_toArray, List.set_cons_zero, List.set_cons_succ, List.getElem_toArray, List.getElem_cons_zero, List.getElem_cons_succ])
    refine wpAnyH_take (i := 27) (oi := _) (v := ?_) rfl (by kernel_rfl) (by kernel_rfl) (by kernel_rfl) (fun _ _ _ h => h) (Or.inl ⟨by rfl, ?_⟩) (by assumption) ?_
    rotate_left
    · intro w hSw
      (try dsimp only at hSw)
      obtain ⟨hS1, hS2⟩ := hSw
      go_simp
      (try with_reducible rfl)
    (try simp only [Act.put, List.setIfInBounds_toArray, List.set_cons_zero, List.set_cons_succ, List.getElem_toArray, List.getElem_cons_zero, List.getElem_cons_succ])
    refine wpAnyH_done (by kernel_rfl) ?_ _
    have f10 := (HSB.out _ hB10).2.1
    have s10 := (HSB.out _ hB10).1
    refine lastQ_normal (o := _) rfl (fun K' hK' => ?_)
    go_simp
    refine hK'.out _ _ ?_
    clear hK' K'
    (try simp only [Act.put, List.setIfInBounds_toArray, List.set_cons_zero, List.set_cons_succ, List.getElem_toArray, List.getElem_cons_zero, List.getElem_cons_succ])
    refine NoPanic.normal ?_
    have hlen : i + (n - (i + 1)) = (L1 ++ L2).length := by rw [List.length_append]; have := HN.out; omega
    have hown : w10.ownsRow n0 42 6 (.slice (some ⟨w.heap.size, 0, none⟩) (i + (n - (i + 1))) 8) (L1 ++ L2).length (enX (L1 ++ L2)) := by
      rw [HEX.out, ← hlen]
      exact hown10
    have hT := HH.out.turn (HGX.out ▸ hi) (v := .slice (some ⟨w.heap.size, 0, none⟩) (i + (n - (i + 1))) 8) (w' := w10) (gbelow hB10 _) hown (Or.inr (fun g' hg' => by
      have : w.heap.size = g' := by simpa [Value.ownBlock] using hg'
      omega))
    rw [HGX.out] at hT
    have HTT : Hid (_) := hT
    clear hT hown hlen hown10 hown9 hg9 hg10 f10 s10
    go_wp2
    go_ret
    exact ⟨rfl, _, HTT.out.1, HTT.out.2⟩
end Go.Proofs.YtlindkhmjkionaaDoor
