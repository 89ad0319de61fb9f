/- cache: All: the lines by rising line. -/
import Derived.Test.YtlindkhmjkionaaDoorCatA
import Derived.Test.YtlindkhmjkionaaDoorShelfS
namespace Go.Proofs.YtlindkhmjkionaaDoor
open Go.ChangeShapes Go.WideShapes Go.ChangeAt Go.RowKit
set_option linter.unusedVariables false
set_option linter.unusedSimpArgs false
variable {n0 cb sb K : Nat} {ways : Int} {sv sv' sv'' : Nat → Value} {S S' : Nat → List W.En} {w w' w'' : World}

def cmpI (x y : Int) : Int := if x < y then -1 else if y < x then 1 else 0
theorem isnan_any (x : Int) (w : World) : Calls Tryd.prog 50 #[.int .i64 x] w fun e w' => e = .returned (.bool false) ∧ w = w' := by
  go_enter Tryd.func50, Tryd.ntmps50
  go_wp2
  go_ret
  exact ⟨rfl, rfl⟩
theorem compare_any (x y : Int) (w : World) : Calls Tryd.prog 41 #[.int .i64 x, .int .i64 y] w fun e w' => e = .returned (.int .i64 (cmpI x y)) ∧ w = w' := by
  unfold cmpI
  by_cases h1 : x < y
  · rw [if_pos h1]
    go_enter Tryd.func41, Tryd.ntmps41
    go_wp2_with (first | (go_at_call 50; refine (isnan_any _ _).mono ?_; rintro e w' ⟨rfl, rfl⟩))
    go_ret
    exact ⟨rfl, rfl⟩
  · rw [if_neg h1]
    by_cases h2 : y < x
    · rw [if_pos h2]
      go_enter Tryd.func41, Tryd.ntmps41
      go_wp2_with (first | (go_at_call 50; refine (isnan_any _ _).mono ?_; rintro e w' ⟨rfl, rfl⟩))
      go_ret
      exact ⟨rfl, rfl⟩
    · rw [if_neg h2]
      go_enter Tryd.func41, Tryd.ntmps41
      go_wp2_with (first | (go_at_call 50; refine (isnan_any _ _).mono ?_; rintro e w' ⟨rfl, rfl⟩))
      go_ret
      exact ⟨rfl, rfl⟩
instance : Inhabited W.En := ⟨W.en0⟩
def byLine (x y : W.En) : Int := cmpI x.l y.l
theorem ltLine (x y : W.En) : ltOf byLine x y = decide (x.l < y.l) := by
  unfold ltOf byLine cmpI
  by_cases h1 : x.l < y.l
  · simp [h1]
  · by_cases h2 : y.l < x.l <;> simp [h1, h2]
theorem swoLine : Sort.SWO (ltOf byLine) where
  irrefl x := by rw [ltLine]; simp
  trans x y z h1 h2 := by rw [ltLine] at *; simp at *; omega
  ntrans x y z h1 h2 := by rw [ltLine] at *; simp at *; omega
set_option maxHeartbeats 1000000 in
theorem all1_any (x y : W.En) (w : World) : Calls Tryd.prog 40 #[enV x, enV y] w fun e w' => e = .returned (.int .i64 (byLine x y)) ∧ ∃ q os', w' = Sort.grow (w.drewN q) os' := by
  have hcon := fun w => compare_any x.l y.l w
  have HC : Hid (_) := hcon
  unfold byLine
  generalize cmpI x.l y.l = r at *
  unfold enV enL
  clear hcon
  go_enter Tryd.func40, Tryd.ntmps40
  go_wp2_with (fail)
  refine (HC.out _).mono ?_
  rintro e w' ⟨rfl, rfl⟩
  go_wp2
  go_ret
  exact ⟨rfl, 0, _, by rw [Sort.alloc_eq_grow, Sort.alloc_eq_grow, Sort.grow_grow]; rfl⟩
theorem cmpLays_all (blk off size : Nat) (w : World) : CmpLays Tryd.prog 40 #[] enL 6 byLine blk off size w := fun m os dk _ x y => all1_any x y _
theorem below_sorted (n : Nat) (w : World) (blk m : Nat) (d : Array W.En) (os : Array Obj) (hn : n ≤ blk) (hw : n ≤ w.heap.size) : Below n w (sortWorldK enL 6 w blk 0 m d os) := by
  refine ⟨rfl, rfl, rfl, size_sortWorldK_c enL 6 w blk 0 m d os, fun k hk => ?_⟩
  unfold sortWorldK
  rw [Sort.heap_grow_old _ _ (by simp [Sort.putRowK, Sort.putRow, Sort.mapBlock, Sort.ahead]; omega)]
  simp only [Sort.putRowK, Sort.putRow, Sort.mapBlock, Sort.ahead, Array.getElem?_modify]
  rw [if_neg (by omega)]
theorem enX_bang (L : List W.En) (t : Nat) (ht : t < L.length * 6) : (enX L)[t]? = some ((enL (L.toArray[t / 6]!))[t % 6]!) := by
  have hj : t / 6 < L.length := by omega
  have h1 : L[t / 6]? = some L[t / 6] := List.getElem?_eq_getElem hj
  have h2 := enX_get L (t / 6) (t % 6) _ h1 (by omega)
  rw [show t / 6 * 6 + t % 6 = t by omega] at h2
  rw [h2]
  have h3 : (L.toArray[t / 6]!) = L[t / 6] := by simp [hj]
  rw [h3]
  have h4 : t % 6 < (enL L[t / 6]).length := by rw [enL_len]; omega
  rw [List.getElem?_eq_getElem h4]
  simp [h4]
/-- The list, at any place. -/
theorem holds_own {base g n cap : Nat} {L : List W.En} (hn : n = L.length) (ho : w.ownsRow base 37 6 (.slice (some ⟨g, 0, none⟩) n cap) n (enX L)) : Sort.HoldsK enL 6 w g 0 L.toArray := by
  intro t ht
  rw [Sort.size_flatK] at ht
  have ht' : t < L.length * 6 := by simpa using ht
  have h1 := ho.cellAt t (by omega)
  rw [enX_bang L t ht'] at h1
  rw [Nat.zero_add, Sort.get_flatK enL 6 _ t ht]
  refine ⟨h1, ?_⟩
  rcases ho.2 with ⟨h2, _⟩ | ⟨g', cap', cur, h2, hbg, hg, _⟩
  · cases h2
  · cases h2
    unfold World.frozen?
    rw [hg]
    simp
theorem sorted_up {d : Array W.En} (h : Sort.SortedIn (ltOf byLine) 0 d.size d) : d.toList.Pairwise (fun x y => x.l ≤ y.l) := by
  rw [List.pairwise_iff_getElem]
  intro i j hi hj hij
  have := h i j (Nat.zero_le _) hij (by simpa using hj)
  rw [ltLine] at this
  have h1 : d[i]! = d.toList[i] := by simp at hi; simp [hi]
  have h2 : d[j]! = d.toList[j] := by simp at hj; simp [hj]
  rw [h1, h2] at this
  have := of_decide_eq_false this
  omega

set_option maxRecDepth 10000 in
set_option maxHeartbeats 1600000 in
theorem all_any (H : Ct n0 cb sb K ways sv S w) (hK : K ≤ 64) (hS : ∀ i, i < K → (S i).length ≤ 8) :
    Calls Tryd.prog 23 #[.pointer (some ⟨cb, 0, none⟩)] w fun e w' => ∃ v Y, e = .returned v ∧ Rw v Y w' ∧ Y.Perm (W.cat S K) ∧ Y.Pairwise (fun x y => x.l ≤ y.l) ∧ Below w.heap.size w w' := by
  have c1 := H.c1
  have HC : Hid (Calls _ _ _ _ _) := concat_any H hK hS
  have hlen : (W.cat S K).length = W.sm S K := W.cat_len S K
  clear H
  go_enter Tryd.func23, Tryd.ntmps23
  go_wp2_with (fail)
  refine HC.out.mono ?_
  rintro e w1 ⟨v, rfl, hown, hz, hb⟩
  by_cases h0 : W.sm S K = 0
  · obtain rfl := hz h0
    have hs := AnyF.slices_SortFunc_none Tryd.lays39 none 0 (.func (.func 40) #[] #[]) w1
    have HS0 : Hid (Calls Tryd.prog 39 #[.slice none 0 0, .func (.func 40) #[] #[]] w1 fun e w' => e = .returned (.tuple #[]) ∧ w' = w1) := hs
    have HB : Hid (_) := hb
    have hnil : W.cat S K = [] := List.eq_nil_of_length_eq_zero (by omega)
    clear hs hown hb hz
    go_wp2_with (fail)
    refine HS0.out.mono ?_
    rintro e w2 ⟨rfl, h2⟩
    obtain rfl := h2.symm
    go_wp2
    go_ret
    exact ⟨.slice none 0 0, [], rfl, Rw.nil, by rw [hnil], List.Pairwise.nil, HB.out⟩
  · rcases hown.2 with ⟨h1, h2⟩ | ⟨g, cap, cur, h1, hbg, hg, hnc, hcm, hcs, htk⟩
    · exact absurd h2 h0
    · subst h1
      have hH := holds_own hlen.symm hown
      have hgl : g < w1.heap.size := (Array.getElem?_eq_some_iff.1 hg).1
      have hb8 : W.sm S K ≤ K * 8 := by
        have : ∀ k, k ≤ K → W.sm S k ≤ k * 8 := fun k hk => by
          induction k with
          | zero => exact Nat.le_refl _
          | succ k ih =>
            have h1 := ih (by omega)
            have h2 := hS k (by omega)
            rw [W.sm_step]
            omega
        exact this K (Nat.le_refl _)
      have eg : ∀ args w, (callFunc 40 args).run Tryd.prog w = .ok (.enter 40 args) w := enters_of Tryd.func40 (by kernel_rfl) rfl
      have hs := AnyQ.slices_SortFunc Tryd.lays39 6 Tryd.isAgg37 Tryd.sizeOf37 enL enL_len oneE byLine swoLine 40 #[] g 0 cap (W.cat S K).toArray w1 eg (cmpLays_all _ _ _ _) hH hgl (by simp [hlen]; omega)
      have hsz : (W.cat S K).toArray.size = W.sm S K := by simp [hlen]
      rw [hsz] at hs
      have HSo : Hid (Calls Tryd.prog 39 #[.slice (some ⟨g, 0, none⟩) (W.sm S K) cap, .func (.func 40) #[] #[]] w1 fun e w' => e = .returned (.tuple #[]) ∧ ∃ d' n os, Sort.PermIn 0 (W.sm S K) (W.cat S K).toArray d' ∧ Sort.SortedIn (ltOf byLine) 0 (W.sm S K) d' ∧ w' = sortWorldK enL 6 w1 g 0 n d' os) := hs
      have HB : Hid (Below w.heap.size w w1 ∧ w.heap.size ≤ g ∧ g < w1.heap.size ∧ W.sm S K ≤ cap) := ⟨hb, hbg, hgl, hnc⟩
      have HHo : Hid (Sort.HoldsK enL 6 w1 g 0 (W.cat S K).toArray) := hH
      clear hs hown hb hz hg hcs htk hH hsz
      go_wp2_with (fail)
      refine HSo.out.mono ?_
      rintro e w2 ⟨rfl, d', m, os, hp, hsrt, hw2⟩
      have hdz : d'.size = W.sm S K := by rw [hp.1]; simp [hlen]
      have hold : Sort.HoldsK enL 6 w2 g 0 d' := by
        rw [hw2]
        exact holdsK_sortWorldK_c enL 6 w1 g 0 _ d' m os HHo.out HB.out.2.2.1 hp.1
      have hbel : Below w.heap.size w w2 := HB.out.1.trans (by rw [hw2]; exact below_sorted _ w1 g m d' os HB.out.2.1 HB.out.1.size)
      have hgl2 : g < w2.heap.size := Nat.lt_of_lt_of_le HB.out.2.2.1 (by rw [hw2]; exact size_sortWorldK_c enL 6 w1 g 0 m d' os)
      have HF : Hid (_ ∧ _ ∧ _) := ⟨hold, hbel, hgl2⟩
      have HP : Hid (_ ∧ _) := ⟨hp, hsrt⟩
      clear hold hbel hgl2 hp hsrt hw2
      go_wp2
      go_ret
      refine ⟨_, d'.toList, rfl, ⟨g, _, cap, by rw [Array.length_toList, hdz]; rfl, by rw [Array.length_toList, hdz]; exact HB.out.2.2.2, fun _ => ⟨rfl, HF.out.2.2⟩, fun j f hf i v hv => ?_⟩, ?_, ?_, HF.out.2.1⟩
      · have hj : j < d'.size := by simpa using (List.getElem?_eq_some_iff.1 hf).1
        have hi : i < 6 := (List.getElem?_eq_some_iff.1 hv).1
        have hc := (HF.out.1.cell hj hi).1
        rw [Nat.zero_add] at hc
        rw [hc]
        have h1 : d'[j]! = f := by
          have := (List.getElem?_eq_some_iff.1 hf).2
          simp [hj]
          simpa using this
        rw [h1]
        rw [List.getElem?_eq_some_iff] at hv
        obtain ⟨h2, h3⟩ := hv
        simp [h2, h3]
      · have := HP.out.1.2.2
        rw [show W.sm S K = d'.size from hdz.symm] at this
        rw [Array.extract_size] at this
        have h2 : ((W.cat S K).toArray.extract 0 d'.size) = (W.cat S K).toArray := by rw [hdz, ← hlen]; simp
        rw [h2] at this
        simpa using this
      · rw [← hdz] at HP
        exact sorted_up HP.out.2
end Go.Proofs.YtlindkhmjkionaaDoor
