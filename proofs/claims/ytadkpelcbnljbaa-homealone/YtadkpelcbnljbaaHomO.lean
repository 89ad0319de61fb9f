/- home: messages sorted by whom they go to. -/
import Derived.Test.YtadkpelcbnljbaaHomN
import Derived.Test.YtadkpelcbnljbaaShelfS
import Derived.Test.YtadkpelcbnljbaaHomD
namespace Go.Proofs.Ytadkpelcbnljbaa
open Go.ChangeShapes Go.WideShapes Go.ChangeAt Go.RowKit
set_option linter.unusedVariables false
set_option linter.unusedSimpArgs false
variable {n0 hb : Nat} {s s' : W.Hm} {sv av sv' av' sv'' av'' : Value} {w w' w'' : World}

def cmpI (x y : Int) : Int := if x < y then -1 else if y < x then 1 else 0
theorem compare_any (x y : Int) (w : World) : Calls Try.prog 46 #[.int .i64 x, .int .i64 y] w fun e w' => e = .returned (.int .i64 (cmpI x y)) ∧ w = w' := by
  unfold cmpI
  by_cases h1 : x < y
  · rw [if_pos h1]
    go_enter Try.func46, Try.ntmps46
    go_wp2_with (first | (go_at_call 52; refine (isnan_any _ _).mono ?_; rintro e w' ⟨rfl, rfl⟩))
    go_ret
    exact ⟨rfl, rfl⟩
  · rw [if_neg h1]
    by_cases h2 : y < x
    · rw [if_pos h2]
      go_enter Try.func46, Try.ntmps46
      go_wp2_with (first | (go_at_call 52; refine (isnan_any _ _).mono ?_; rintro e w' ⟨rfl, rfl⟩))
      go_ret
      exact ⟨rfl, rfl⟩
    · rw [if_neg h2]
      go_enter Try.func46, Try.ntmps46
      go_wp2_with (first | (go_at_call 52; refine (isnan_any _ _).mono ?_; rintro e w' ⟨rfl, rfl⟩))
      go_ret
      exact ⟨rfl, rfl⟩
instance : Inhabited W.Mg := ⟨W.mg0⟩
def byTo (x y : W.Mg) : Int := cmpI x.t y.t
theorem ltTo (x y : W.Mg) : ltOf byTo x y = decide (x.t < y.t) := by
  unfold ltOf byTo cmpI
  by_cases h1 : x.t < y.t
  · simp [h1]
  · by_cases h2 : y.t < x.t <;> simp [h1, h2]
theorem swoTo : Sort.SWO (ltOf byTo) where
  irrefl x := by rw [ltTo]; simp
  trans x y z h1 h2 := by rw [ltTo] at *; simp at *; omega
  ntrans x y z h1 h2 := by rw [ltTo] at *; simp at *; omega
set_option maxHeartbeats 1000000 in
theorem getM1_any (x y : W.Mg) (w : World) : Calls Try.prog 45 #[mgV x, mgV y] w fun e w' => e = .returned (.int .i64 (byTo x y)) ∧ ∃ q os', w' = Sort.grow (w.drewN q) os' := by
  have hcon := fun w => compare_any x.t y.t w
  have HC : Hid (_) := hcon
  unfold byTo
  generalize cmpI x.t y.t = r at *
  unfold mgV mgL
  clear hcon
  go_enter Try.func45, Try.ntmps45
  go_wp2_with (fail)
  refine (HC.out _).mono ?_
  rintro e w' ⟨rfl, rfl⟩
  go_wp2
  go_ret
  exact ⟨rfl, 0, _, by rw [Sort.alloc_eq_grow, Sort.alloc_eq_grow, Sort.grow_grow]; rfl⟩
theorem cmpLays_getM (blk off size : Nat) (w : World) : CmpLays Try.prog 45 #[] mgL 11 byTo blk off size w := fun m os dk _ x y => getM1_any x y _
theorem below_sorted (n : Nat) (w : World) (blk m : Nat) (d : Array W.Mg) (os : Array Obj) (hn : n ≤ blk) (hw : n ≤ w.heap.size) : Below n w (sortWorldK mgL 11 w blk 0 m d os) := by
  refine ⟨rfl, rfl, rfl, size_sortWorldK_c mgL 11 w blk 0 m d os, fun k hk => ?_⟩
  unfold sortWorldK
  rw [Sort.heap_grow_old _ _ (by simp [Sort.putRowK, Sort.putRow, Sort.mapBlock, Sort.ahead]; omega)]
  simp only [Sort.putRowK, Sort.putRow, Sort.mapBlock, Sort.ahead, Array.getElem?_modify]
  rw [if_neg (by omega)]
theorem mgX_bang (L : List W.Mg) (t : Nat) (ht : t < L.length * 11) : (mgX L)[t]? = some ((mgL (L.toArray[t / 11]!))[t % 11]!) := by
  have hj : t / 11 < L.length := by omega
  have h1 : L[t / 11]? = some L[t / 11] := List.getElem?_eq_getElem hj
  have h2 := mgX_get L (t / 11) (t % 11) _ h1 (by omega)
  rw [show t / 11 * 11 + t % 11 = t by omega] at h2
  rw [h2]
  have h3 : (L.toArray[t / 11]!) = L[t / 11] := by simp [hj]
  rw [h3]
  have h4 : t % 11 < (mgL L[t / 11]).length := by rw [mgL_len]; omega
  rw [List.getElem?_eq_getElem h4]
  simp [h4]
/-- A list of messages in memory of one's own. -/
def Om (base : Nat) (v : Value) (L : List W.Mg) (w : World) : Prop := w.ownsRow base 35 11 v L.length (mgX L)
theorem Om.below {base : Nat} {v : Value} {L : List W.Mg} (h : Om base v L w) (hb : Below w.heap.size w w') : Om base v L w' := own_below h hb
theorem Om.nil (base : Nat) (w : World) : Om base (.slice none 0 0) [] w := ⟨rfl, Or.inl ⟨rfl, rfl⟩⟩
theorem Om.own {base : Nat} {v : Value} {L : List W.Mg} (h : Om base v L w) {g : Nat} (e : v.ownBlock = some g) : base ≤ g ∧ g < w.heap.size := by
  rcases h.2 with ⟨h1, h2⟩ | ⟨g', cap', cur, h1, hbg, hg, _⟩
  · rw [h1] at e; cases e
  · rw [h1] at e
    have : g' = g := by simpa [Value.ownBlock] using e
    subst this
    exact ⟨hbg, (Array.getElem?_eq_some_iff.1 hg).1⟩
theorem holds_own {base g n cap : Nat} {L : List W.Mg} (hn : n = L.length) (ho : w.ownsRow base 35 11 (.slice (some ⟨g, 0, none⟩) n cap) n (mgX L)) : Sort.HoldsK mgL 11 w g 0 L.toArray := by
  intro t ht
  rw [Sort.size_flatK] at ht
  have ht' : t < L.length * 11 := by simpa using ht
  have h1 := ho.cellAt t (by omega)
  rw [mgX_bang L t ht'] at h1
  rw [Nat.zero_add, Sort.get_flatK mgL 11 _ t ht]
  refine ⟨h1, ?_⟩
  rcases ho.2 with ⟨h2, _⟩ | ⟨g', cap', cur, h2, hbg, hg, _⟩
  · cases h2
  · cases h2
    unfold World.frozen?
    rw [hg]
    simp
theorem sorted_up {d : Array W.Mg} (h : Sort.SortedIn (ltOf byTo) 0 d.size d) : d.toList.Pairwise (fun x y => x.t ≤ y.t) := by
  rw [List.pairwise_iff_getElem]
  intro i j hi hj hij
  have := h i j (Nat.zero_le _) hij (by simpa using hj)
  rw [ltTo] at this
  have h1 : d[i]! = d.toList[i] := by simp at hi; simp [hi]
  have h2 : d[j]! = d.toList[j] := by simp at hj; simp [hj]
  rw [h1, h2] at this
  have := of_decide_eq_false this
  omega

namespace W
/-- What is gathered ahead of the sort. -/
def inv0 (s : Hm) (r : Int) : List Mg := (wo s.sh r).map (fun k => msg s 4 k) ++ (if s.ow ≠ r ∧ s.ow ≠ -1 then [msg s 6 s.ow] else [])
theorem inv0_sorted (H : Hok s) (r : Int) (Y : List Mg) (hp : Y.Perm (inv0 s r)) (hs : Y.Pairwise (fun x y => x.t ≤ y.t)) : Y = invM s r := by
  have hno : s.ow ∉ wo s.sh r := fun h => H.no ((wo_mem _ _ _).1 h).1
  have hF : ∀ y ∈ Y, y = msg s (if y.t = s.ow then 6 else 4) y.t := by
    intro y hy
    have hy := hp.mem_iff.1 hy
    unfold inv0 at hy
    rcases List.mem_append.1 hy with hy | hy
    · obtain ⟨k, hk, rfl⟩ := List.mem_map.1 hy
      have : k ≠ s.ow := fun e => hno (e ▸ hk)
      show msg s 4 k = msg s (if k = s.ow then 6 else 4) k
      rw [if_neg this]
    · split at hy
      · have e : y = msg s 6 s.ow := by simpa using hy
        subst e
        show msg s 6 s.ow = msg s (if s.ow = s.ow then 6 else 4) s.ow
        rw [if_pos rfl]
      · simp at hy
  have ht : (Y.map (·.t)).Perm (wo s.sh r ++ (if s.ow ≠ r ∧ s.ow ≠ -1 then [s.ow] else [])) := by
    have := hp.map (·.t)
    unfold inv0 at this
    rw [List.map_append, List.map_map] at this
    have e1 : (List.map ((fun x => x.t) ∘ fun k => msg s 4 k) (wo s.sh r)) = wo s.sh r := by
      have : ((fun x : Mg => x.t) ∘ fun k => msg s 4 k) = id := rfl
      rw [this, List.map_id]
    rw [e1] at this
    split at this
    · rename_i q; rw [if_pos q]; exact this
    · rename_i q; rw [if_neg q]; exact this
  have hnd : (Y.map (·.t)).Nodup := by
    refine ht.symm.nodup ?_
    have h1 : (wo s.sh r).Nodup := (wo_up H.us r).imp (fun h => by omega)
    rw [List.nodup_append]
    refine ⟨h1, by split <;> simp, fun a ha b hb e => ?_⟩
    split at hb
    · have : b = s.ow := by simpa using hb
      subst this
      exact hno (e ▸ ha)
    · simp at hb
  have hup : Up1 (Y.map (·.t)) := by
    have h1 : (Y.map (·.t)).Pairwise (· ≤ ·) := by rw [List.pairwise_map]; exact hs
    exact (h1.and hnd).imp (fun h => by have := h.1; have := h.2; omega)
  have he : Y.map (·.t) = inv s r := up_eq _ _ hup (inv_up H r) (fun y => by
    rw [ht.mem_iff, List.mem_append]
    unfold inv
    split
    · rw [ins_mem]
      constructor
      · rintro (h | h)
        · exact Or.inr h
        · exact Or.inl (by simpa using h)
      · rintro (h | h)
        · exact Or.inr (by simpa using h)
        · exact Or.inl h
    · simp)
  unfold invM
  rw [← he, List.map_map]
  refine (List.map_id Y).symm.trans (List.map_congr_left fun y hy => ?_)
  exact hF y hy
end W
end Go.Proofs.Ytadkpelcbnljbaa
