/- home: the sort. -/
import Derived.Test.YtadkpelcbnljbaaHomJ0
import Derived.Test.YtadkpelcbnljbaaHomO
namespace Go.Proofs.Ytadkpelcbnljbaa
open Go.ChangeShapes Go.WideShapes Go.ChangeAt Go.RowKit
set_option linter.unusedVariables false
set_option linter.unusedSimpArgs false
theorem sorted_block {α : Type} [Inhabited α] (enc : α → List Value) (k : Nat) (w : World) (blk m : Nat) (d : Array α) (os : Array Obj) (cur : Array Value) (e : TypeId) (h : w.heap[blk]? = some (.cells cur e (0, 0))) : ∃ cur2 : Array Value, (sortWorldK enc k w blk 0 m d os).heap[blk]? = some (.cells cur2 e (0, 0)) ∧ cur2.size = cur.size := by
  have hl : blk < w.heap.size := (Array.getElem?_eq_some_iff.1 h).1
  unfold sortWorldK
  rw [Sort.heap_grow_old _ _ (by simp [Sort.putRowK, Sort.putRow, Sort.mapBlock, Sort.ahead]; omega)]
  simp only [Sort.putRowK, Sort.putRow, Sort.mapBlock, Sort.ahead, Array.getElem?_modify]
  rw [h]
  refine ⟨Sort.putCells id 0 (Sort.flatK enc k d) cur, by simp [Sort.onCells], ?_⟩
  simp [Sort.putCells]
set_option maxRecDepth 10000 in
set_option maxHeartbeats 1600000 in
theorem sort_any (B g n cap : Nat) (L : List W.Mg) (w : World) (ho : Om B (.slice (some ⟨g, 0, none⟩) n cap) L w) (hn : n = L.length) (hn2 : n ≤ 4096) (hB : B ≤ w.heap.size) :
    Calls Try.prog 44 #[.slice (some ⟨g, 0, none⟩) n cap, .func (.func 45) #[] #[]] w fun e w' => e = .returned (.tuple #[]) ∧ ∃ Y, Y.Perm L ∧ Y.Pairwise (fun x y => x.t ≤ y.t) ∧ Ms ⟨some ⟨g, 0, none⟩, n, cap⟩ Y w' ∧ Below B w w' ∧ w'.there g (0 + n * 11) ((cap - n) * 11) := by
  subst hn
  have hown : w.ownsRow B 35 11 (.slice (some ⟨g, 0, none⟩) L.length cap) L.length (mgX L) := ho
  rcases ho.2 with ⟨h1, h2⟩ | ⟨g', cap', cur, h1, hbg, hg, hnc, hcm, hcs, htk⟩
  · cases h1
  · obtain ⟨rfl, rfl⟩ : g' = g ∧ cap' = cap := by cases h1; exact ⟨rfl, rfl⟩
    have hH := holds_own rfl hown
    have hgl : g' < w.heap.size := (Array.getElem?_eq_some_iff.1 hg).1
    have eg : ∀ args w, (callFunc 45 args).run Try.prog w = .ok (.enter 45 args) w := enters_of Try.func45 (by kernel_rfl) rfl
    have hs := AnyQ.slices_SortFunc Try.lays44 11 Try.isAgg35 Try.sizeOf35 mgL mgL_len oneM byTo swoTo 45 #[] g' 0 cap' L.toArray w eg (cmpLays_getM _ _ _ _) hH hgl (by simp; omega)
    have hsz : L.toArray.size = L.length := by simp
    rw [hsz] at hs
    have HSo : Calls Try.prog 44 #[.slice (some ⟨g', 0, none⟩) L.length cap', .func (.func 45) #[] #[]] w fun e w' => e = .returned (.tuple #[]) ∧ ∃ d' n os, Sort.PermIn 0 L.length L.toArray d' ∧ Sort.SortedIn (ltOf byTo) 0 L.length d' ∧ w' = sortWorldK mgL 11 w g' 0 n d' os := hs
    refine HSo.mono ?_
    rintro e w2 ⟨rfl, d', m, os, hp, hsrt, hw2⟩
    have hdz : d'.size = L.length := by rw [hp.1]; simp
    have hold : Sort.HoldsK mgL 11 w2 g' 0 d' := by
      rw [hw2]
      exact holdsK_sortWorldK_c mgL 11 w g' 0 _ d' m os hH hgl hp.1
    have hbel : Below B w w2 := by rw [hw2]; exact below_sorted _ w g' m d' os hbg hB
    have hgl2 : g' < w2.heap.size := Nat.lt_of_lt_of_le hgl (by rw [hw2]; exact size_sortWorldK_c mgL 11 w g' 0 m d' os)
    refine ⟨rfl, d'.toList, ?_, ?_, ⟨by simp [hdz], hn2, hnc, fun _ => ⟨g', 0, rfl, hgl2, fun j f hf i v hv => ?_⟩⟩, hbel, ?_⟩
    · have := hp.2.2
      rw [show L.length = d'.size from hdz.symm] at this
      rw [Array.extract_size] at this
      have h2 : (L.toArray.extract 0 d'.size) = L.toArray := by rw [hdz]; simp
      rw [h2] at this
      simpa using this
    · rw [← hdz] at hsrt
      exact sorted_up hsrt
    · have hj : j < d'.size := by simpa using (List.getElem?_eq_some_iff.1 hf).1
      have hi : i < 11 := (List.getElem?_eq_some_iff.1 hv).1
      have hc := (hold.cell hj hi).1
      rw [Nat.zero_add] at hc ⊢
      rw [hc]
      have h1 : d'[j]! = f := by
        have := (List.getElem?_eq_some_iff.1 hf).2
        simp [hj]
        simpa using this
      rw [h1]
      rw [List.getElem?_eq_some_iff] at hv
      obtain ⟨h2, h3⟩ := hv
      simp [h2, h3]
    · obtain ⟨cur2, hc2, hs2⟩ := sorted_block mgL 11 w g' m d' os cur _ hg
      rw [hw2]
      exact there_row hc2 (hs2.trans hcs)
theorem sort_nil (w : World) : Calls Try.prog 44 #[.slice none 0 0, .func (.func 45) #[] #[]] w fun e w' => e = .returned (.tuple #[]) ∧ w = w' := by
  have hs := AnyF.slices_SortFunc_none Try.lays44 none 0 (.func (.func 45) #[] #[]) w
  exact Calls.mono hs (fun e w' ⟨a, b⟩ => ⟨a, b.symm⟩)
end Go.Proofs.Ytadkpelcbnljbaa
