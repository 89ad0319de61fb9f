/- corralref: Among, Sorted. -/
import Derived.Test.YtlindkhmjkionaaDoorCacI
import Derived.Deep.DeepAppendRoom
namespace Go.Proofs.YtlindkhmjkionaaDoor
open Go.ChangeShapes Go.WideShapes Go.ChangeAt Go.RowKit
set_option linter.unusedVariables false
set_option linter.unusedSimpArgs false

theorem among_any (s : W.Sl) (l : List Int) (x : Int) (w : World) (hl : Li s l w) : Calls Tryd.prog 27 #[slV s, .int .i64 x] w fun e w' => e = .returned (.bool (decide (x ∈ l))) ∧ w = w' := by
  obtain ⟨a, n, c⟩ := s
  obtain ⟨hn, hm, hnc, hat⟩ := hl
  dsimp only at hn hm hnc hat
  have HN : Hid (n = l.length) := hn
  have HA : Hid (0 < n → ∃ b o, a = some ⟨b, o, none⟩ ∧ b < w.heap.size ∧ ∀ j x, l[j]? = some x → w.cell? ⟨b, o + j, none⟩ = some (.int .i64 x)) := hat
  clear hn hat
  unfold slV
  go_enter Tryd.func27, Tryd.ntmps27
  go_wp2
  go_loopw [5] (fun j wr => ∃ k : Nat, k ≤ n ∧ j = .int .i64 k ∧ (∀ i y, i < k → l[i]? = some y → y ≠ x) ∧ w = wr) (fun j _ => n - (intOf j).toNat)
  case atStart => exact ⟨0, by omega, rfl, fun i y h => by omega, rfl⟩
  case round =>
    obtain ⟨k, hk, rfl, hno, rfl⟩ := hrel
    have HO : Hid (∀ i y, i < k → l[i]? = some y → y ≠ x) := hno
    clear hno
    by_cases h : k < n
    · have hkn : (k : Int) < n := by omega
      obtain ⟨b, o, rfl, hb, hc⟩ := HA.out (by omega)
      obtain ⟨y, hy⟩ : ∃ y, l[k]? = some y := ⟨_, List.getElem?_eq_getElem (by have := HN.out; omega)⟩
      have ck := hc k y hy
      have HY : Hid (l[k]? = some y) := hy
      clear hc hy
      by_cases e : y = x
      · subst e
        have HP : Hid (decide (y ∈ l) = true) := decide_eq_true (List.mem_of_getElem? HY.out)
        go_wp2
        go_ret
        rw [HP.out]
        exact ⟨rfl, rfl⟩
      · have hne : (y == x) = false := by simpa using e
        have hO2 : Hid (∀ i z, i < k + 1 → l[i]? = some z → z ≠ x) := fun i z hi hz => by
          by_cases q : i = k
          · subst q
            rw [HY.out] at hz
            cases hz
            exact e
          · exact HO.out i z (by omega) hz
        go_wp2
        go_roundw
        case rel => exact ⟨k + 1, by omega, by go_num, hO2.out, by first | rfl | trivial⟩
        case measure => simp [intOf]; omega
    · have HP : Hid (decide (x ∈ l) = false) := decide_eq_false (fun hy => by
        obtain ⟨j, hj, e⟩ := List.getElem_of_mem hy
        exact HO.out j _ (by have := HN.out; omega) (List.getElem?_eq_getElem hj) e)
      go_wp2
      go_ret
      rw [HP.out]
      exact ⟨rfl, rfl⟩

def inX (l : List Int) : List Value := l.map (fun x => .int .i64 x)
theorem inX_get (l : List Int) (j : Nat) (x : Int) (h : l[j]? = some x) : (inX l)[j]? = some (.int .i64 x) := by unfold inX; rw [List.getElem?_map, h]; rfl
theorem oneI (l : List Int) : ∀ u ∈ inX l, u.oneCell' = true := by
  intro u hu
  obtain ⟨x, _, rfl⟩ := List.mem_map.1 hu
  rfl
/-- A list of numbers in memory of one's own. -/
def On (base : Nat) (v : Value) (l : List Int) (w : World) : Prop := w.ownsRow base 3 1 v l.length (inX l)
theorem On.below {base : Nat} {v : Value} {l : List Int} {w w' : World} (h : On base v l w) (hb : Below w.heap.size w w') : On base v l w' := own_below h hb
theorem On.nil (base : Nat) (w : World) : On base (.slice none 0 0) [] w := ⟨rfl, Or.inl ⟨rfl, rfl⟩⟩
theorem infoI : (Tryd.prog.info? 3).map (fun i => (i.zero, i.size, i.bytes)) = some (some (.int .i64 0), 1, 8) := by kernel_rfl
theorem On.form {base : Nat} {v : Value} {l : List Int} {w : World} (h : On base v l w) : (v = .slice none 0 0 ∧ l = []) ∨ ∃ g cap, v = .slice (some ⟨g, 0, none⟩) l.length cap ∧ base ≤ g ∧ g < w.heap.size ∧ l.length ≤ cap ∧ cap ≤ maxLen ∧ ∀ j x, l[j]? = some x → w.cell? ⟨g, j, none⟩ = some (.int .i64 x) := by
  have HO : w.ownsRow base 3 1 v l.length (inX l) := h
  rcases h.2 with ⟨h1, h2⟩ | ⟨g, cap, cur, h1, hbg, hg, hnc, hcm, hcs, htk⟩
  · exact Or.inl ⟨h1, List.eq_nil_of_length_eq_zero h2⟩
  · refine Or.inr ⟨g, cap, h1, hbg, (Array.getElem?_eq_some_iff.1 hg).1, hnc, hcm, fun j x hx => ?_⟩
    have hj : j < l.length := (List.getElem?_eq_some_iff.1 hx).1
    rw [h1] at HO
    rw [HO.cellAt j (by omega)]
    exact inX_get l j x hx
theorem On.li {base : Nat} {v : Value} {l : List Int} {w : World} (h : On base v l w) (hl : l.length ≤ 4096) : ∃ s, v = slV s ∧ Li s l w := by
  rcases h.form with ⟨rfl, rfl⟩ | ⟨g, cap, rfl, h1, h2, h3, h4, h5⟩
  · exact ⟨⟨none, 0, 0⟩, rfl, li_nil w⟩
  · exact ⟨⟨some ⟨g, 0, none⟩, l.length, cap⟩, rfl, rfl, hl, h3, fun _ => ⟨g, 0, rfl, h2, fun j x hx => by rw [Nat.zero_add]; exact h5 j x hx⟩⟩
def mkJ (x y : Value) : Sem Value := Instr.makeSlice 23 x y
theorem mkJ_eq (x y : Value) : Instr.makeSlice 23 x y = mkJ x y := rfl
theorem make_j (n : Nat) (hn : n ≤ 60000) (w : World) : (mkJ (.int .i64 0) (.int .i64 (n : Int))).run Tryd.prog w = .ok (.slice (some ⟨w.heap.size, 0, none⟩) 0 n) (w.alloc (.cells (madeCells #[.int .i64 0] (n * 1)) 3)) := by
  obtain ⟨i, hi, hzz⟩ := Option.map_eq_some_iff.1 infoI
  simp only [Prod.mk.injEq] at hzz
  obtain ⟨hz, hs, hb⟩ := hzz
  have hr := run_make (P := Tryd.prog) w 23 3 i _ Tryd.underlying23 hi hz .i64 .i64 0 n (by omega) (by omega) (by rw [hb]; omega) (by omega)
  simp only [Int.toNat_natCast, hs] at hr
  exact hr
theorem made_j (n : Nat) (hn : n ≤ 60000) (w : World) (base : Nat) (hb : base ≤ w.heap.size) : (w.alloc (.cells (madeCells #[.int .i64 0] (n * 1)) 3)).ownsRow base 3 1 (.slice (some ⟨w.heap.size, 0, none⟩) 0 n) 0 [] :=
  World.ownsRow_made w _ n hb (by unfold maxLen; omega) (by rw [size_madeCells])
/-- An append of nothing. -/
theorem append_nil (t ty : TypeId) (w : World) (ht : Tryd.prog.underlying t = some (.slice 3)) (g n cap : Nat) (hc : n ≤ cap) : (Builtin.append_ #[t, t] ty #[.slice (some ⟨g, 0, none⟩) n cap, .slice none 0 0]).run Tryd.prog w = .ok (.slice (some ⟨g, 0, none⟩) n cap) w := by
  obtain ⟨i, hi, hzz⟩ := Option.map_eq_some_iff.1 infoI
  simp [Builtin.append_, run_underlying ht, sizeOf, typeInfo, hi, Builtin.lenOf, hc, Builtin.firstCells, storeCells]
end Go.Proofs.YtlindkhmjkionaaDoor
