/- The document's memory: where it lies; what Has and Load answer. -/
import Derived.Test.YtjdiepklgcdamaaDoorMemQ
namespace Go.Proofs.YtjdiepklgcdamaaDoor
open Go.ChangeShapes Go.WideShapes Go.ChangeAt Go.RowKit
set_option linter.unusedVariables false
set_option linter.unusedSimpArgs false

/-- Byte a of the words f. -/
def W.byte (f : Nat → Int) (a : Nat) : Int := W.pt (f (a / 4)) a 1

/-- The document's memory of n lines with the words f: its head lies in block b, its bytes in block c. -/
structure RAt (b c n : Nat) (f : Nat → Int) (w : World) : Prop where
  hd : w.heap[b]? = some (.cells #[.slice (some ⟨c, 0, none⟩) (16 * n) (16 * n)] 51)
  row : ∃ cs : Array Value, w.heap[c]? = some (.cells cs 5) ∧ cs.size = 16 * n ∧ ∀ a, a < 16 * n → cs[a]? = some (.int .u8 (W.byte f a))
  ne : b ≠ c
  n1 : 1 ≤ n
  n2 : n ≤ 4096
  rg : ∀ j, 0 ≤ f j ∧ f j < 4294967296
theorem RAt.lt {b c n : Nat} {f : Nat → Int} {w : World} (h : RAt b c n f w) : b < w.heap.size ∧ c < w.heap.size := by
  obtain ⟨cs, h1, _⟩ := h.row
  exact ⟨(Array.getElem?_eq_some_iff.1 h.hd).1, (Array.getElem?_eq_some_iff.1 h1).1⟩
theorem RAt.head {b c n : Nat} {f : Nat → Int} {w : World} (h : RAt b c n f w) : w.cell? ⟨b, 0, none⟩ = some (.slice (some ⟨c, 0, none⟩) (16 * n) (16 * n)) := by
  simp [World.cell?, h.hd]
theorem RAt.byte {b c n : Nat} {f : Nat → Int} {w : World} (h : RAt b c n f w) (a : Nat) (ha : a < 16 * n) : w.cell? ⟨c, a, none⟩ = some (.int .u8 (W.byte f a)) := by
  obtain ⟨cs, h1, h2, h3⟩ := h.row
  simp [World.cell?, h1, h3 a ha]
theorem RAt.frz {b c n : Nat} {f : Nat → Int} {w : World} (h : RAt b c n f w) (j : Nat) : w.frozen? ⟨c, j, none⟩ = false := by
  obtain ⟨cs, h1, h2, h3⟩ := h.row
  simp [World.frozen?, h1]
theorem RAt.below {b c n : Nat} {f : Nat → Int} {w w' : World} (h : RAt b c n f w) (hb : Below w.heap.size w w') : RAt b c n f w' := by
  obtain ⟨cs, h1, h2, h3⟩ := h.row
  exact ⟨(hb.block b h.lt.1).trans h.hd, ⟨cs, (hb.block c h.lt.2).trans h1, h2, h3⟩, h.ne, h.n1, h.n2, h.rg⟩
theorem RAt.kept {b c n d : Nat} {f : Nat → Int} {w w' : World} (h : RAt b c n f w) (hg : w.grownBy w' (some d)) (h1 : b ≠ d) (h2 : c ≠ d) : RAt b c n f w' := by
  obtain ⟨cs, h3, h4, h5⟩ := h.row
  exact ⟨(hg.block b h.lt.1 (by simpa using h1)).trans h.hd, ⟨cs, (hg.block c h.lt.2 (by simpa using h2)).trans h3, h4, h5⟩, h.ne, h.n1, h.n2, h.rg⟩
theorem byte_rg {f : Nat → Int} (hr : ∀ j, 0 ≤ f j ∧ f j < 4294967296) (a : Nat) : 0 ≤ W.byte f a ∧ W.byte f a < 256 := by
  unfold W.byte
  rw [byte_eq _ _ (hr _).1 (hr _).2]
  omega
/-- A byte that is put is a word's byte that is turned. -/
theorem byte_put (f : Nat → Int) (hr : ∀ j, 0 ≤ f j ∧ f j < 4294967296) (A a : Nat) (v : Int) (v0 : 0 ≤ v) (v1 : v < 4294967296) : W.byte (W.put f A 1 v) a = if a = A then v % 256 else W.byte f a := by
  unfold W.byte W.put
  by_cases e : a / 4 = A / 4
  · rw [if_pos e, byte_wr _ A a 1 v (hr _).1 (hr _).2 v0 v1 (W.al_1 _)]
    by_cases e2 : a = A
    · rw [if_pos e2, if_pos (by omega), e2, Nat.sub_self]; simp [W.pw]
    · rw [if_neg e2, if_neg (by omega)]
  · rw [if_neg e, if_neg (by omega)]
theorem RAt.set1 {b c n : Nat} {f : Nat → Int} {w : World} (h : RAt b c n f w) (A : Nat) (v : Int) (v0 : 0 ≤ v) (v1 : v < 4294967296) (hA : A < 16 * n) : RAt b c n (W.put f A 1 v) (w.setCell ⟨c, A, none⟩ (.int .u8 (v % 256))) := by
  obtain ⟨cs, h1, h2, h3⟩ := h.row
  refine ⟨(Below.heap_setCell w ⟨c, A, none⟩ _ b h.ne).trans h.hd, ⟨cs.setIfInBounds A (.int .u8 (v % 256)), ?_, by simpa using h2, ?_⟩, h.ne, h.n1, h.n2, put_rg h.rg A 1 v⟩
  · simp only [World.setCell, Array.getElem?_modify, if_true, h1, Option.map_some]
    rfl
  · intro a ha
    rw [byte_put f h.rg A a v v0 v1]
    by_cases e : a = A
    · subst e
      rw [if_pos rfl, Array.getElem?_setIfInBounds_self_of_lt (by omega)]
    · rw [if_neg e, Array.getElem?_setIfInBounds_ne (by omega)]
      exact h3 a ha

theorem rinside_any (n A : Nat) (s : Int) (w : World) (hA : A < 4294967296) (n1 : 1 ≤ n) (n2 : n ≤ 4096) : Calls Tryd.prog 46 #[.int .i64 ((16 * n : Nat) : Int), .int .u32 (A : Int), .int .i64 s] w fun e w' => e = .returned (.bool (W.has n A s)) ∧ w = w' := by
  obtain ⟨B, hB⟩ : ∃ B : Int, ((16 * n : Nat) : Int) = B := ⟨_, rfl⟩
  have hB1 : B = 16 * n := by omega
  rw [hB]
  have b1 : 16 ≤ B := by omega
  have b2 : B ≤ 65536 := by omega
  have b4 : B % 16 = 0 := by omega
  clear hB
  cases hh : W.has n A s
  · have hf : ¬ (W.al A s = true ∧ (A : Int) < B) := by
      intro ⟨h1, h2⟩
      rw [W.has_in n A s h1 (by omega)] at hh
      cases hh
    clear hB1
    by_cases h1 : s = 1
    · subst h1
      have h3 : ¬ (A : Int) < B := fun h => hf ⟨W.al_1 _, h⟩
      have h4 : ¬ (A : Int) ≤ B - 1 := by omega
      clear hf
      go_enter Tryd.func46, Tryd.ntmps46
      go_wp2
      go_ret
      exact ⟨rfl, rfl⟩
    by_cases h2 : s = 2
    · subst h2
      cases h3 : ((A : Int) % 2 == 0)
      · clear hf
        go_enter Tryd.func46, Tryd.ntmps46
        go_wp2
        go_ret
        exact ⟨rfl, rfl⟩
      · have h5 : (A : Int) % 2 = 0 := by simpa using h3
        have h4 : ¬ (A : Int) ≤ B - 2 := fun h => hf ⟨W.al_2 _ (by omega), by omega⟩
        clear hf
        go_enter Tryd.func46, Tryd.ntmps46
        go_wp2
        go_ret
        exact ⟨rfl, rfl⟩
    by_cases h3 : s = 4
    · subst h3
      cases h3 : ((A : Int) % 4 == 0)
      · clear hf
        go_enter Tryd.func46, Tryd.ntmps46
        go_wp2
        go_ret
        exact ⟨rfl, rfl⟩
      · have h5 : (A : Int) % 4 = 0 := by simpa using h3
        have h4 : ¬ (A : Int) ≤ B - 4 := fun h => hf ⟨W.al_4 _ (by omega), by omega⟩
        clear hf
        go_enter Tryd.func46, Tryd.ntmps46
        go_wp2
        go_ret
        exact ⟨rfl, rfl⟩
    have g1 : (s == 1) = false := by simpa using h1
    have g2 : (s == 2) = false := by simpa using h2
    have g4 : (s == 4) = false := by simpa using h3
    clear hf h1 h2 h3
    go_enter Tryd.func46, Tryd.ntmps46
    go_wp2
    go_ret
    exact ⟨rfl, rfl⟩
  · obtain ⟨ha, hl⟩ := has_al hh
    have hl2 : (A : Int) < B := by omega
    have h3 : s = 1 ∨ s = 2 ∧ (A : Int) % 2 = 0 ∨ s = 4 ∧ (A : Int) % 4 = 0 := by rcases W.al_cases A s ha with h | h | h | h | h | h | h <;> omega
    clear hB1 hh ha hl
    rcases h3 with rfl | ⟨rfl, h4⟩ | ⟨rfl, h4⟩
    · have h5 : (A : Int) ≤ B - 1 := by omega
      go_enter Tryd.func46, Tryd.ntmps46
      go_wp2
      go_ret
      exact ⟨rfl, rfl⟩
    · have h5 : (A : Int) ≤ B - 2 := by omega
      go_enter Tryd.func46, Tryd.ntmps46
      go_wp2
      go_ret
      exact ⟨rfl, rfl⟩
    · have h5 : (A : Int) ≤ B - 4 := by omega
      go_enter Tryd.func46, Tryd.ntmps46
      go_wp2
      go_ret
      exact ⟨rfl, rfl⟩

theorem rhas_any (b c n : Nat) (f : Nat → Int) (A : Nat) (s : Int) (w : World) (hA : A < 4294967296) (h : RAt b c n f w) : Calls Tryd.prog 34 #[.pointer (some ⟨b, 0, none⟩), .int .u32 (A : Int), .int .i64 s] w fun e w' => e = .returned (.bool (W.has n A s)) ∧ w = w' := by
  have hd := h.head
  have HI : Hid (∀ w : World, Calls Tryd.prog 46 #[.int .i64 ((16 * n : Nat) : Int), .int .u32 (A : Int), .int .i64 s] w fun e w' => e = .returned (.bool (W.has n A s)) ∧ w = w') := fun w => rinside_any n A s w hA h.n1 h.n2
  obtain ⟨m, hm⟩ : ∃ m, 16 * n = m := ⟨_, rfl⟩
  rw [hm] at hd HI
  go_enter Tryd.func34, Tryd.ntmps34
  go_wp2_with (go_at_call 46; refine (HI.out _).mono ?_; rintro e w' ⟨rfl, rfl⟩)
  go_ret
  exact ⟨rfl, rfl⟩
end Go.Proofs.YtjdiepklgcdamaaDoor
