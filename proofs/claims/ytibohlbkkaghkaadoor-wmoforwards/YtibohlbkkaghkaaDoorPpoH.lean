/- note, fence. -/
import Derived.Test.YtibohlbkkaghkaaDoorPpoG
namespace Go.Proofs.YtibohlbkkaghkaaDoor
open Go.ChangeShapes Go.WideShapes Go.ChangeAt Go.RowKit
set_option linter.unusedVariables false
set_option linter.unusedSimpArgs false
variable {F : Nat → Option Obj}

theorem LkF.congrG {w0 : World} {d : Kd} {w : World} {G H : Nat → Int} (h : LkF F w0 { d with G := G } w) (e : ∀ i, i < d.n → G i = H i) : LkF F w0 { d with G := H } w :=
  { h with g := h.g.congr fun j hj => by show Value.int .u8 (G j) = .int .u8 (H j); rw [e j hj] }
theorem Li.set {s : W.Sl} {l : List Int} {w : World} (h : Li s l w) (b k : Nat) (v : Value) (hF : ∀ g o, 0 < s.n → s.a = some ⟨g, o, none⟩ → g ≠ b) : Li s l (w.setCell ⟨b, k, none⟩ v) :=
  ⟨h.n, h.m, h.nc, fun h0 => by
    obtain ⟨g, o, e, hl, hc⟩ := h.at_ h0
    exact ⟨g, o, e, by simpa [World.setCell] using hl, fun j x hx => (World.cell?_setCell_other _ _ _ _ (by simp [hF g o h0 e, Ne.symm (hF g o h0 e)])).trans (hc j x hx)⟩⟩
namespace W
theorem note_nil (r : Int) (h : Nat → Int) (i : Nat) : note r [] h i = h i := by unfold note; simp
theorem note_hit (r : Int) (l : List Int) (h : Nat → Int) (j m : Nat) (hx : l[j]? = some (m : Int)) (hr : r ≠ 0) (h0 : (note r (l.take j) h m == 0) = true) (i : Nat) : (if i = m then r else note r (l.take j) h i) = note r (l.take (j + 1)) h i := by
  obtain ⟨hj, e⟩ := List.getElem?_eq_some_iff.1 hx
  have ht : l.take (j + 1) = l.take j ++ [(m : Int)] := by rw [List.take_succ_eq_append_getElem hj, e]
  rw [ht]
  have h0' : note r (l.take j) h m = 0 := by simpa using h0
  have hm : h m = 0 := by
    unfold note at h0'
    cases h1 : (h m == 0)
    · rw [h1] at h0'; simpa using h0'
    · simpa using h1
  by_cases e : i = m
  · subst e
    rw [if_pos rfl]
    unfold note
    rw [hm]
    simp
  · rw [if_neg e]
    have hc : (l.take j ++ [(m : Int)]).contains (i : Int) = (l.take j).contains (i : Int) := by
      rw [Bool.eq_iff_iff]
      simp only [List.contains_iff_mem, List.mem_append, List.mem_singleton]
      constructor
      · rintro (h | h)
        · exact h
        · exact absurd (by omega : i = m) e
      · exact Or.inl
    unfold note
    rw [hc]
theorem note_miss (r : Int) (l : List Int) (h : Nat → Int) (j n : Nat) (x : Int) (hx : l[j]? = some x) (h0 : ∀ m : Nat, x = (m : Int) → m < n → (note r (l.take j) h m == 0) = false) (i : Nat) (hi : i < n) : note r (l.take j) h i = note r (l.take (j + 1)) h i := by
  obtain ⟨hj, e⟩ := List.getElem?_eq_some_iff.1 hx
  have ht : l.take (j + 1) = l.take j ++ [x] := by rw [List.take_succ_eq_append_getElem hj, e]
  rw [ht]
  by_cases e : x = (i : Int)
  · have h1 := h0 i e hi
    subst e
    unfold note at h1 ⊢
    cases h2 : (h i == 0)
    · simp
    · cases h3 : (l.take j).contains (i : Int)
      · rw [h2, h3] at h1; simp at h1 h2; exact absurd h2 h1
      · simp at h3
        simp [h3]
  · have hc : (l.take j ++ [x]).contains (i : Int) = (l.take j).contains (i : Int) := by
      rw [Bool.eq_iff_iff]
      simp only [List.contains_iff_mem, List.mem_append, List.mem_singleton]
      constructor
      · rintro (h | h)
        · exact h
        · exact absurd h.symm e
      · exact Or.inl
    unfold note
    rw [hc]
end W
set_option maxHeartbeats 1600000 in
theorem note_any (w0 : World) (d : Kd) (w : World) (h : LkF F w0 d w) (hn : d.n ≤ 4096) (r : Int) (hr : r ≠ 0) (s : W.Sl) (l : List Int) (hs : Li s l w) (hF : ∀ g o, 0 < s.n → s.a = some ⟨g, o, none⟩ → g ≠ d.hb) :
    Calls Tryd.prog 73 #[.pointer (some ⟨d.kb, 0, none⟩), .int .u8 r, slV s] w fun e w' => e = .returned (.tuple #[]) ∧ LkF F w0 { d with G := W.note r l d.G } w' := by
  have sn := hs.n
  have sm := hs.m
  obtain ⟨a, n, c⟩ := s
  dsimp only at sn sm
  subst sn
  unfold slV
  dsimp only
  have HS : Hid (Li ⟨a, l.length, c⟩ l w ∧ LkF F w0 d w ∧ ∀ g o, 0 < l.length → a = some ⟨g, o, none⟩ → g ≠ d.hb) := ⟨hs, h, hF⟩
  clear hs h hF
  go_enter Tryd.func73, Tryd.ntmps73
  go_wp2
  go_loopw [10] (fun i wr => ∃ j : Nat, j ≤ l.length ∧ i = .int .i64 (j : Int) ∧ LkF F w0 { d with G := W.note r (l.take j) d.G } wr ∧ Li ⟨a, l.length, c⟩ l wr) (fun i _ => l.length - (intOf i).toNat)
  case atStart =>
    refine ⟨0, by omega, rfl, ?_, HS.out.1⟩
    exact LkF.congrG (d := d) (G := d.G) HS.out.2.1 fun i hi => by rw [List.take_zero, W.note_nil]
  case round =>
    obtain ⟨j, hj, rfl, hL, hI⟩ := hrel
    by_cases hlt : j < l.length
    · obtain ⟨gb, go, rfl, gl, gc⟩ := hI.at_ (by show 0 < l.length; omega)
      have g0 := gc j l[j] (List.getElem?_eq_getElem hlt)
      have ex : l[j]? = some l[j] := List.getElem?_eq_getElem hlt
      have hne := HS.out.2.2 gb go (by omega) rfl
      generalize l[j] = x at *
      have c4 := hL.k.c 4 (by decide)
      have kl := hL.k.lt
      have hl := hL.g.lt
      have fz := hL.g.fz
      simp only [Kd.f] at c4 kl hl fz
      have HL : Hid (_ ∧ _ ∧ _) := ⟨hL, hI, ex⟩
      clear gc
      by_cases x0 : 0 ≤ x
      · obtain ⟨m, rfl⟩ := Int.eq_ofNat_of_zero_le x0
        by_cases x1 : m < d.n
        · have gm := hL.g.c m x1
          dsimp only at gm
          have x1' : (m : Int) < (d.n : Int) := by omega
          clear hL hI ex
          cases hz : (W.note r (l.take j) d.G m == 0)
          · have E := W.note_miss r l d.G j d.n (m : Int) HL.out.2.2 (fun m' e _ => by have e' : m = m' := (by omega); subst e'; exact hz)
            have X : Hid (LkF F w0 { d with G := W.note r (l.take (j + 1)) d.G } wr) := LkF.congrG HL.out.1 E
            clear E
            go_wp2
            go_roundw
            case rel => exact ⟨j + 1, by omega, by go_num, X.out, HL.out.2.1⟩
            case measure => simp [intOf]; omega
          · have X : Hid (LkF F w0 { d with G := W.note r (l.take (j + 1)) d.G } (wr.setCell ⟨d.hb, m, none⟩ (.int .u8 r)) ∧ Li ⟨some ⟨gb, go, none⟩, l.length, c⟩ l (wr.setCell ⟨d.hb, m, none⟩ (.int .u8 r))) :=
              ⟨LkF.congrG (HL.out.1.setG m r) (fun i hi => W.note_hit r l d.G j m HL.out.2.2 hr hz i), HL.out.2.1.set _ _ _ (fun g o _ e => by cases e; exact hne)⟩
            go_wp2
            go_roundw
            case rel => exact ⟨j + 1, by omega, by go_num, X.out.1, X.out.2⟩
            case measure => simp [intOf]; omega
        · have x1' : ¬ (m : Int) < (d.n : Int) := by omega
          have X : Hid (LkF F w0 { d with G := W.note r (l.take (j + 1)) d.G } wr) := LkF.congrG hL (W.note_miss r l d.G j d.n (m : Int) ex (fun m' e h2 => by omega))
          clear hL hI ex
          go_wp2
          go_roundw
          case rel => exact ⟨j + 1, by omega, by go_num, X.out, HL.out.2.1⟩
          case measure => simp [intOf]; omega
      · have X : Hid (LkF F w0 { d with G := W.note r (l.take (j + 1)) d.G } wr) := LkF.congrG hL (W.note_miss r l d.G j d.n x ex (fun m' e h2 => by omega))
        clear hL hI ex
        go_wp2
        go_roundw
        case rel => exact ⟨j + 1, by omega, by go_num, X.out, HL.out.2.1⟩
        case measure => simp [intOf]; omega
    · obtain rfl : j = l.length := by omega
      rw [List.take_length] at hL
      have X : Hid (LkF F w0 { d with G := W.note r l d.G } wr) := hL
      clear hL hI
      go_wp2
      go_end0
      exact ⟨rfl, X.out⟩
end Go.Proofs.YtibohlbkkaghkaaDoor
