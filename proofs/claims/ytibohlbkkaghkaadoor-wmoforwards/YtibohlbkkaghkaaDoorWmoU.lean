/- wmo: Check of operations that are written out; the laws' first. -/
import Derived.Test.YtibohlbkkaghkaaDoorWmoT
namespace Go.Proofs.YtibohlbkkaghkaaDoor
open Go.ChangeShapes Go.WideShapes Go.ChangeAt Go.RowKit Go.Maps
set_option linter.unusedVariables false
set_option linter.unusedSimpArgs false

/-- Refs in memory, written out. -/
theorem os_rows {w : World} (ob : Nat) (rs : List (Nat × Nat)) (hb : ob < w.heap.size) (h : ∀ j, j < rs.length → w.cell? ⟨ob, j * 2, none⟩ = some (.int .i64 ((W.rM rs j).1 : Int)) ∧ w.cell? ⟨ob, j * 2 + 1, none⟩ = some (.int .i64 ((W.rM rs j).2 : Int))) : Os (some ⟨ob, 0, none⟩) rs.length (W.rM rs) w := ⟨fun _ => ⟨ob, rfl, hb, h⟩⟩
/-- What lies in memory for a Check of what is written out. -/
structure Mem (b ob cb : Nat) (LL : List (List W.Opr)) (rs : List (Nat × Nat)) (gs : Nat → Nat) (A : Nat → Addr) (w : World) : Prop where
  bl : b < w.heap.size
  o : ∀ h, h < LL.length → w.cell? ⟨b, h, none⟩ = some (.slice (some ⟨gs h, 0, none⟩) (W.nM LL h) (W.nM LL h))
  i : ∀ h, h < LL.length → w.heap[gs h]? = some (.cells (opsR (LL.getD h [])) 38)
  ol : ob < w.heap.size
  r : ∀ j, j < rs.length → w.cell? ⟨ob, j * 2, none⟩ = some (.int .i64 ((W.rM rs j).1 : Int)) ∧ w.cell? ⟨ob, j * 2 + 1, none⟩ = some (.int .i64 ((W.rM rs j).2 : Int))
  f : Fz cb w
  s : Sent A w
theorem Mem.ck {b ob cb : Nat} {LL : List (List W.Opr)} {rs : List (Nat × Nat)} {gs : Nat → Nat} {A : Nat → Addr} {w : World} (KC : Nat) (m1 m2 : Nat) (h : Mem b ob cb LL rs gs A w) (hc : W.ckB LL rs m1 m2 = true) (hv : ∀ h i, 0 ≤ (W.xM LL h i).o.vl ∧ (W.xM LL h i).o.vl < 4294967296) :
    Ck b LL.length KC (fun h => some ⟨gs h, 0, none⟩) (W.nM LL) (W.nM LL) (W.xM LL) W.sM (some ⟨ob, 0, none⟩) rs.length (W.rM rs) cb A w ∧ (∀ p, p < m1 → W.okR (W.stM LL rs) p) ∧ (m1 < rs.length + 1 → ¬ W.okR (W.stM LL rs) m1) ∧ (∀ p, p < m2 → W.okP (W.stM LL rs) p) ∧ (m2 < rs.length + 1 → ¬ W.okP (W.stM LL rs) m2) := by
  unfold W.ckB at hc
  simp only [Bool.and_eq_true, decide_eq_true_eq] at hc
  obtain ⟨⟨⟨⟨⟨⟨⟨h1, h2⟩, h3⟩, h4⟩, h5⟩, h6⟩, h7⟩, h8⟩ := hc
  have hl := fun p hp => W.all_ok h6 p hp
  simp only [Bool.and_eq_true, decide_eq_true_eq] at hl
  have hvl : ∀ p, 0 ≤ (W.stM LL rs p).o.vl ∧ (W.stM LL rs p).o.vl < 4294967296 := W.stp_P (fun o => 0 ≤ o.vl ∧ o.vl < 4294967296) _ _ _ _ _ _ ⟨Int.le_refl _, (by decide : (0 : Int) < 4294967296)⟩ hv
  refine ⟨⟨hf_rows b LL gs _ h.bl h.o h.i, W.vdB_ok LL h1, os_rows ob rs h.ol h.r, W.orB_ok LL rs h2, fun i hi => W.itB_ok LL rs h3 i hi, h.f, h.s, h4, fun p hp hr k hk => W.frB_ok _ _ h5 hvl p hp hr k hk, fun p hp => (hl p hp).1, fun p hp h0 => ?_⟩, fun p hp => (W.okRb_iff _ _).1 (W.upB_1 h7 p hp), fun hm e => W.upB_2 h7 hm ((W.okRb_iff _ _).2 e), fun p hp => (W.okPb_iff _ _).1 (W.upB_1 h8 p hp), fun hm e => W.upB_2 h8 hm ((W.okPb_iff _ _).2 e)⟩
  have := (hl p hp).2
  rw [Bool.or_eq_true] at this
  rcases this with this | this
  · rw [Bool.not_eq_true', decide_eq_false_iff_not] at this
    exact absurd h0 this
  · exact of_decide_eq_true this
theorem chk_ok {b ob cb : Nat} {LL : List (List W.Opr)} {rs : List (Nat × Nat)} {gs : Nat → Nat} {A : Nat → Addr} {w : World} (K N KC oc : Nat) (hK : K = LL.length) (hN : N = rs.length) (h : Mem b ob cb LL rs gs A w) (hc : W.ckB LL rs (rs.length + 1) (rs.length + 1) = true) (hv : ∀ h i, 0 ≤ (W.xM LL h i).o.vl ∧ (W.xM LL h i).o.vl < 4294967296) :
    Calls Tryd.prog 14 #[.slice (some ⟨b, 0, none⟩) K KC, .slice (some ⟨ob, 0, none⟩) N oc, fvZ cb] w fun e w' => e = .returned .nilIface ∧ Below w.heap.size w w' := by
  subst hK hN
  obtain ⟨h1, h2, h3, h4, h5⟩ := h.ck KC _ _ hc hv
  exact check_ok b _ KC _ _ _ _ _ _ _ oc _ cb A w h1 _ rfl _ rfl h2 h3 h4 h5
theorem chk_val {b ob cb : Nat} {LL : List (List W.Opr)} {rs : List (Nat × Nat)} {gs : Nat → Nat} {A : Nat → Addr} {w : World} (K N KC oc m1 : Nat) (hm : 1 ≤ m1 ∧ m1 < rs.length + 1) (m2 : Nat) (hm2 : m2 ≤ rs.length + 1) (hK : K = LL.length) (hN : N = rs.length) (h : Mem b ob cb LL rs gs A w) (hc : W.ckB LL rs m1 m2 = true) (hv : ∀ h i, 0 ≤ (W.xM LL h i).o.vl ∧ (W.xM LL h i).o.vl < 4294967296) :
    Calls Tryd.prog 14 #[.slice (some ⟨b, 0, none⟩) K KC, .slice (some ⟨ob, 0, none⟩) N oc, fvZ cb] w fun e w' => (∃ q, e = .returned (.iface 78 (.pointer (some ⟨q, 0, none⟩))) ∧ w'.heap[q]? = some (.cells #[.int .i64 ((m1 : Int) - 1), ptr A 1] 80)) ∧ Below w.heap.size w w' := by
  subst hK hN
  obtain ⟨h1, h2, h3, h4, h5⟩ := h.ck KC _ _ hc hv
  exact check_val b _ KC _ _ _ _ _ _ _ oc _ cb A w h1 m1 hm m2 hm2 h2 h3 h4 h5
theorem chk_ord {b ob cb : Nat} {LL : List (List W.Opr)} {rs : List (Nat × Nat)} {gs : Nat → Nat} {A : Nat → Addr} {w : World} (K N KC oc m2 : Nat) (hm : 1 ≤ m2 ∧ m2 < rs.length + 1) (hK : K = LL.length) (hN : N = rs.length) (h : Mem b ob cb LL rs gs A w) (hc : W.ckB LL rs (rs.length + 1) m2 = true) (hv : ∀ h i, 0 ≤ (W.xM LL h i).o.vl ∧ (W.xM LL h i).o.vl < 4294967296) :
    Calls Tryd.prog 14 #[.slice (some ⟨b, 0, none⟩) K KC, .slice (some ⟨ob, 0, none⟩) N oc, fvZ cb] w fun e w' => (∃ q, e = .returned (.iface 78 (.pointer (some ⟨q, 0, none⟩))) ∧ w'.heap[q]? = some (.cells #[.int .i64 ((m2 : Int) - 1), ptr A 0] 80)) ∧ Below w.heap.size w w' := by
  subst hK hN
  obtain ⟨h1, h2, h3, h4, h5⟩ := h.ck KC _ _ hc hv
  exact check_ord b _ KC _ _ _ _ _ _ _ oc _ cb A w h1 _ rfl m2 hm h2 h3 h4 h5
/-- A memory of no bytes. -/
theorem bytes_nil (w : World) : Calls Tryd.prog 22 #[.slice none 0 0] w fun e w' => e = .returned (.slice (some ⟨w.heap.size, 0, none⟩) 0 0) ∧ Below w.heap.size w w' := by
  have hmk : (Instr.makeSlice 61 (.int .i64 0) (.int .i64 0)).run Tryd.prog w = .ok (.slice (some ⟨w.heap.size, 0, none⟩) 0 0) (w.alloc (.cells #[] 5)) := by kernel_rfl
  go_enter Tryd.func22, Tryd.ntmps22
  go_wp2
  go_loopw [3, 4] (fun v i wr => v = .slice (some ⟨w.heap.size, 0, none⟩) 0 0 ∧ i = .int .i64 0 ∧ wr = w.alloc (.cells #[] 5)) (fun _ _ _ => 0)
  case atStart => exact ⟨rfl, rfl, rfl⟩
  case round =>
    obtain ⟨rfl, rfl, rfl⟩ := hrel
    go_wp2
    go_ret
    exact ⟨rfl, (Below.refl _ _).alloc (Nat.le_refl _) _⟩
theorem bytesOf_nil (w : World) : Calls Tryd.prog 13 #[.slice none 0 0] w fun e w' => (∃ cb, e = .returned (fvZ cb) ∧ w.heap.size ≤ cb ∧ Fz cb w') ∧ Below w.heap.size w w' := by
  have hmf : ∀ (fn : Fn) (first cap : Array Value) (w : World), (Instr.makeFunc fn first cap).run Tryd.prog w = .ok (.func fn first cap) w := fun _ _ _ _ => rfl
  have HC : Hid (Calls _ _ _ _ _) := bytes_nil w
  go_enter Tryd.func13, Tryd.ntmps13
  go_wp2_with (fail)
  refine HC.out.mono ?_
  rintro e w1 ⟨rfl, b1⟩
  go_wp2
  go_ret
  have hl := heap_alloc_last w1 (.cells #[.slice (some ⟨w.heap.size, 0, none⟩) 0 0] 61)
  exact ⟨⟨w1.heap.size, rfl, b1.size, ⟨by simp, ⟨_, _, cell_of_row _ _ 0 _ _ (0, 0) hl⟩⟩⟩, b1.alloc b1.size _⟩
end Go.Proofs.YtibohlbkkaghkaaDoor
