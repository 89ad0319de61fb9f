/- Texts in one: PpoS0. -/
import Derived.Deep.RegionWith
import Derived.Deep.CutRange
import Derived.Test.YtibohlbkkaghkaaDoorJ01
/- A new look. -/
namespace Go.Proofs.YtibohlbkkaghkaaDoor
open Go.ChangeShapes Go.WideShapes Go.ChangeAt Go.RowKit
set_option linter.unusedVariables false
set_option linter.unusedSimpArgs false

def W.act0 : W.Act := ⟨⟨0, 0⟩, 0⟩
def kd0 (kb ab pb rb hb n : Nat) (l : Value) (P : Nat → Int) : Kd := ⟨kb, ab, pb, rb, hb, n, l, fun _ => W.act0, P, fun _ => 0, fun _ => 0, W.act0, 0, W.Sl.nil, []⟩
theorem Bc.of_made {w : World} {b m : Nat} (z : Array Value) (T : TypeId) (hh : w.heap[b]? = some (.cells (madeCells z m) T)) : Bc b m (fun j => z[j % z.size]!) w :=
  ⟨(Array.getElem?_eq_some_iff.1 hh).1, fun j hj => (cell_of_row _ _ j _ T (0, 0) hh).trans (made_get z m j hj), fun j => by unfold World.frozen?; rw [hh]; simp⟩
def boxC (l : Value) (ab pb rb hb n : Nat) : Array Value := #[l, .slice (some ⟨ab, 0, none⟩) n n, .slice (some ⟨pb, 0, none⟩) n n, .slice (some ⟨rb, 0, none⟩) n n, .slice (some ⟨hb, 0, none⟩) n n, .int .u32 0, .int .u64 0, .int .u8 0, .int .u8 0, .slice none 0 0]
theorem lk_new (w0 w : World) (kb ab pb rb hb n : Nat) (l : Value) (P : Nat → Int) (T : TypeId) (bl : Below w0.heap.size w0 w) (hk : w.heap[kb]? = some (.cells (boxC l ab pb rb hb n) T)) (ha : w.heap[ab]? = some (.cells (madeCells #[.int .u32 0, .int .u64 0, .int .u8 0] (n * 3)) 117)) (hp : Bc pb n (fun j => .int .i64 (P j)) w) (hr : w.heap[rb]? = some (.cells (madeCells #[.int .u8 0] n) 121)) (hg : w.heap[hb]? = some (.cells (madeCells #[.int .u8 0] n) 121))
    (n1 : w0.heap.size ≤ kb ∧ w0.heap.size ≤ ab ∧ w0.heap.size ≤ pb ∧ w0.heap.size ≤ rb ∧ w0.heap.size ≤ hb) (n2 : kb ≠ ab ∧ kb ≠ pb ∧ kb ≠ rb ∧ kb ≠ hb ∧ ab ≠ pb ∧ ab ≠ rb ∧ ab ≠ hb ∧ pb ≠ rb ∧ pb ≠ hb ∧ rb ≠ hb) : LkF F0 w0 (kd0 kb ab pb rb hb n l P) w := by
  obtain ⟨m1, m2, m3, m4, m5⟩ := n1
  obtain ⟨q1, q2, q3, q4, q5, q6, q7, q8, q9, q10⟩ := n2
  have no : ∀ b, some b ≠ (slV W.Sl.nil).ownBlock := fun b e => by simp [slV, W.Sl.nil, Value.ownBlock] at e
  refine ⟨bl, ⟨(Array.getElem?_eq_some_iff.1 hk).1, fun j hj => (cell_of_row _ _ j _ T (0, 0) hk).trans ?_, fun j => by simp [World.frozen?, kd0, hk]⟩, ?_, hp, ?_, ?_, ⟨rfl, Or.inl ⟨rfl, rfl⟩⟩, m1, m2, m3, m4, m5, q1, q2, q3, q4, q5, q6, q7, q8, q9, q10, no _, no _, no _, no _, no _, (fun s hs => by cases hs), fun c o e => absurd e (by simp [F0])⟩
  · match j, hj with
    | 0, _ => rfl
    | 1, _ => rfl
    | 2, _ => rfl
    | 3, _ => rfl
    | 4, _ => rfl
    | 5, _ => rfl
    | 6, _ => rfl
    | 7, _ => rfl
    | 8, _ => rfl
    | 9, _ => rfl
  · have := Bc.of_made _ _ ha
    rw [Nat.mul_comm] at this
    refine this.congr fun j hj => ?_
    unfold acF
    have h3 : j % 3 = 0 ∨ j % 3 = 1 ∨ j % 3 = 2 := by omega
    show #[Value.int .u32 0, .int .u64 0, .int .u8 0][j % 3]! = _
    rcases h3 with h | h | h <;> rw [h] <;> rfl
  · exact (Bc.of_made _ _ hr).congr fun j hj => by show #[Value.int .u8 0][j % 1]! = _; rw [Nat.mod_one]; rfl
  · exact (Bc.of_made _ _ hg).congr fun j hj => by show #[Value.int .u8 0][j % 1]! = _; rw [Nat.mod_one]; rfl
theorem ha_at (w : World) (o : Obj) (i : Nat) (h : i = w.heap.size) : (w.alloc o).heap[i]? = some o := by subst h; exact heap_alloc_last w o
theorem hd_old (w : World) (i : Nat) : w.drew.heap[i]? = w.heap[i]? := rfl
theorem al_1 (w : World) (a : Obj) : Below w.heap.size w (w.alloc a) := (Below.refl _ _).alloc (Nat.le_refl _) _
theorem al_2 (w : World) (a b : Obj) : Below w.heap.size w ((w.alloc a).alloc b) := (al_1 w a).alloc (by simp) _
theorem al_3 (w : World) (a b c : Obj) : Below w.heap.size w (((w.alloc a).alloc b).alloc c) := (al_2 w a b).alloc (by simp; omega) _
theorem al_4 (w : World) (a b c d : Obj) : Below w.heap.size w ((((w.alloc a).alloc b).alloc c).alloc d) := (al_3 w a b c).alloc (by simp; omega) _
theorem bl_0 {w w5 wf : World} (h : Below w.drew.heap.size w.drew w5) (k : Below w5.heap.size w5 wf) : Below w.heap.size w wf := ((Below.refl _ _).drew.trans h).trans (k.mono h.size)
theorem bl_1 {w w5 wf : World} {a : Obj} (h : Below (w.alloc a).drew.heap.size (w.alloc a).drew w5) (k : Below w5.heap.size w5 wf) : Below w.heap.size w wf := ((al_1 w a).drew.trans (h.mono (by show _ ≤ (w.alloc a).heap.size; simp))).trans (k.mono (by have := h.size; have h2 : (w.alloc a).drew.heap.size = w.heap.size + 1 := (by show (w.alloc a).heap.size = _; simp); omega))
theorem bl_2 {w w5 wf : World} {a b : Obj} (h : Below ((w.alloc a).alloc b).drew.heap.size ((w.alloc a).alloc b).drew w5) (k : Below w5.heap.size w5 wf) : Below w.heap.size w wf := ((al_2 w a b).drew.trans (h.mono (by show _ ≤ ((w.alloc a).alloc b).heap.size; simp; omega))).trans (k.mono (by have := h.size; have h2 : ((w.alloc a).alloc b).drew.heap.size = w.heap.size + 2 := (by show ((w.alloc a).alloc b).heap.size = _; simp); omega))
theorem bl_3 {w w5 wf : World} {a b c : Obj} (h : Below (((w.alloc a).alloc b).alloc c).drew.heap.size (((w.alloc a).alloc b).alloc c).drew w5) (k : Below w5.heap.size w5 wf) : Below w.heap.size w wf := ((al_3 w a b c).drew.trans (h.mono (by show _ ≤ (((w.alloc a).alloc b).alloc c).heap.size; simp; omega))).trans (k.mono (by have := h.size; have h2 : (((w.alloc a).alloc b).alloc c).drew.heap.size = w.heap.size + 3 := (by show (((w.alloc a).alloc b).alloc c).heap.size = _; simp); omega))
theorem ha_last (w : World) (o : Obj) : (w.alloc o).heap[w.heap.size]? = some o := heap_alloc_last w o
theorem ha_old (w : World) (o : Obj) (i : Nat) (h : i < w.heap.size) : (w.alloc o).heap[i]? = w.heap[i]? := (((Below.refl w.heap.size w).alloc (Nat.le_refl _) o).block i h)
theorem leaf_ACRG (a : Option Addr) (n c g : Nat) (P : Nat → Int) (w w5 : World) (OA OR : Obj) (hOA : Hid (OA = (.cells (madeCells #[.int .u32 0, .int .u64 0, .int .u8 0] (n * 3)) 117))) (hOR : Hid (OR = (.cells (madeCells #[.int .u8 0] n) 121))) (b5 : Below ((w.alloc OA).drew).heap.size ((w.alloc OA).drew) w5) (hg : ((w.alloc OA).drew).heap.size ≤ g) (hBc : Bc g n (fun j => .int .i64 (P j)) w5) :
    ∃ kb ab pb rb hb, Value.pointer (some ⟨w5.heap.size + 1 + 1, 0, none⟩) = .pointer (some ⟨kb, 0, none⟩) ∧ LkF F0 w (kd0 kb ab pb rb hb n (.slice a n c) P) (((w5.alloc OR).alloc OR).alloc (.cells #[.slice a n c, .slice (some ⟨w.heap.size, 0, none⟩) n n, .slice (some ⟨g, 0, none⟩) n n, .slice (some ⟨w5.heap.size, 0, none⟩) n n, .slice (some ⟨w5.heap.size + 1, 0, none⟩) n n, .int .u32 0, .int .u64 0, .int .u8 0, .int .u8 0, .slice none 0 0] 120)) := by
      have z5 := b5.size
      have gz := hBc.lt
      simp at z5 hg
      refine ⟨w5.heap.size + 1 + 1, w.heap.size, g, w5.heap.size, w5.heap.size + 1, rfl, lk_new _ _ _ _ _ _ _ _ _ _ 120 ?bl ?hk ?ha ?hp ?hr ?hg ?n1 ?n2⟩
      case hk => exact ha_at _ _ _ (by simp)
      case bl => first | exact bl_0 b5 (al_1 _ _) | exact bl_0 b5 (al_2 _ _ _) | exact bl_0 b5 (al_3 _ _ _ _) | exact bl_0 b5 (al_4 _ _ _ _ _) | exact bl_1 b5 (al_1 _ _) | exact bl_1 b5 (al_2 _ _ _) | exact bl_1 b5 (al_3 _ _ _ _) | exact bl_2 b5 (al_1 _ _) | exact bl_2 b5 (al_2 _ _ _) | exact bl_3 b5 (al_1 _ _)
      case hp => first | exact hBc.below (al_1 _ _) | exact hBc.below (al_2 _ _ _) | exact hBc.below (al_3 _ _ _ _) | exact hBc.below (al_4 _ _ _ _ _)
      case ha =>
        rw [← hOA.out]
        repeat rw [ha_old _ _ _ (by first | omega | (simp; done) | (simp; omega))]
        first
        | exact ha_at _ _ _ (by simp)
        | (rw [b5.block _ (by first | omega | (simp; done) | (simp; omega)), hd_old]
           repeat rw [ha_old _ _ _ (by first | omega | (simp; done) | (simp; omega))]
           exact ha_at _ _ _ (by simp))
      case hr =>
        rw [← hOR.out]
        repeat rw [ha_old _ _ _ (by first | omega | (simp; done) | (simp; omega))]
        first
        | exact ha_at _ _ _ (by simp)
        | (rw [b5.block _ (by first | omega | (simp; done) | (simp; omega)), hd_old]
           repeat rw [ha_old _ _ _ (by first | omega | (simp; done) | (simp; omega))]
           exact ha_at _ _ _ (by simp))
      case hg =>
        rw [← hOR.out]
        repeat rw [ha_old _ _ _ (by first | omega | (simp; done) | (simp; omega))]
        first
        | exact ha_at _ _ _ (by simp)
        | (rw [b5.block _ (by first | omega | (simp; done) | (simp; omega)), hd_old]
           repeat rw [ha_old _ _ _ (by first | omega | (simp; done) | (simp; omega))]
           exact ha_at _ _ _ (by simp))
      case n1 => refine ⟨?_, ?_, ?_, ?_, ?_⟩ <;> omega
      case n2 => refine ⟨?_, ?_, ?_, ?_, ?_, ?_, ?_, ?_, ?_, ?_⟩ <;> omega
theorem leaf_ACGR (a : Option Addr) (n c g : Nat) (P : Nat → Int) (w w5 : World) (OA OR : Obj) (hOA : Hid (OA = (.cells (madeCells #[.int .u32 0, .int .u64 0, .int .u8 0] (n * 3)) 117))) (hOR : Hid (OR = (.cells (madeCells #[.int .u8 0] n) 121))) (b5 : Below ((w.alloc OA).drew).heap.size ((w.alloc OA).drew) w5) (hg : ((w.alloc OA).drew).heap.size ≤ g) (hBc : Bc g n (fun j => .int .i64 (P j)) w5) :
    ∃ kb ab pb rb hb, Value.pointer (some ⟨w5.heap.size + 1 + 1, 0, none⟩) = .pointer (some ⟨kb, 0, none⟩) ∧ LkF F0 w (kd0 kb ab pb rb hb n (.slice a n c) P) (((w5.alloc OR).alloc OR).alloc (.cells #[.slice a n c, .slice (some ⟨w.heap.size, 0, none⟩) n n, .slice (some ⟨g, 0, none⟩) n n, .slice (some ⟨w5.heap.size + 1, 0, none⟩) n n, .slice (some ⟨w5.heap.size, 0, none⟩) n n, .int .u32 0, .int .u64 0, .int .u8 0, .int .u8 0, .slice none 0 0] 120)) := by
      have z5 := b5.size
      have gz := hBc.lt
      simp at z5 hg
      refine ⟨w5.heap.size + 1 + 1, w.heap.size, g, w5.heap.size + 1, w5.heap.size, rfl, lk_new _ _ _ _ _ _ _ _ _ _ 120 ?bl ?hk ?ha ?hp ?hr ?hg ?n1 ?n2⟩
      case hk => exact ha_at _ _ _ (by simp)
      case bl => first | exact bl_0 b5 (al_1 _ _) | exact bl_0 b5 (al_2 _ _ _) | exact bl_0 b5 (al_3 _ _ _ _) | exact bl_0 b5 (al_4 _ _ _ _ _) | exact bl_1 b5 (al_1 _ _) | exact bl_1 b5 (al_2 _ _ _) | exact bl_1 b5 (al_3 _ _ _ _) | exact bl_2 b5 (al_1 _ _) | exact bl_2 b5 (al_2 _ _ _) | exact bl_3 b5 (al_1 _ _)
      case hp => first | exact hBc.below (al_1 _ _) | exact hBc.below (al_2 _ _ _) | exact hBc.below (al_3 _ _ _ _) | exact hBc.below (al_4 _ _ _ _ _)
      case ha =>
        rw [← hOA.out]
        repeat rw [ha_old _ _ _ (by first | omega | (simp; done) | (simp; omega))]
        first
        | exact ha_at _ _ _ (by simp)
        | (rw [b5.block _ (by first | omega | (simp; done) | (simp; omega)), hd_old]
           repeat rw [ha_old _ _ _ (by first | omega | (simp; done) | (simp; omega))]
           exact ha_at _ _ _ (by simp))
      case hr =>
        rw [← hOR.out]
        repeat rw [ha_old _ _ _ (by first | omega | (simp; done) | (simp; omega))]
        first
        | exact ha_at _ _ _ (by simp)
        | (rw [b5.block _ (by first | omega | (simp; done) | (simp; omega)), hd_old]
           repeat rw [ha_old _ _ _ (by first | omega | (simp; done) | (simp; omega))]
           exact ha_at _ _ _ (by simp))
      case hg =>
        rw [← hOR.out]
        repeat rw [ha_old _ _ _ (by first | omega | (simp; done) | (simp; omega))]
        first
        | exact ha_at _ _ _ (by simp)
        | (rw [b5.block _ (by first | omega | (simp; done) | (simp; omega)), hd_old]
           repeat rw [ha_old _ _ _ (by first | omega | (simp; done) | (simp; omega))]
           exact ha_at _ _ _ (by simp))
      case n1 => refine ⟨?_, ?_, ?_, ?_, ?_⟩ <;> omega
      case n2 => refine ⟨?_, ?_, ?_, ?_, ?_, ?_, ?_, ?_, ?_, ?_⟩ <;> omega
theorem leaf_ARCG (a : Option Addr) (n c g : Nat) (P : Nat → Int) (w w5 : World) (OA OR : Obj) (hOA : Hid (OA = (.cells (madeCells #[.int .u32 0, .int .u64 0, .int .u8 0] (n * 3)) 117))) (hOR : Hid (OR = (.cells (madeCells #[.int .u8 0] n) 121))) (b5 : Below (((w.alloc OA).alloc OR).drew).heap.size (((w.alloc OA).alloc OR).drew) w5) (hg : (((w.alloc OA).alloc OR).drew).heap.size ≤ g) (hBc : Bc g n (fun j => .int .i64 (P j)) w5) :
    ∃ kb ab pb rb hb, Value.pointer (some ⟨w5.heap.size + 1, 0, none⟩) = .pointer (some ⟨kb, 0, none⟩) ∧ LkF F0 w (kd0 kb ab pb rb hb n (.slice a n c) P) ((w5.alloc OR).alloc (.cells #[.slice a n c, .slice (some ⟨w.heap.size, 0, none⟩) n n, .slice (some ⟨g, 0, none⟩) n n, .slice (some ⟨w.heap.size + 1, 0, none⟩) n n, .slice (some ⟨w5.heap.size, 0, none⟩) n n, .int .u32 0, .int .u64 0, .int .u8 0, .int .u8 0, .slice none 0 0] 120)) := by
      have z5 := b5.size
      have gz := hBc.lt
      simp at z5 hg
      refine ⟨w5.heap.size + 1, w.heap.size, g, w.heap.size + 1, w5.heap.size, rfl, lk_new _ _ _ _ _ _ _ _ _ _ 120 ?bl ?hk ?ha ?hp ?hr ?hg ?n1 ?n2⟩
      case hk => exact ha_at _ _ _ (by simp)
      case bl => first | exact bl_0 b5 (al_1 _ _) | exact bl_0 b5 (al_2 _ _ _) | exact bl_0 b5 (al_3 _ _ _ _) | exact bl_0 b5 (al_4 _ _ _ _ _) | exact bl_1 b5 (al_1 _ _) | exact bl_1 b5 (al_2 _ _ _) | exact bl_1 b5 (al_3 _ _ _ _) | exact bl_2 b5 (al_1 _ _) | exact bl_2 b5 (al_2 _ _ _) | exact bl_3 b5 (al_1 _ _)
      case hp => first | exact hBc.below (al_1 _ _) | exact hBc.below (al_2 _ _ _) | exact hBc.below (al_3 _ _ _ _) | exact hBc.below (al_4 _ _ _ _ _)
      case ha =>
        rw [← hOA.out]
        repeat rw [ha_old _ _ _ (by first | omega | (simp; done) | (simp; omega))]
        first
        | exact ha_at _ _ _ (by simp)
        | (rw [b5.block _ (by first | omega | (simp; done) | (simp; omega)), hd_old]
           repeat rw [ha_old _ _ _ (by first | omega | (simp; done) | (simp; omega))]
           exact ha_at _ _ _ (by simp))
      case hr =>
        rw [← hOR.out]
        repeat rw [ha_old _ _ _ (by first | omega | (simp; done) | (simp; omega))]
        first
        | exact ha_at _ _ _ (by simp)
        | (rw [b5.block _ (by first | omega | (simp; done) | (simp; omega)), hd_old]
           repeat rw [ha_old _ _ _ (by first | omega | (simp; done) | (simp; omega))]
           exact ha_at _ _ _ (by simp))
      case hg =>
        rw [← hOR.out]
        repeat rw [ha_old _ _ _ (by first | omega | (simp; done) | (simp; omega))]
        first
        | exact ha_at _ _ _ (by simp)
        | (rw [b5.block _ (by first | omega | (simp; done) | (simp; omega)), hd_old]
           repeat rw [ha_old _ _ _ (by first | omega | (simp; done) | (simp; omega))]
           exact ha_at _ _ _ (by simp))
      case n1 => refine ⟨?_, ?_, ?_, ?_, ?_⟩ <;> omega
      case n2 => refine ⟨?_, ?_, ?_, ?_, ?_, ?_, ?_, ?_, ?_, ?_⟩ <;> omega
theorem leaf_ARGC (a : Option Addr) (n c g : Nat) (P : Nat → Int) (w w5 : World) (OA OR : Obj) (hOA : Hid (OA = (.cells (madeCells #[.int .u32 0, .int .u64 0, .int .u8 0] (n * 3)) 117))) (hOR : Hid (OR = (.cells (madeCells #[.int .u8 0] n) 121))) (b5 : Below ((((w.alloc OA).alloc OR).alloc OR).drew).heap.size ((((w.alloc OA).alloc OR).alloc OR).drew) w5) (hg : ((((w.alloc OA).alloc OR).alloc OR).drew).heap.size ≤ g) (hBc : Bc g n (fun j => .int .i64 (P j)) w5) :
    ∃ kb ab pb rb hb, Value.pointer (some ⟨w5.heap.size, 0, none⟩) = .pointer (some ⟨kb, 0, none⟩) ∧ LkF F0 w (kd0 kb ab pb rb hb n (.slice a n c) P) (w5.alloc (.cells #[.slice a n c, .slice (some ⟨w.heap.size, 0, none⟩) n n, .slice (some ⟨g, 0, none⟩) n n, .slice (some ⟨w.heap.size + 1, 0, none⟩) n n, .slice (some ⟨w.heap.size + 1 + 1, 0, none⟩) n n, .int .u32 0, .int .u64 0, .int .u8 0, .int .u8 0, .slice none 0 0] 120)) := by
      have z5 := b5.size
      have gz := hBc.lt
      simp at z5 hg
      refine ⟨w5.heap.size, w.heap.size, g, w.heap.size + 1, w.heap.size + 1 + 1, rfl, lk_new _ _ _ _ _ _ _ _ _ _ 120 ?bl ?hk ?ha ?hp ?hr ?hg ?n1 ?n2⟩
      case hk => exact ha_at _ _ _ (by simp)
      case bl => first | exact bl_0 b5 (al_1 _ _) | exact bl_0 b5 (al_2 _ _ _) | exact bl_0 b5 (al_3 _ _ _ _) | exact bl_0 b5 (al_4 _ _ _ _ _) | exact bl_1 b5 (al_1 _ _) | exact bl_1 b5 (al_2 _ _ _) | exact bl_1 b5 (al_3 _ _ _ _) | exact bl_2 b5 (al_1 _ _) | exact bl_2 b5 (al_2 _ _ _) | exact bl_3 b5 (al_1 _ _)
      case hp => first | exact hBc.below (al_1 _ _) | exact hBc.below (al_2 _ _ _) | exact hBc.below (al_3 _ _ _ _) | exact hBc.below (al_4 _ _ _ _ _)
      case ha =>
        rw [← hOA.out]
        repeat rw [ha_old _ _ _ (by first | omega | (simp; done) | (simp; omega))]
        first
        | exact ha_at _ _ _ (by simp)
        | (rw [b5.block _ (by first | omega | (simp; done) | (simp; omega)), hd_old]
           repeat rw [ha_old _ _ _ (by first | omega | (simp; done) | (simp; omega))]
           exact ha_at _ _ _ (by simp))
      case hr =>
        rw [← hOR.out]
        repeat rw [ha_old _ _ _ (by first | omega | (simp; done) | (simp; omega))]
        first
        | exact ha_at _ _ _ (by simp)
        | (rw [b5.block _ (by first | omega | (simp; done) | (simp; omega)), hd_old]
           repeat rw [ha_old _ _ _ (by first | omega | (simp; done) | (simp; omega))]
           exact ha_at _ _ _ (by simp))
      case hg =>
        rw [← hOR.out]
        repeat rw [ha_old _ _ _ (by first | omega | (simp; done) | (simp; omega))]
        first
        | exact ha_at _ _ _ (by simp)
        | (rw [b5.block _ (by first | omega | (simp; done) | (simp; omega)), hd_old]
           repeat rw [ha_old _ _ _ (by first | omega | (simp; done) | (simp; omega))]
           exact ha_at _ _ _ (by simp))
      case n1 => refine ⟨?_, ?_, ?_, ?_, ?_⟩ <;> omega
      case n2 => refine ⟨?_, ?_, ?_, ?_, ?_, ?_, ?_, ?_, ?_, ?_⟩ <;> omega
theorem leaf_AGCR (a : Option Addr) (n c g : Nat) (P : Nat → Int) (w w5 : World) (OA OR : Obj) (hOA : Hid (OA = (.cells (madeCells #[.int .u32 0, .int .u64 0, .int .u8 0] (n * 3)) 117))) (hOR : Hid (OR = (.cells (madeCells #[.int .u8 0] n) 121))) (b5 : Below (((w.alloc OA).alloc OR).drew).heap.size (((w.alloc OA).alloc OR).drew) w5) (hg : (((w.alloc OA).alloc OR).drew).heap.size ≤ g) (hBc : Bc g n (fun j => .int .i64 (P j)) w5) :
    ∃ kb ab pb rb hb, Value.pointer (some ⟨w5.heap.size + 1, 0, none⟩) = .pointer (some ⟨kb, 0, none⟩) ∧ LkF F0 w (kd0 kb ab pb rb hb n (.slice a n c) P) ((w5.alloc OR).alloc (.cells #[.slice a n c, .slice (some ⟨w.heap.size, 0, none⟩) n n, .slice (some ⟨g, 0, none⟩) n n, .slice (some ⟨w5.heap.size, 0, none⟩) n n, .slice (some ⟨w.heap.size + 1, 0, none⟩) n n, .int .u32 0, .int .u64 0, .int .u8 0, .int .u8 0, .slice none 0 0] 120)) := by
      have z5 := b5.size
      have gz := hBc.lt
      simp at z5 hg
      refine ⟨w5.heap.size + 1, w.heap.size, g, w5.heap.size, w.heap.size + 1, rfl, lk_new _ _ _ _ _ _ _ _ _ _ 120 ?bl ?hk ?ha ?hp ?hr ?hg ?n1 ?n2⟩
      case hk => exact ha_at _ _ _ (by simp)
      case bl => first | exact bl_0 b5 (al_1 _ _) | exact bl_0 b5 (al_2 _ _ _) | exact bl_0 b5 (al_3 _ _ _ _) | exact bl_0 b5 (al_4 _ _ _ _ _) | exact bl_1 b5 (al_1 _ _) | exact bl_1 b5 (al_2 _ _ _) | exact bl_1 b5 (al_3 _ _ _ _) | exact bl_2 b5 (al_1 _ _) | exact bl_2 b5 (al_2 _ _ _) | exact bl_3 b5 (al_1 _ _)
      case hp => first | exact hBc.below (al_1 _ _) | exact hBc.below (al_2 _ _ _) | exact hBc.below (al_3 _ _ _ _) | exact hBc.below (al_4 _ _ _ _ _)
      case ha =>
        rw [← hOA.out]
        repeat rw [ha_old _ _ _ (by first | omega | (simp; done) | (simp; omega))]
        first
        | exact ha_at _ _ _ (by simp)
        | (rw [b5.block _ (by first | omega | (simp; done) | (simp; omega)), hd_old]
           repeat rw [ha_old _ _ _ (by first | omega | (simp; done) | (simp; omega))]
           exact ha_at _ _ _ (by simp))
      case hr =>
        rw [← hOR.out]
        repeat rw [ha_old _ _ _ (by first | omega | (simp; done) | (simp; omega))]
        first
        | exact ha_at _ _ _ (by simp)
        | (rw [b5.block _ (by first | omega | (simp; done) | (simp; omega)), hd_old]
           repeat rw [ha_old _ _ _ (by first | omega | (simp; done) | (simp; omega))]
           exact ha_at _ _ _ (by simp))
      case hg =>
        rw [← hOR.out]
        repeat rw [ha_old _ _ _ (by first | omega | (simp; done) | (simp; omega))]
        first
        | exact ha_at _ _ _ (by simp)
        | (rw [b5.block _ (by first | omega | (simp; done) | (simp; omega)), hd_old]
           repeat rw [ha_old _ _ _ (by first | omega | (simp; done) | (simp; omega))]
           exact ha_at _ _ _ (by simp))
      case n1 => refine ⟨?_, ?_, ?_, ?_, ?_⟩ <;> omega
      case n2 => refine ⟨?_, ?_, ?_, ?_, ?_, ?_, ?_, ?_, ?_, ?_⟩ <;> omega
theorem leaf_AGRC (a : Option Addr) (n c g : Nat) (P : Nat → Int) (w w5 : World) (OA OR : Obj) (hOA : Hid (OA = (.cells (madeCells #[.int .u32 0, .int .u64 0, .int .u8 0] (n * 3)) 117))) (hOR : Hid (OR = (.cells (madeCells #[.int .u8 0] n) 121))) (b5 : Below ((((w.alloc OA).alloc OR).alloc OR).drew).heap.size ((((w.alloc OA).alloc OR).alloc OR).drew) w5) (hg : ((((w.alloc OA).alloc OR).alloc OR).drew).heap.size ≤ g) (hBc : Bc g n (fun j => .int .i64 (P j)) w5) :
    ∃ kb ab pb rb hb, Value.pointer (some ⟨w5.heap.size, 0, none⟩) = .pointer (some ⟨kb, 0, none⟩) ∧ LkF F0 w (kd0 kb ab pb rb hb n (.slice a n c) P) (w5.alloc (.cells #[.slice a n c, .slice (some ⟨w.heap.size, 0, none⟩) n n, .slice (some ⟨g, 0, none⟩) n n, .slice (some ⟨w.heap.size + 1 + 1, 0, none⟩) n n, .slice (some ⟨w.heap.size + 1, 0, none⟩) n n, .int .u32 0, .int .u64 0, .int .u8 0, .int .u8 0, .slice none 0 0] 120)) := by
      have z5 := b5.size
      have gz := hBc.lt
      simp at z5 hg
      refine ⟨w5.heap.size, w.heap.size, g, w.heap.size + 1 + 1, w.heap.size + 1, rfl, lk_new _ _ _ _ _ _ _ _ _ _ 120 ?bl ?hk ?ha ?hp ?hr ?hg ?n1 ?n2⟩
      case hk => exact ha_at _ _ _ (by simp)
      case bl => first | exact bl_0 b5 (al_1 _ _) | exact bl_0 b5 (al_2 _ _ _) | exact bl_0 b5 (al_3 _ _ _ _) | exact bl_0 b5 (al_4 _ _ _ _ _) | exact bl_1 b5 (al_1 _ _) | exact bl_1 b5 (al_2 _ _ _) | exact bl_1 b5 (al_3 _ _ _ _) | exact bl_2 b5 (al_1 _ _) | exact bl_2 b5 (al_2 _ _ _) | exact bl_3 b5 (al_1 _ _)
      case hp => first | exact hBc.below (al_1 _ _) | exact hBc.below (al_2 _ _ _) | exact hBc.below (al_3 _ _ _ _) | exact hBc.below (al_4 _ _ _ _ _)
      case ha =>
        rw [← hOA.out]
        repeat rw [ha_old _ _ _ (by first | omega | (simp; done) | (simp; omega))]
        first
        | exact ha_at _ _ _ (by simp)
        | (rw [b5.block _ (by first | omega | (simp; done) | (simp; omega)), hd_old]
           repeat rw [ha_old _ _ _ (by first | omega | (simp; done) | (simp; omega))]
           exact ha_at _ _ _ (by simp))
      case hr =>
        rw [← hOR.out]
        repeat rw [ha_old _ _ _ (by first | omega | (simp; done) | (simp; omega))]
        first
        | exact ha_at _ _ _ (by simp)
        | (rw [b5.block _ (by first | omega | (simp; done) | (simp; omega)), hd_old]
           repeat rw [ha_old _ _ _ (by first | omega | (simp; done) | (simp; omega))]
           exact ha_at _ _ _ (by simp))
      case hg =>
        rw [← hOR.out]
        repeat rw [ha_old _ _ _ (by first | omega | (simp; done) | (simp; omega))]
        first
        | exact ha_at _ _ _ (by simp)
        | (rw [b5.block _ (by first | omega | (simp; done) | (simp; omega)), hd_old]
           repeat rw [ha_old _ _ _ (by first | omega | (simp; done) | (simp; omega))]
           exact ha_at _ _ _ (by simp))
      case n1 => refine ⟨?_, ?_, ?_, ?_, ?_⟩ <;> omega
      case n2 => refine ⟨?_, ?_, ?_, ?_, ?_, ?_, ?_, ?_, ?_, ?_⟩ <;> omega
theorem leaf_CARG (a : Option Addr) (n c g : Nat) (P : Nat → Int) (w w5 : World) (OA OR : Obj) (hOA : Hid (OA = (.cells (madeCells #[.int .u32 0, .int .u64 0, .int .u8 0] (n * 3)) 117))) (hOR : Hid (OR = (.cells (madeCells #[.int .u8 0] n) 121))) (b5 : Below (w.drew).heap.size (w.drew) w5) (hg : (w.drew).heap.size ≤ g) (hBc : Bc g n (fun j => .int .i64 (P j)) w5) :
    ∃ kb ab pb rb hb, Value.pointer (some ⟨w5.heap.size + 1 + 1 + 1, 0, none⟩) = .pointer (some ⟨kb, 0, none⟩) ∧ LkF F0 w (kd0 kb ab pb rb hb n (.slice a n c) P) ((((w5.alloc OA).alloc OR).alloc OR).alloc (.cells #[.slice a n c, .slice (some ⟨w5.heap.size, 0, none⟩) n n, .slice (some ⟨g, 0, none⟩) n n, .slice (some ⟨w5.heap.size + 1, 0, none⟩) n n, .slice (some ⟨w5.heap.size + 1 + 1, 0, none⟩) n n, .int .u32 0, .int .u64 0, .int .u8 0, .int .u8 0, .slice none 0 0] 120)) := by
      have z5 := b5.size
      have gz := hBc.lt
      simp at z5 hg
      refine ⟨w5.heap.size + 1 + 1 + 1, w5.heap.size, g, w5.heap.size + 1, w5.heap.size + 1 + 1, rfl, lk_new _ _ _ _ _ _ _ _ _ _ 120 ?bl ?hk ?ha ?hp ?hr ?hg ?n1 ?n2⟩
      case hk => exact ha_at _ _ _ (by simp)
      case bl => first | exact bl_0 b5 (al_1 _ _) | exact bl_0 b5 (al_2 _ _ _) | exact bl_0 b5 (al_3 _ _ _ _) | exact bl_0 b5 (al_4 _ _ _ _ _) | exact bl_1 b5 (al_1 _ _) | exact bl_1 b5 (al_2 _ _ _) | exact bl_1 b5 (al_3 _ _ _ _) | exact bl_2 b5 (al_1 _ _) | exact bl_2 b5 (al_2 _ _ _) | exact bl_3 b5 (al_1 _ _)
      case hp => first | exact hBc.below (al_1 _ _) | exact hBc.below (al_2 _ _ _) | exact hBc.below (al_3 _ _ _ _) | exact hBc.below (al_4 _ _ _ _ _)
      case ha =>
        rw [← hOA.out]
        repeat rw [ha_old _ _ _ (by first | omega | (simp; done) | (simp; omega))]
        first
        | exact ha_at _ _ _ (by simp)
        | (rw [b5.block _ (by first | omega | (simp; done) | (simp; omega)), hd_old]
           repeat rw [ha_old _ _ _ (by first | omega | (simp; done) | (simp; omega))]
           exact ha_at _ _ _ (by simp))
      case hr =>
        rw [← hOR.out]
        repeat rw [ha_old _ _ _ (by first | omega | (simp; done) | (simp; omega))]
        first
        | exact ha_at _ _ _ (by simp)
        | (rw [b5.block _ (by first | omega | (simp; done) | (simp; omega)), hd_old]
           repeat rw [ha_old _ _ _ (by first | omega | (simp; done) | (simp; omega))]
           exact ha_at _ _ _ (by simp))
      case hg =>
        rw [← hOR.out]
        repeat rw [ha_old _ _ _ (by first | omega | (simp; done) | (simp; omega))]
        first
        | exact ha_at _ _ _ (by simp)
        | (rw [b5.block _ (by first | omega | (simp; done) | (simp; omega)), hd_old]
           repeat rw [ha_old _ _ _ (by first | omega | (simp; done) | (simp; omega))]
           exact ha_at _ _ _ (by simp))
      case n1 => refine ⟨?_, ?_, ?_, ?_, ?_⟩ <;> omega
      case n2 => refine ⟨?_, ?_, ?_, ?_, ?_, ?_, ?_, ?_, ?_, ?_⟩ <;> omega
theorem leaf_CAGR (a : Option Addr) (n c g : Nat) (P : Nat → Int) (w w5 : World) (OA OR : Obj) (hOA : Hid (OA = (.cells (madeCells #[.int .u32 0, .int .u64 0, .int .u8 0] (n * 3)) 117))) (hOR : Hid (OR = (.cells (madeCells #[.int .u8 0] n) 121))) (b5 : Below (w.drew).heap.size (w.drew) w5) (hg : (w.drew).heap.size ≤ g) (hBc : Bc g n (fun j => .int .i64 (P j)) w5) :
    ∃ kb ab pb rb hb, Value.pointer (some ⟨w5.heap.size + 1 + 1 + 1, 0, none⟩) = .pointer (some ⟨kb, 0, none⟩) ∧ LkF F0 w (kd0 kb ab pb rb hb n (.slice a n c) P) ((((w5.alloc OA).alloc OR).alloc OR).alloc (.cells #[.slice a n c, .slice (some ⟨w5.heap.size, 0, none⟩) n n, .slice (some ⟨g, 0, none⟩) n n, .slice (some ⟨w5.heap.size + 1 + 1, 0, none⟩) n n, .slice (some ⟨w5.heap.size + 1, 0, none⟩) n n, .int .u32 0, .int .u64 0, .int .u8 0, .int .u8 0, .slice none 0 0] 120)) := by
      have z5 := b5.size
      have gz := hBc.lt
      simp at z5 hg
      refine ⟨w5.heap.size + 1 + 1 + 1, w5.heap.size, g, w5.heap.size + 1 + 1, w5.heap.size + 1, rfl, lk_new _ _ _ _ _ _ _ _ _ _ 120 ?bl ?hk ?ha ?hp ?hr ?hg ?n1 ?n2⟩
      case hk => exact ha_at _ _ _ (by simp)
      case bl => first | exact bl_0 b5 (al_1 _ _) | exact bl_0 b5 (al_2 _ _ _) | exact bl_0 b5 (al_3 _ _ _ _) | exact bl_0 b5 (al_4 _ _ _ _ _) | exact bl_1 b5 (al_1 _ _) | exact bl_1 b5 (al_2 _ _ _) | exact bl_1 b5 (al_3 _ _ _ _) | exact bl_2 b5 (al_1 _ _) | exact bl_2 b5 (al_2 _ _ _) | exact bl_3 b5 (al_1 _ _)
      case hp => first | exact hBc.below (al_1 _ _) | exact hBc.below (al_2 _ _ _) | exact hBc.below (al_3 _ _ _ _) | exact hBc.below (al_4 _ _ _ _ _)
      case ha =>
        rw [← hOA.out]
        repeat rw [ha_old _ _ _ (by first | omega | (simp; done) | (simp; omega))]
        first
        | exact ha_at _ _ _ (by simp)
        | (rw [b5.block _ (by first | omega | (simp; done) | (simp; omega)), hd_old]
           repeat rw [ha_old _ _ _ (by first | omega | (simp; done) | (simp; omega))]
           exact ha_at _ _ _ (by simp))
      case hr =>
        rw [← hOR.out]
        repeat rw [ha_old _ _ _ (by first | omega | (simp; done) | (simp; omega))]
        first
        | exact ha_at _ _ _ (by simp)
        | (rw [b5.block _ (by first | omega | (simp; done) | (simp; omega)), hd_old]
           repeat rw [ha_old _ _ _ (by first | omega | (simp; done) | (simp; omega))]
           exact ha_at _ _ _ (by simp))
      case hg =>
        rw [← hOR.out]
        repeat rw [ha_old _ _ _ (by first | omega | (simp; done) | (simp; omega))]
        first
        | exact ha_at _ _ _ (by simp)
        | (rw [b5.block _ (by first | omega | (simp; done) | (simp; omega)), hd_old]
           repeat rw [ha_old _ _ _ (by first | omega | (simp; done) | (simp; omega))]
           exact ha_at _ _ _ (by simp))
      case n1 => refine ⟨?_, ?_, ?_, ?_, ?_⟩ <;> omega
      case n2 => refine ⟨?_, ?_, ?_, ?_, ?_, ?_, ?_, ?_, ?_, ?_⟩ <;> omega
theorem leaf_CRAG (a : Option Addr) (n c g : Nat) (P : Nat → Int) (w w5 : World) (OA OR : Obj) (hOA : Hid (OA = (.cells (madeCells #[.int .u32 0, .int .u64 0, .int .u8 0] (n * 3)) 117))) (hOR : Hid (OR = (.cells (madeCells #[.int .u8 0] n) 121))) (b5 : Below (w.drew).heap.size (w.drew) w5) (hg : (w.drew).heap.size ≤ g) (hBc : Bc g n (fun j => .int .i64 (P j)) w5) :
    ∃ kb ab pb rb hb, Value.pointer (some ⟨w5.heap.size + 1 + 1 + 1, 0, none⟩) = .pointer (some ⟨kb, 0, none⟩) ∧ LkF F0 w (kd0 kb ab pb rb hb n (.slice a n c) P) ((((w5.alloc OR).alloc OA).alloc OR).alloc (.cells #[.slice a n c, .slice (some ⟨w5.heap.size + 1, 0, none⟩) n n, .slice (some ⟨g, 0, none⟩) n n, .slice (some ⟨w5.heap.size, 0, none⟩) n n, .slice (some ⟨w5.heap.size + 1 + 1, 0, none⟩) n n, .int .u32 0, .int .u64 0, .int .u8 0, .int .u8 0, .slice none 0 0] 120)) := by
      have z5 := b5.size
      have gz := hBc.lt
      simp at z5 hg
      refine ⟨w5.heap.size + 1 + 1 + 1, w5.heap.size + 1, g, w5.heap.size, w5.heap.size + 1 + 1, rfl, lk_new _ _ _ _ _ _ _ _ _ _ 120 ?bl ?hk ?ha ?hp ?hr ?hg ?n1 ?n2⟩
      case hk => exact ha_at _ _ _ (by simp)
      case bl => first | exact bl_0 b5 (al_1 _ _) | exact bl_0 b5 (al_2 _ _ _) | exact bl_0 b5 (al_3 _ _ _ _) | exact bl_0 b5 (al_4 _ _ _ _ _) | exact bl_1 b5 (al_1 _ _) | exact bl_1 b5 (al_2 _ _ _) | exact bl_1 b5 (al_3 _ _ _ _) | exact bl_2 b5 (al_1 _ _) | exact bl_2 b5 (al_2 _ _ _) | exact bl_3 b5 (al_1 _ _)
      case hp => first | exact hBc.below (al_1 _ _) | exact hBc.below (al_2 _ _ _) | exact hBc.below (al_3 _ _ _ _) | exact hBc.below (al_4 _ _ _ _ _)
      case ha =>
        rw [← hOA.out]
        repeat rw [ha_old _ _ _ (by first | omega | (simp; done) | (simp; omega))]
        first
        | exact ha_at _ _ _ (by simp)
        | (rw [b5.block _ (by first | omega | (simp; done) | (simp; omega)), hd_old]
           repeat rw [ha_old _ _ _ (by first | omega | (simp; done) | (simp; omega))]
           exact ha_at _ _ _ (by simp))
      case hr =>
        rw [← hOR.out]
        repeat rw [ha_old _ _ _ (by first | omega | (simp; done) | (simp; omega))]
        first
        | exact ha_at _ _ _ (by simp)
        | (rw [b5.block _ (by first | omega | (simp; done) | (simp; omega)), hd_old]
           repeat rw [ha_old _ _ _ (by first | omega | (simp; done) | (simp; omega))]
           exact ha_at _ _ _ (by simp))
      case hg =>
        rw [← hOR.out]
        repeat rw [ha_old _ _ _ (by first | omega | (simp; done) | (simp; omega))]
        first
        | exact ha_at _ _ _ (by simp)
        | (rw [b5.block _ (by first | omega | (simp; done) | (simp; omega)), hd_old]
           repeat rw [ha_old _ _ _ (by first | omega | (simp; done) | (simp; omega))]
           exact ha_at _ _ _ (by simp))
      case n1 => refine ⟨?_, ?_, ?_, ?_, ?_⟩ <;> omega
      case n2 => refine ⟨?_, ?_, ?_, ?_, ?_, ?_, ?_, ?_, ?_, ?_⟩ <;> omega
theorem leaf_CRGA (a : Option Addr) (n c g : Nat) (P : Nat → Int) (w w5 : World) (OA OR : Obj) (hOA : Hid (OA = (.cells (madeCells #[.int .u32 0, .int .u64 0, .int .u8 0] (n * 3)) 117))) (hOR : Hid (OR = (.cells (madeCells #[.int .u8 0] n) 121))) (b5 : Below (w.drew).heap.size (w.drew) w5) (hg : (w.drew).heap.size ≤ g) (hBc : Bc g n (fun j => .int .i64 (P j)) w5) :
    ∃ kb ab pb rb hb, Value.pointer (some ⟨w5.heap.size + 1 + 1 + 1, 0, none⟩) = .pointer (some ⟨kb, 0, none⟩) ∧ LkF F0 w (kd0 kb ab pb rb hb n (.slice a n c) P) ((((w5.alloc OR).alloc OR).alloc OA).alloc (.cells #[.slice a n c, .slice (some ⟨w5.heap.size + 1 + 1, 0, none⟩) n n, .slice (some ⟨g, 0, none⟩) n n, .slice (some ⟨w5.heap.size, 0, none⟩) n n, .slice (some ⟨w5.heap.size + 1, 0, none⟩) n n, .int .u32 0, .int .u64 0, .int .u8 0, .int .u8 0, .slice none 0 0] 120)) := by
      have z5 := b5.size
      have gz := hBc.lt
      simp at z5 hg
      refine ⟨w5.heap.size + 1 + 1 + 1, w5.heap.size + 1 + 1, g, w5.heap.size, w5.heap.size + 1, rfl, lk_new _ _ _ _ _ _ _ _ _ _ 120 ?bl ?hk ?ha ?hp ?hr ?hg ?n1 ?n2⟩
      case hk => exact ha_at _ _ _ (by simp)
      case bl => first | exact bl_0 b5 (al_1 _ _) | exact bl_0 b5 (al_2 _ _ _) | exact bl_0 b5 (al_3 _ _ _ _) | exact bl_0 b5 (al_4 _ _ _ _ _) | exact bl_1 b5 (al_1 _ _) | exact bl_1 b5 (al_2 _ _ _) | exact bl_1 b5 (al_3 _ _ _ _) | exact bl_2 b5 (al_1 _ _) | exact bl_2 b5 (al_2 _ _ _) | exact bl_3 b5 (al_1 _ _)
      case hp => first | exact hBc.below (al_1 _ _) | exact hBc.below (al_2 _ _ _) | exact hBc.below (al_3 _ _ _ _) | exact hBc.below (al_4 _ _ _ _ _)
      case ha =>
        rw [← hOA.out]
        repeat rw [ha_old _ _ _ (by first | omega | (simp; done) | (simp; omega))]
        first
        | exact ha_at _ _ _ (by simp)
        | (rw [b5.block _ (by first | omega | (simp; done) | (simp; omega)), hd_old]
           repeat rw [ha_old _ _ _ (by first | omega | (simp; done) | (simp; omega))]
           exact ha_at _ _ _ (by simp))
      case hr =>
        rw [← hOR.out]
        repeat rw [ha_old _ _ _ (by first | omega | (simp; done) | (simp; omega))]
        first
        | exact ha_at _ _ _ (by simp)
        | (rw [b5.block _ (by first | omega | (simp; done) | (simp; omega)), hd_old]
           repeat rw [ha_old _ _ _ (by first | omega | (simp; done) | (simp; omega))]
           exact ha_at _ _ _ (by simp))
      case hg =>
        rw [← hOR.out]
        repeat rw [ha_old _ _ _ (by first | omega | (simp; done) | (simp; omega))]
        first
        | exact ha_at _ _ _ (by simp)
        | (rw [b5.block _ (by first | omega | (simp; done) | (simp; omega)), hd_old]
           repeat rw [ha_old _ _ _ (by first | omega | (simp; done) | (simp; omega))]
           exact ha_at _ _ _ (by simp))
      case n1 => refine ⟨?_, ?_, ?_, ?_, ?_⟩ <;> omega
      case n2 => refine ⟨?_, ?_, ?_, ?_, ?_, ?_, ?_, ?_, ?_, ?_⟩ <;> omega
theorem leaf_CGAR (a : Option Addr) (n c g : Nat) (P : Nat → Int) (w w5 : World) (OA OR : Obj) (hOA : Hid (OA = (.cells (madeCells #[.int .u32 0, .int .u64 0, .int .u8 0] (n * 3)) 117))) (hOR : Hid (OR = (.cells (madeCells #[.int .u8 0] n) 121))) (b5 : Below (w.drew).heap.size (w.drew) w5) (hg : (w.drew).heap.size ≤ g) (hBc : Bc g n (fun j => .int .i64 (P j)) w5) :
    ∃ kb ab pb rb hb, Value.pointer (some ⟨w5.heap.size + 1 + 1 + 1, 0, none⟩) = .pointer (some ⟨kb, 0, none⟩) ∧ LkF F0 w (kd0 kb ab pb rb hb n (.slice a n c) P) ((((w5.alloc OR).alloc OA).alloc OR).alloc (.cells #[.slice a n c, .slice (some ⟨w5.heap.size + 1, 0, none⟩) n n, .slice (some ⟨g, 0, none⟩) n n, .slice (some ⟨w5.heap.size + 1 + 1, 0, none⟩) n n, .slice (some ⟨w5.heap.size, 0, none⟩) n n, .int .u32 0, .int .u64 0, .int .u8 0, .int .u8 0, .slice none 0 0] 120)) := by
      have z5 := b5.size
      have gz := hBc.lt
      simp at z5 hg
      refine ⟨w5.heap.size + 1 + 1 + 1, w5.heap.size + 1, g, w5.heap.size + 1 + 1, w5.heap.size, rfl, lk_new _ _ _ _ _ _ _ _ _ _ 120 ?bl ?hk ?ha ?hp ?hr ?hg ?n1 ?n2⟩
      case hk => exact ha_at _ _ _ (by simp)
      case bl => first | exact bl_0 b5 (al_1 _ _) | exact bl_0 b5 (al_2 _ _ _) | exact bl_0 b5 (al_3 _ _ _ _) | exact bl_0 b5 (al_4 _ _ _ _ _) | exact bl_1 b5 (al_1 _ _) | exact bl_1 b5 (al_2 _ _ _) | exact bl_1 b5 (al_3 _ _ _ _) | exact bl_2 b5 (al_1 _ _) | exact bl_2 b5 (al_2 _ _ _) | exact bl_3 b5 (al_1 _ _)
      case hp => first | exact hBc.below (al_1 _ _) | exact hBc.below (al_2 _ _ _) | exact hBc.below (al_3 _ _ _ _) | exact hBc.below (al_4 _ _ _ _ _)
      case ha =>
        rw [← hOA.out]
        repeat rw [ha_old _ _ _ (by first | omega | (simp; done) | (simp; omega))]
        first
        | exact ha_at _ _ _ (by simp)
        | (rw [b5.block _ (by first | omega | (simp; done) | (simp; omega)), hd_old]
           repeat rw [ha_old _ _ _ (by first | omega | (simp; done) | (simp; omega))]
           exact ha_at _ _ _ (by simp))
      case hr =>
        rw [← hOR.out]
        repeat rw [ha_old _ _ _ (by first | omega | (simp; done) | (simp; omega))]
        first
        | exact ha_at _ _ _ (by simp)
        | (rw [b5.block _ (by first | omega | (simp; done) | (simp; omega)), hd_old]
           repeat rw [ha_old _ _ _ (by first | omega | (simp; done) | (simp; omega))]
           exact ha_at _ _ _ (by simp))
      case hg =>
        rw [← hOR.out]
        repeat rw [ha_old _ _ _ (by first | omega | (simp; done) | (simp; omega))]
        first
        | exact ha_at _ _ _ (by simp)
        | (rw [b5.block _ (by first | omega | (simp; done) | (simp; omega)), hd_old]
           repeat rw [ha_old _ _ _ (by first | omega | (simp; done) | (simp; omega))]
           exact ha_at _ _ _ (by simp))
      case n1 => refine ⟨?_, ?_, ?_, ?_, ?_⟩ <;> omega
      case n2 => refine ⟨?_, ?_, ?_, ?_, ?_, ?_, ?_, ?_, ?_, ?_⟩ <;> omega
theorem leaf_CGRA (a : Option Addr) (n c g : Nat) (P : Nat → Int) (w w5 : World) (OA OR : Obj) (hOA : Hid (OA = (.cells (madeCells #[.int .u32 0, .int .u64 0, .int .u8 0] (n * 3)) 117))) (hOR : Hid (OR = (.cells (madeCells #[.int .u8 0] n) 121))) (b5 : Below (w.drew).heap.size (w.drew) w5) (hg : (w.drew).heap.size ≤ g) (hBc : Bc g n (fun j => .int .i64 (P j)) w5) :
    ∃ kb ab pb rb hb, Value.pointer (some ⟨w5.heap.size + 1 + 1 + 1, 0, none⟩) = .pointer (some ⟨kb, 0, none⟩) ∧ LkF F0 w (kd0 kb ab pb rb hb n (.slice a n c) P) ((((w5.alloc OR).alloc OR).alloc OA).alloc (.cells #[.slice a n c, .slice (some ⟨w5.heap.size + 1 + 1, 0, none⟩) n n, .slice (some ⟨g, 0, none⟩) n n, .slice (some ⟨w5.heap.size + 1, 0, none⟩) n n, .slice (some ⟨w5.heap.size, 0, none⟩) n n, .int .u32 0, .int .u64 0, .int .u8 0, .int .u8 0, .slice none 0 0] 120)) := by
      have z5 := b5.size
      have gz := hBc.lt
      simp at z5 hg
      refine ⟨w5.heap.size + 1 + 1 + 1, w5.heap.size + 1 + 1, g, w5.heap.size + 1, w5.heap.size, rfl, lk_new _ _ _ _ _ _ _ _ _ _ 120 ?bl ?hk ?ha ?hp ?hr ?hg ?n1 ?n2⟩
      case hk => exact ha_at _ _ _ (by simp)
      case bl => first | exact bl_0 b5 (al_1 _ _) | exact bl_0 b5 (al_2 _ _ _) | exact bl_0 b5 (al_3 _ _ _ _) | exact bl_0 b5 (al_4 _ _ _ _ _) | exact bl_1 b5 (al_1 _ _) | exact bl_1 b5 (al_2 _ _ _) | exact bl_1 b5 (al_3 _ _ _ _) | exact bl_2 b5 (al_1 _ _) | exact bl_2 b5 (al_2 _ _ _) | exact bl_3 b5 (al_1 _ _)
      case hp => first | exact hBc.below (al_1 _ _) | exact hBc.below (al_2 _ _ _) | exact hBc.below (al_3 _ _ _ _) | exact hBc.below (al_4 _ _ _ _ _)
      case ha =>
        rw [← hOA.out]
        repeat rw [ha_old _ _ _ (by first | omega | (simp; done) | (simp; omega))]
        first
        | exact ha_at _ _ _ (by simp)
        | (rw [b5.block _ (by first | omega | (simp; done) | (simp; omega)), hd_old]
           repeat rw [ha_old _ _ _ (by first | omega | (simp; done) | (simp; omega))]
           exact ha_at _ _ _ (by simp))
      case hr =>
        rw [← hOR.out]
        repeat rw [ha_old _ _ _ (by first | omega | (simp; done) | (simp; omega))]
        first
        | exact ha_at _ _ _ (by simp)
        | (rw [b5.block _ (by first | omega | (simp; done) | (simp; omega)), hd_old]
           repeat rw [ha_old _ _ _ (by first | omega | (simp; done) | (simp; omega))]
           exact ha_at _ _ _ (by simp))
      case hg =>
        rw [← hOR.out]
        repeat rw [ha_old _ _ _ (by first | omega | (simp; done) | (simp; omega))]
        first
        | exact ha_at _ _ _ (by simp)
        | (rw [b5.block _ (by first | omega | (simp; done) | (simp; omega)), hd_old]
           repeat rw [ha_old _ _ _ (by first | omega | (simp; done) | (simp; omega))]
           exact ha_at _ _ _ (by simp))
      case n1 => refine ⟨?_, ?_, ?_, ?_, ?_⟩ <;> omega
      case n2 => refine ⟨?_, ?_, ?_, ?_, ?_, ?_, ?_, ?_, ?_, ?_⟩ <;> omega
theorem leaf_RACG (a : Option Addr) (n c g : Nat) (P : Nat → Int) (w w5 : World) (OA OR : Obj) (hOA : Hid (OA = (.cells (madeCells #[.int .u32 0, .int .u64 0, .int .u8 0] (n * 3)) 117))) (hOR : Hid (OR = (.cells (madeCells #[.int .u8 0] n) 121))) (b5 : Below (((w.alloc OR).alloc OA).drew).heap.size (((w.alloc OR).alloc OA).drew) w5) (hg : (((w.alloc OR).alloc OA).drew).heap.size ≤ g) (hBc : Bc g n (fun j => .int .i64 (P j)) w5) :
    ∃ kb ab pb rb hb, Value.pointer (some ⟨w5.heap.size + 1, 0, none⟩) = .pointer (some ⟨kb, 0, none⟩) ∧ LkF F0 w (kd0 kb ab pb rb hb n (.slice a n c) P) ((w5.alloc OR).alloc (.cells #[.slice a n c, .slice (some ⟨w.heap.size + 1, 0, none⟩) n n, .slice (some ⟨g, 0, none⟩) n n, .slice (some ⟨w.heap.size, 0, none⟩) n n, .slice (some ⟨w5.heap.size, 0, none⟩) n n, .int .u32 0, .int .u64 0, .int .u8 0, .int .u8 0, .slice none 0 0] 120)) := by
      have z5 := b5.size
      have gz := hBc.lt
      simp at z5 hg
      refine ⟨w5.heap.size + 1, w.heap.size + 1, g, w.heap.size, w5.heap.size, rfl, lk_new _ _ _ _ _ _ _ _ _ _ 120 ?bl ?hk ?ha ?hp ?hr ?hg ?n1 ?n2⟩
      case hk => exact ha_at _ _ _ (by simp)
      case bl => first | exact bl_0 b5 (al_1 _ _) | exact bl_0 b5 (al_2 _ _ _) | exact bl_0 b5 (al_3 _ _ _ _) | exact bl_0 b5 (al_4 _ _ _ _ _) | exact bl_1 b5 (al_1 _ _) | exact bl_1 b5 (al_2 _ _ _) | exact bl_1 b5 (al_3 _ _ _ _) | exact bl_2 b5 (al_1 _ _) | exact bl_2 b5 (al_2 _ _ _) | exact bl_3 b5 (al_1 _ _)
      case hp => first | exact hBc.below (al_1 _ _) | exact hBc.below (al_2 _ _ _) | exact hBc.below (al_3 _ _ _ _) | exact hBc.below (al_4 _ _ _ _ _)
      case ha =>
        rw [← hOA.out]
        repeat rw [ha_old _ _ _ (by first | omega | (simp; done) | (simp; omega))]
        first
        | exact ha_at _ _ _ (by simp)
        | (rw [b5.block _ (by first | omega | (simp; done) | (simp; omega)), hd_old]
           repeat rw [ha_old _ _ _ (by first | omega | (simp; done) | (simp; omega))]
           exact ha_at _ _ _ (by simp))
      case hr =>
        rw [← hOR.out]
        repeat rw [ha_old _ _ _ (by first | omega | (simp; done) | (simp; omega))]
        first
        | exact ha_at _ _ _ (by simp)
        | (rw [b5.block _ (by first | omega | (simp; done) | (simp; omega)), hd_old]
           repeat rw [ha_old _ _ _ (by first | omega | (simp; done) | (simp; omega))]
           exact ha_at _ _ _ (by simp))
      case hg =>
        rw [← hOR.out]
        repeat rw [ha_old _ _ _ (by first | omega | (simp; done) | (simp; omega))]
        first
        | exact ha_at _ _ _ (by simp)
        | (rw [b5.block _ (by first | omega | (simp; done) | (simp; omega)), hd_old]
           repeat rw [ha_old _ _ _ (by first | omega | (simp; done) | (simp; omega))]
           exact ha_at _ _ _ (by simp))
      case n1 => refine ⟨?_, ?_, ?_, ?_, ?_⟩ <;> omega
      case n2 => refine ⟨?_, ?_, ?_, ?_, ?_, ?_, ?_, ?_, ?_, ?_⟩ <;> omega
theorem leaf_RAGC (a : Option Addr) (n c g : Nat) (P : Nat → Int) (w w5 : World) (OA OR : Obj) (hOA : Hid (OA = (.cells (madeCells #[.int .u32 0, .int .u64 0, .int .u8 0] (n * 3)) 117))) (hOR : Hid (OR = (.cells (madeCells #[.int .u8 0] n) 121))) (b5 : Below ((((w.alloc OR).alloc OA).alloc OR).drew).heap.size ((((w.alloc OR).alloc OA).alloc OR).drew) w5) (hg : ((((w.alloc OR).alloc OA).alloc OR).drew).heap.size ≤ g) (hBc : Bc g n (fun j => .int .i64 (P j)) w5) :
    ∃ kb ab pb rb hb, Value.pointer (some ⟨w5.heap.size, 0, none⟩) = .pointer (some ⟨kb, 0, none⟩) ∧ LkF F0 w (kd0 kb ab pb rb hb n (.slice a n c) P) (w5.alloc (.cells #[.slice a n c, .slice (some ⟨w.heap.size + 1, 0, none⟩) n n, .slice (some ⟨g, 0, none⟩) n n, .slice (some ⟨w.heap.size, 0, none⟩) n n, .slice (some ⟨w.heap.size + 1 + 1, 0, none⟩) n n, .int .u32 0, .int .u64 0, .int .u8 0, .int .u8 0, .slice none 0 0] 120)) := by
      have z5 := b5.size
      have gz := hBc.lt
      simp at z5 hg
      refine ⟨w5.heap.size, w.heap.size + 1, g, w.heap.size, w.heap.size + 1 + 1, rfl, lk_new _ _ _ _ _ _ _ _ _ _ 120 ?bl ?hk ?ha ?hp ?hr ?hg ?n1 ?n2⟩
      case hk => exact ha_at _ _ _ (by simp)
      case bl => first | exact bl_0 b5 (al_1 _ _) | exact bl_0 b5 (al_2 _ _ _) | exact bl_0 b5 (al_3 _ _ _ _) | exact bl_0 b5 (al_4 _ _ _ _ _) | exact bl_1 b5 (al_1 _ _) | exact bl_1 b5 (al_2 _ _ _) | exact bl_1 b5 (al_3 _ _ _ _) | exact bl_2 b5 (al_1 _ _) | exact bl_2 b5 (al_2 _ _ _) | exact bl_3 b5 (al_1 _ _)
      case hp => first | exact hBc.below (al_1 _ _) | exact hBc.below (al_2 _ _ _) | exact hBc.below (al_3 _ _ _ _) | exact hBc.below (al_4 _ _ _ _ _)
      case ha =>
        rw [← hOA.out]
        repeat rw [ha_old _ _ _ (by first | omega | (simp; done) | (simp; omega))]
        first
        | exact ha_at _ _ _ (by simp)
        | (rw [b5.block _ (by first | omega | (simp; done) | (simp; omega)), hd_old]
           repeat rw [ha_old _ _ _ (by first | omega | (simp; done) | (simp; omega))]
           exact ha_at _ _ _ (by simp))
      case hr =>
        rw [← hOR.out]
        repeat rw [ha_old _ _ _ (by first | omega | (simp; done) | (simp; omega))]
        first
        | exact ha_at _ _ _ (by simp)
        | (rw [b5.block _ (by first | omega | (simp; done) | (simp; omega)), hd_old]
           repeat rw [ha_old _ _ _ (by first | omega | (simp; done) | (simp; omega))]
           exact ha_at _ _ _ (by simp))
      case hg =>
        rw [← hOR.out]
        repeat rw [ha_old _ _ _ (by first | omega | (simp; done) | (simp; omega))]
        first
        | exact ha_at _ _ _ (by simp)
        | (rw [b5.block _ (by first | omega | (simp; done) | (simp; omega)), hd_old]
           repeat rw [ha_old _ _ _ (by first | omega | (simp; done) | (simp; omega))]
           exact ha_at _ _ _ (by simp))
      case n1 => refine ⟨?_, ?_, ?_, ?_, ?_⟩ <;> omega
      case n2 => refine ⟨?_, ?_, ?_, ?_, ?_, ?_, ?_, ?_, ?_, ?_⟩ <;> omega
theorem leaf_RCAG (a : Option Addr) (n c g : Nat) (P : Nat → Int) (w w5 : World) (OA OR : Obj) (hOA : Hid (OA = (.cells (madeCells #[.int .u32 0, .int .u64 0, .int .u8 0] (n * 3)) 117))) (hOR : Hid (OR = (.cells (madeCells #[.int .u8 0] n) 121))) (b5 : Below ((w.alloc OR).drew).heap.size ((w.alloc OR).drew) w5) (hg : ((w.alloc OR).drew).heap.size ≤ g) (hBc : Bc g n (fun j => .int .i64 (P j)) w5) :
    ∃ kb ab pb rb hb, Value.pointer (some ⟨w5.heap.size + 1 + 1, 0, none⟩) = .pointer (some ⟨kb, 0, none⟩) ∧ LkF F0 w (kd0 kb ab pb rb hb n (.slice a n c) P) (((w5.alloc OA).alloc OR).alloc (.cells #[.slice a n c, .slice (some ⟨w5.heap.size, 0, none⟩) n n, .slice (some ⟨g, 0, none⟩) n n, .slice (some ⟨w.heap.size, 0, none⟩) n n, .slice (some ⟨w5.heap.size + 1, 0, none⟩) n n, .int .u32 0, .int .u64 0, .int .u8 0, .int .u8 0, .slice none 0 0] 120)) := by
      have z5 := b5.size
      have gz := hBc.lt
      simp at z5 hg
      refine ⟨w5.heap.size + 1 + 1, w5.heap.size, g, w.heap.size, w5.heap.size + 1, rfl, lk_new _ _ _ _ _ _ _ _ _ _ 120 ?bl ?hk ?ha ?hp ?hr ?hg ?n1 ?n2⟩
      case hk => exact ha_at _ _ _ (by simp)
      case bl => first | exact bl_0 b5 (al_1 _ _) | exact bl_0 b5 (al_2 _ _ _) | exact bl_0 b5 (al_3 _ _ _ _) | exact bl_0 b5 (al_4 _ _ _ _ _) | exact bl_1 b5 (al_1 _ _) | exact bl_1 b5 (al_2 _ _ _) | exact bl_1 b5 (al_3 _ _ _ _) | exact bl_2 b5 (al_1 _ _) | exact bl_2 b5 (al_2 _ _ _) | exact bl_3 b5 (al_1 _ _)
      case hp => first | exact hBc.below (al_1 _ _) | exact hBc.below (al_2 _ _ _) | exact hBc.below (al_3 _ _ _ _) | exact hBc.below (al_4 _ _ _ _ _)
      case ha =>
        rw [← hOA.out]
        repeat rw [ha_old _ _ _ (by first | omega | (simp; done) | (simp; omega))]
        first
        | exact ha_at _ _ _ (by simp)
        | (rw [b5.block _ (by first | omega | (simp; done) | (simp; omega)), hd_old]
           repeat rw [ha_old _ _ _ (by first | omega | (simp; done) | (simp; omega))]
           exact ha_at _ _ _ (by simp))
      case hr =>
        rw [← hOR.out]
        repeat rw [ha_old _ _ _ (by first | omega | (simp; done) | (simp; omega))]
        first
        | exact ha_at _ _ _ (by simp)
        | (rw [b5.block _ (by first | omega | (simp; done) | (simp; omega)), hd_old]
           repeat rw [ha_old _ _ _ (by first | omega | (simp; done) | (simp; omega))]
           exact ha_at _ _ _ (by simp))
      case hg =>
        rw [← hOR.out]
        repeat rw [ha_old _ _ _ (by first | omega | (simp; done) | (simp; omega))]
        first
        | exact ha_at _ _ _ (by simp)
        | (rw [b5.block _ (by first | omega | (simp; done) | (simp; omega)), hd_old]
           repeat rw [ha_old _ _ _ (by first | omega | (simp; done) | (simp; omega))]
           exact ha_at _ _ _ (by simp))
      case n1 => refine ⟨?_, ?_, ?_, ?_, ?_⟩ <;> omega
      case n2 => refine ⟨?_, ?_, ?_, ?_, ?_, ?_, ?_, ?_, ?_, ?_⟩ <;> omega
theorem leaf_RCGA (a : Option Addr) (n c g : Nat) (P : Nat → Int) (w w5 : World) (OA OR : Obj) (hOA : Hid (OA = (.cells (madeCells #[.int .u32 0, .int .u64 0, .int .u8 0] (n * 3)) 117))) (hOR : Hid (OR = (.cells (madeCells #[.int .u8 0] n) 121))) (b5 : Below ((w.alloc OR).drew).heap.size ((w.alloc OR).drew) w5) (hg : ((w.alloc OR).drew).heap.size ≤ g) (hBc : Bc g n (fun j => .int .i64 (P j)) w5) :
    ∃ kb ab pb rb hb, Value.pointer (some ⟨w5.heap.size + 1 + 1, 0, none⟩) = .pointer (some ⟨kb, 0, none⟩) ∧ LkF F0 w (kd0 kb ab pb rb hb n (.slice a n c) P) (((w5.alloc OR).alloc OA).alloc (.cells #[.slice a n c, .slice (some ⟨w5.heap.size + 1, 0, none⟩) n n, .slice (some ⟨g, 0, none⟩) n n, .slice (some ⟨w.heap.size, 0, none⟩) n n, .slice (some ⟨w5.heap.size, 0, none⟩) n n, .int .u32 0, .int .u64 0, .int .u8 0, .int .u8 0, .slice none 0 0] 120)) := by
      have z5 := b5.size
      have gz := hBc.lt
      simp at z5 hg
      refine ⟨w5.heap.size + 1 + 1, w5.heap.size + 1, g, w.heap.size, w5.heap.size, rfl, lk_new _ _ _ _ _ _ _ _ _ _ 120 ?bl ?hk ?ha ?hp ?hr ?hg ?n1 ?n2⟩
      case hk => exact ha_at _ _ _ (by simp)
      case bl => first | exact bl_0 b5 (al_1 _ _) | exact bl_0 b5 (al_2 _ _ _) | exact bl_0 b5 (al_3 _ _ _ _) | exact bl_0 b5 (al_4 _ _ _ _ _) | exact bl_1 b5 (al_1 _ _) | exact bl_1 b5 (al_2 _ _ _) | exact bl_1 b5 (al_3 _ _ _ _) | exact bl_2 b5 (al_1 _ _) | exact bl_2 b5 (al_2 _ _ _) | exact bl_3 b5 (al_1 _ _)
      case hp => first | exact hBc.below (al_1 _ _) | exact hBc.below (al_2 _ _ _) | exact hBc.below (al_3 _ _ _ _) | exact hBc.below (al_4 _ _ _ _ _)
      case ha =>
        rw [← hOA.out]
        repeat rw [ha_old _ _ _ (by first | omega | (simp; done) | (simp; omega))]
        first
        | exact ha_at _ _ _ (by simp)
        | (rw [b5.block _ (by first | omega | (simp; done) | (simp; omega)), hd_old]
           repeat rw [ha_old _ _ _ (by first | omega | (simp; done) | (simp; omega))]
           exact ha_at _ _ _ (by simp))
      case hr =>
        rw [← hOR.out]
        repeat rw [ha_old _ _ _ (by first | omega | (simp; done) | (simp; omega))]
        first
        | exact ha_at _ _ _ (by simp)
        | (rw [b5.block _ (by first | omega | (simp; done) | (simp; omega)), hd_old]
           repeat rw [ha_old _ _ _ (by first | omega | (simp; done) | (simp; omega))]
           exact ha_at _ _ _ (by simp))
      case hg =>
        rw [← hOR.out]
        repeat rw [ha_old _ _ _ (by first | omega | (simp; done) | (simp; omega))]
        first
        | exact ha_at _ _ _ (by simp)
        | (rw [b5.block _ (by first | omega | (simp; done) | (simp; omega)), hd_old]
           repeat rw [ha_old _ _ _ (by first | omega | (simp; done) | (simp; omega))]
           exact ha_at _ _ _ (by simp))
      case n1 => refine ⟨?_, ?_, ?_, ?_, ?_⟩ <;> omega
      case n2 => refine ⟨?_, ?_, ?_, ?_, ?_, ?_, ?_, ?_, ?_, ?_⟩ <;> omega
theorem leaf_RGAC (a : Option Addr) (n c g : Nat) (P : Nat → Int) (w w5 : World) (OA OR : Obj) (hOA : Hid (OA = (.cells (madeCells #[.int .u32 0, .int .u64 0, .int .u8 0] (n * 3)) 117))) (hOR : Hid (OR = (.cells (madeCells #[.int .u8 0] n) 121))) (b5 : Below ((((w.alloc OR).alloc OR).alloc OA).drew).heap.size ((((w.alloc OR).alloc OR).alloc OA).drew) w5) (hg : ((((w.alloc OR).alloc OR).alloc OA).drew).heap.size ≤ g) (hBc : Bc g n (fun j => .int .i64 (P j)) w5) :
    ∃ kb ab pb rb hb, Value.pointer (some ⟨w5.heap.size, 0, none⟩) = .pointer (some ⟨kb, 0, none⟩) ∧ LkF F0 w (kd0 kb ab pb rb hb n (.slice a n c) P) (w5.alloc (.cells #[.slice a n c, .slice (some ⟨w.heap.size + 1 + 1, 0, none⟩) n n, .slice (some ⟨g, 0, none⟩) n n, .slice (some ⟨w.heap.size, 0, none⟩) n n, .slice (some ⟨w.heap.size + 1, 0, none⟩) n n, .int .u32 0, .int .u64 0, .int .u8 0, .int .u8 0, .slice none 0 0] 120)) := by
      have z5 := b5.size
      have gz := hBc.lt
      simp at z5 hg
      refine ⟨w5.heap.size, w.heap.size + 1 + 1, g, w.heap.size, w.heap.size + 1, rfl, lk_new _ _ _ _ _ _ _ _ _ _ 120 ?bl ?hk ?ha ?hp ?hr ?hg ?n1 ?n2⟩
      case hk => exact ha_at _ _ _ (by simp)
      case bl => first | exact bl_0 b5 (al_1 _ _) | exact bl_0 b5 (al_2 _ _ _) | exact bl_0 b5 (al_3 _ _ _ _) | exact bl_0 b5 (al_4 _ _ _ _ _) | exact bl_1 b5 (al_1 _ _) | exact bl_1 b5 (al_2 _ _ _) | exact bl_1 b5 (al_3 _ _ _ _) | exact bl_2 b5 (al_1 _ _) | exact bl_2 b5 (al_2 _ _ _) | exact bl_3 b5 (al_1 _ _)
      case hp => first | exact hBc.below (al_1 _ _) | exact hBc.below (al_2 _ _ _) | exact hBc.below (al_3 _ _ _ _) | exact hBc.below (al_4 _ _ _ _ _)
      case ha =>
        rw [← hOA.out]
        repeat rw [ha_old _ _ _ (by first | omega | (simp; done) | (simp; omega))]
        first
        | exact ha_at _ _ _ (by simp)
        | (rw [b5.block _ (by first | omega | (simp; done) | (simp; omega)), hd_old]
           repeat rw [ha_old _ _ _ (by first | omega | (simp; done) | (simp; omega))]
           exact ha_at _ _ _ (by simp))
      case hr =>
        rw [← hOR.out]
        repeat rw [ha_old _ _ _ (by first | omega | (simp; done) | (simp; omega))]
        first
        | exact ha_at _ _ _ (by simp)
        | (rw [b5.block _ (by first | omega | (simp; done) | (simp; omega)), hd_old]
           repeat rw [ha_old _ _ _ (by first | omega | (simp; done) | (simp; omega))]
           exact ha_at _ _ _ (by simp))
      case hg =>
        rw [← hOR.out]
        repeat rw [ha_old _ _ _ (by first | omega | (simp; done) | (simp; omega))]
        first
        | exact ha_at _ _ _ (by simp)
        | (rw [b5.block _ (by first | omega | (simp; done) | (simp; omega)), hd_old]
           repeat rw [ha_old _ _ _ (by first | omega | (simp; done) | (simp; omega))]
           exact ha_at _ _ _ (by simp))
      case n1 => refine ⟨?_, ?_, ?_, ?_, ?_⟩ <;> omega
      case n2 => refine ⟨?_, ?_, ?_, ?_, ?_, ?_, ?_, ?_, ?_, ?_⟩ <;> omega
theorem leaf_RGCA (a : Option Addr) (n c g : Nat) (P : Nat → Int) (w w5 : World) (OA OR : Obj) (hOA : Hid (OA = (.cells (madeCells #[.int .u32 0, .int .u64 0, .int .u8 0] (n * 3)) 117))) (hOR : Hid (OR = (.cells (madeCells #[.int .u8 0] n) 121))) (b5 : Below (((w.alloc OR).alloc OR).drew).heap.size (((w.alloc OR).alloc OR).drew) w5) (hg : (((w.alloc OR).alloc OR).drew).heap.size ≤ g) (hBc : Bc g n (fun j => .int .i64 (P j)) w5) :
    ∃ kb ab pb rb hb, Value.pointer (some ⟨w5.heap.size + 1, 0, none⟩) = .pointer (some ⟨kb, 0, none⟩) ∧ LkF F0 w (kd0 kb ab pb rb hb n (.slice a n c) P) ((w5.alloc OA).alloc (.cells #[.slice a n c, .slice (some ⟨w5.heap.size, 0, none⟩) n n, .slice (some ⟨g, 0, none⟩) n n, .slice (some ⟨w.heap.size, 0, none⟩) n n, .slice (some ⟨w.heap.size + 1, 0, none⟩) n n, .int .u32 0, .int .u64 0, .int .u8 0, .int .u8 0, .slice none 0 0] 120)) := by
      have z5 := b5.size
      have gz := hBc.lt
      simp at z5 hg
      refine ⟨w5.heap.size + 1, w5.heap.size, g, w.heap.size, w.heap.size + 1, rfl, lk_new _ _ _ _ _ _ _ _ _ _ 120 ?bl ?hk ?ha ?hp ?hr ?hg ?n1 ?n2⟩
      case hk => exact ha_at _ _ _ (by simp)
      case bl => first | exact bl_0 b5 (al_1 _ _) | exact bl_0 b5 (al_2 _ _ _) | exact bl_0 b5 (al_3 _ _ _ _) | exact bl_0 b5 (al_4 _ _ _ _ _) | exact bl_1 b5 (al_1 _ _) | exact bl_1 b5 (al_2 _ _ _) | exact bl_1 b5 (al_3 _ _ _ _) | exact bl_2 b5 (al_1 _ _) | exact bl_2 b5 (al_2 _ _ _) | exact bl_3 b5 (al_1 _ _)
      case hp => first | exact hBc.below (al_1 _ _) | exact hBc.below (al_2 _ _ _) | exact hBc.below (al_3 _ _ _ _) | exact hBc.below (al_4 _ _ _ _ _)
      case ha =>
        rw [← hOA.out]
        repeat rw [ha_old _ _ _ (by first | omega | (simp; done) | (simp; omega))]
        first
        | exact ha_at _ _ _ (by simp)
        | (rw [b5.block _ (by first | omega | (simp; done) | (simp; omega)), hd_old]
           repeat rw [ha_old _ _ _ (by first | omega | (simp; done) | (simp; omega))]
           exact ha_at _ _ _ (by simp))
      case hr =>
        rw [← hOR.out]
        repeat rw [ha_old _ _ _ (by first | omega | (simp; done) | (simp; omega))]
        first
        | exact ha_at _ _ _ (by simp)
        | (rw [b5.block _ (by first | omega | (simp; done) | (simp; omega)), hd_old]
           repeat rw [ha_old _ _ _ (by first | omega | (simp; done) | (simp; omega))]
           exact ha_at _ _ _ (by simp))
      case hg =>
        rw [← hOR.out]
        repeat rw [ha_old _ _ _ (by first | omega | (simp; done) | (simp; omega))]
        first
        | exact ha_at _ _ _ (by simp)
        | (rw [b5.block _ (by first | omega | (simp; done) | (simp; omega)), hd_old]
           repeat rw [ha_old _ _ _ (by first | omega | (simp; done) | (simp; omega))]
           exact ha_at _ _ _ (by simp))
      case n1 => refine ⟨?_, ?_, ?_, ?_, ?_⟩ <;> omega
      case n2 => refine ⟨?_, ?_, ?_, ?_, ?_, ?_, ?_, ?_, ?_, ?_⟩ <;> omega
theorem leaf_GACR (a : Option Addr) (n c g : Nat) (P : Nat → Int) (w w5 : World) (OA OR : Obj) (hOA : Hid (OA = (.cells (madeCells #[.int .u32 0, .int .u64 0, .int .u8 0] (n * 3)) 117))) (hOR : Hid (OR = (.cells (madeCells #[.int .u8 0] n) 121))) (b5 : Below (((w.alloc OR).alloc OA).drew).heap.size (((w.alloc OR).alloc OA).drew) w5) (hg : (((w.alloc OR).alloc OA).drew).heap.size ≤ g) (hBc : Bc g n (fun j => .int .i64 (P j)) w5) :
    ∃ kb ab pb rb hb, Value.pointer (some ⟨w5.heap.size + 1, 0, none⟩) = .pointer (some ⟨kb, 0, none⟩) ∧ LkF F0 w (kd0 kb ab pb rb hb n (.slice a n c) P) ((w5.alloc OR).alloc (.cells #[.slice a n c, .slice (some ⟨w.heap.size + 1, 0, none⟩) n n, .slice (some ⟨g, 0, none⟩) n n, .slice (some ⟨w5.heap.size, 0, none⟩) n n, .slice (some ⟨w.heap.size, 0, none⟩) n n, .int .u32 0, .int .u64 0, .int .u8 0, .int .u8 0, .slice none 0 0] 120)) := by
      have z5 := b5.size
      have gz := hBc.lt
      simp at z5 hg
      refine ⟨w5.heap.size + 1, w.heap.size + 1, g, w5.heap.size, w.heap.size, rfl, lk_new _ _ _ _ _ _ _ _ _ _ 120 ?bl ?hk ?ha ?hp ?hr ?hg ?n1 ?n2⟩
      case hk => exact ha_at _ _ _ (by simp)
      case bl => first | exact bl_0 b5 (al_1 _ _) | exact bl_0 b5 (al_2 _ _ _) | exact bl_0 b5 (al_3 _ _ _ _) | exact bl_0 b5 (al_4 _ _ _ _ _) | exact bl_1 b5 (al_1 _ _) | exact bl_1 b5 (al_2 _ _ _) | exact bl_1 b5 (al_3 _ _ _ _) | exact bl_2 b5 (al_1 _ _) | exact bl_2 b5 (al_2 _ _ _) | exact bl_3 b5 (al_1 _ _)
      case hp => first | exact hBc.below (al_1 _ _) | exact hBc.below (al_2 _ _ _) | exact hBc.below (al_3 _ _ _ _) | exact hBc.below (al_4 _ _ _ _ _)
      case ha =>
        rw [← hOA.out]
        repeat rw [ha_old _ _ _ (by first | omega | (simp; done) | (simp; omega))]
        first
        | exact ha_at _ _ _ (by simp)
        | (rw [b5.block _ (by first | omega | (simp; done) | (simp; omega)), hd_old]
           repeat rw [ha_old _ _ _ (by first | omega | (simp; done) | (simp; omega))]
           exact ha_at _ _ _ (by simp))
      case hr =>
        rw [← hOR.out]
        repeat rw [ha_old _ _ _ (by first | omega | (simp; done) | (simp; omega))]
        first
        | exact ha_at _ _ _ (by simp)
        | (rw [b5.block _ (by first | omega | (simp; done) | (simp; omega)), hd_old]
           repeat rw [ha_old _ _ _ (by first | omega | (simp; done) | (simp; omega))]
           exact ha_at _ _ _ (by simp))
      case hg =>
        rw [← hOR.out]
        repeat rw [ha_old _ _ _ (by first | omega | (simp; done) | (simp; omega))]
        first
        | exact ha_at _ _ _ (by simp)
        | (rw [b5.block _ (by first | omega | (simp; done) | (simp; omega)), hd_old]
           repeat rw [ha_old _ _ _ (by first | omega | (simp; done) | (simp; omega))]
           exact ha_at _ _ _ (by simp))
      case n1 => refine ⟨?_, ?_, ?_, ?_, ?_⟩ <;> omega
      case n2 => refine ⟨?_, ?_, ?_, ?_, ?_, ?_, ?_, ?_, ?_, ?_⟩ <;> omega
theorem leaf_GARC (a : Option Addr) (n c g : Nat) (P : Nat → Int) (w w5 : World) (OA OR : Obj) (hOA : Hid (OA = (.cells (madeCells #[.int .u32 0, .int .u64 0, .int .u8 0] (n * 3)) 117))) (hOR : Hid (OR = (.cells (madeCells #[.int .u8 0] n) 121))) (b5 : Below ((((w.alloc OR).alloc OA).alloc OR).drew).heap.size ((((w.alloc OR).alloc OA).alloc OR).drew) w5) (hg : ((((w.alloc OR).alloc OA).alloc OR).drew).heap.size ≤ g) (hBc : Bc g n (fun j => .int .i64 (P j)) w5) :
    ∃ kb ab pb rb hb, Value.pointer (some ⟨w5.heap.size, 0, none⟩) = .pointer (some ⟨kb, 0, none⟩) ∧ LkF F0 w (kd0 kb ab pb rb hb n (.slice a n c) P) (w5.alloc (.cells #[.slice a n c, .slice (some ⟨w.heap.size + 1, 0, none⟩) n n, .slice (some ⟨g, 0, none⟩) n n, .slice (some ⟨w.heap.size + 1 + 1, 0, none⟩) n n, .slice (some ⟨w.heap.size, 0, none⟩) n n, .int .u32 0, .int .u64 0, .int .u8 0, .int .u8 0, .slice none 0 0] 120)) := by
      have z5 := b5.size
      have gz := hBc.lt
      simp at z5 hg
      refine ⟨w5.heap.size, w.heap.size + 1, g, w.heap.size + 1 + 1, w.heap.size, rfl, lk_new _ _ _ _ _ _ _ _ _ _ 120 ?bl ?hk ?ha ?hp ?hr ?hg ?n1 ?n2⟩
      case hk => exact ha_at _ _ _ (by simp)
      case bl => first | exact bl_0 b5 (al_1 _ _) | exact bl_0 b5 (al_2 _ _ _) | exact bl_0 b5 (al_3 _ _ _ _) | exact bl_0 b5 (al_4 _ _ _ _ _) | exact bl_1 b5 (al_1 _ _) | exact bl_1 b5 (al_2 _ _ _) | exact bl_1 b5 (al_3 _ _ _ _) | exact bl_2 b5 (al_1 _ _) | exact bl_2 b5 (al_2 _ _ _) | exact bl_3 b5 (al_1 _ _)
      case hp => first | exact hBc.below (al_1 _ _) | exact hBc.below (al_2 _ _ _) | exact hBc.below (al_3 _ _ _ _) | exact hBc.below (al_4 _ _ _ _ _)
      case ha =>
        rw [← hOA.out]
        repeat rw [ha_old _ _ _ (by first | omega | (simp; done) | (simp; omega))]
        first
        | exact ha_at _ _ _ (by simp)
        | (rw [b5.block _ (by first | omega | (simp; done) | (simp; omega)), hd_old]
           repeat rw [ha_old _ _ _ (by first | omega | (simp; done) | (simp; omega))]
           exact ha_at _ _ _ (by simp))
      case hr =>
        rw [← hOR.out]
        repeat rw [ha_old _ _ _ (by first | omega | (simp; done) | (simp; omega))]
        first
        | exact ha_at _ _ _ (by simp)
        | (rw [b5.block _ (by first | omega | (simp; done) | (simp; omega)), hd_old]
           repeat rw [ha_old _ _ _ (by first | omega | (simp; done) | (simp; omega))]
           exact ha_at _ _ _ (by simp))
      case hg =>
        rw [← hOR.out]
        repeat rw [ha_old _ _ _ (by first | omega | (simp; done) | (simp; omega))]
        first
        | exact ha_at _ _ _ (by simp)
        | (rw [b5.block _ (by first | omega | (simp; done) | (simp; omega)), hd_old]
           repeat rw [ha_old _ _ _ (by first | omega | (simp; done) | (simp; omega))]
           exact ha_at _ _ _ (by simp))
      case n1 => refine ⟨?_, ?_, ?_, ?_, ?_⟩ <;> omega
      case n2 => refine ⟨?_, ?_, ?_, ?_, ?_, ?_, ?_, ?_, ?_, ?_⟩ <;> omega
theorem leaf_GCAR (a : Option Addr) (n c g : Nat) (P : Nat → Int) (w w5 : World) (OA OR : Obj) (hOA : Hid (OA = (.cells (madeCells #[.int .u32 0, .int .u64 0, .int .u8 0] (n * 3)) 117))) (hOR : Hid (OR = (.cells (madeCells #[.int .u8 0] n) 121))) (b5 : Below ((w.alloc OR).drew).heap.size ((w.alloc OR).drew) w5) (hg : ((w.alloc OR).drew).heap.size ≤ g) (hBc : Bc g n (fun j => .int .i64 (P j)) w5) :
    ∃ kb ab pb rb hb, Value.pointer (some ⟨w5.heap.size + 1 + 1, 0, none⟩) = .pointer (some ⟨kb, 0, none⟩) ∧ LkF F0 w (kd0 kb ab pb rb hb n (.slice a n c) P) (((w5.alloc OA).alloc OR).alloc (.cells #[.slice a n c, .slice (some ⟨w5.heap.size, 0, none⟩) n n, .slice (some ⟨g, 0, none⟩) n n, .slice (some ⟨w5.heap.size + 1, 0, none⟩) n n, .slice (some ⟨w.heap.size, 0, none⟩) n n, .int .u32 0, .int .u64 0, .int .u8 0, .int .u8 0, .slice none 0 0] 120)) := by
      have z5 := b5.size
      have gz := hBc.lt
      simp at z5 hg
      refine ⟨w5.heap.size + 1 + 1, w5.heap.size, g, w5.heap.size + 1, w.heap.size, rfl, lk_new _ _ _ _ _ _ _ _ _ _ 120 ?bl ?hk ?ha ?hp ?hr ?hg ?n1 ?n2⟩
      case hk => exact ha_at _ _ _ (by simp)
      case bl => first | exact bl_0 b5 (al_1 _ _) | exact bl_0 b5 (al_2 _ _ _) | exact bl_0 b5 (al_3 _ _ _ _) | exact bl_0 b5 (al_4 _ _ _ _ _) | exact bl_1 b5 (al_1 _ _) | exact bl_1 b5 (al_2 _ _ _) | exact bl_1 b5 (al_3 _ _ _ _) | exact bl_2 b5 (al_1 _ _) | exact bl_2 b5 (al_2 _ _ _) | exact bl_3 b5 (al_1 _ _)
      case hp => first | exact hBc.below (al_1 _ _) | exact hBc.below (al_2 _ _ _) | exact hBc.below (al_3 _ _ _ _) | exact hBc.below (al_4 _ _ _ _ _)
      case ha =>
        rw [← hOA.out]
        repeat rw [ha_old _ _ _ (by first | omega | (simp; done) | (simp; omega))]
        first
        | exact ha_at _ _ _ (by simp)
        | (rw [b5.block _ (by first | omega | (simp; done) | (simp; omega)), hd_old]
           repeat rw [ha_old _ _ _ (by first | omega | (simp; done) | (simp; omega))]
           exact ha_at _ _ _ (by simp))
      case hr =>
        rw [← hOR.out]
        repeat rw [ha_old _ _ _ (by first | omega | (simp; done) | (simp; omega))]
        first
        | exact ha_at _ _ _ (by simp)
        | (rw [b5.block _ (by first | omega | (simp; done) | (simp; omega)), hd_old]
           repeat rw [ha_old _ _ _ (by first | omega | (simp; done) | (simp; omega))]
           exact ha_at _ _ _ (by simp))
      case hg =>
        rw [← hOR.out]
        repeat rw [ha_old _ _ _ (by first | omega | (simp; done) | (simp; omega))]
        first
        | exact ha_at _ _ _ (by simp)
        | (rw [b5.block _ (by first | omega | (simp; done) | (simp; omega)), hd_old]
           repeat rw [ha_old _ _ _ (by first | omega | (simp; done) | (simp; omega))]
           exact ha_at _ _ _ (by simp))
      case n1 => refine ⟨?_, ?_, ?_, ?_, ?_⟩ <;> omega
      case n2 => refine ⟨?_, ?_, ?_, ?_, ?_, ?_, ?_, ?_, ?_, ?_⟩ <;> omega
theorem leaf_GCRA (a : Option Addr) (n c g : Nat) (P : Nat → Int) (w w5 : World) (OA OR : Obj) (hOA : Hid (OA = (.cells (madeCells #[.int .u32 0, .int .u64 0, .int .u8 0] (n * 3)) 117))) (hOR : Hid (OR = (.cells (madeCells #[.int .u8 0] n) 121))) (b5 : Below ((w.alloc OR).drew).heap.size ((w.alloc OR).drew) w5) (hg : ((w.alloc OR).drew).heap.size ≤ g) (hBc : Bc g n (fun j => .int .i64 (P j)) w5) :
    ∃ kb ab pb rb hb, Value.pointer (some ⟨w5.heap.size + 1 + 1, 0, none⟩) = .pointer (some ⟨kb, 0, none⟩) ∧ LkF F0 w (kd0 kb ab pb rb hb n (.slice a n c) P) (((w5.alloc OR).alloc OA).alloc (.cells #[.slice a n c, .slice (some ⟨w5.heap.size + 1, 0, none⟩) n n, .slice (some ⟨g, 0, none⟩) n n, .slice (some ⟨w5.heap.size, 0, none⟩) n n, .slice (some ⟨w.heap.size, 0, none⟩) n n, .int .u32 0, .int .u64 0, .int .u8 0, .int .u8 0, .slice none 0 0] 120)) := by
      have z5 := b5.size
      have gz := hBc.lt
      simp at z5 hg
      refine ⟨w5.heap.size + 1 + 1, w5.heap.size + 1, g, w5.heap.size, w.heap.size, rfl, lk_new _ _ _ _ _ _ _ _ _ _ 120 ?bl ?hk ?ha ?hp ?hr ?hg ?n1 ?n2⟩
      case hk => exact ha_at _ _ _ (by simp)
      case bl => first | exact bl_0 b5 (al_1 _ _) | exact bl_0 b5 (al_2 _ _ _) | exact bl_0 b5 (al_3 _ _ _ _) | exact bl_0 b5 (al_4 _ _ _ _ _) | exact bl_1 b5 (al_1 _ _) | exact bl_1 b5 (al_2 _ _ _) | exact bl_1 b5 (al_3 _ _ _ _) | exact bl_2 b5 (al_1 _ _) | exact bl_2 b5 (al_2 _ _ _) | exact bl_3 b5 (al_1 _ _)
      case hp => first | exact hBc.below (al_1 _ _) | exact hBc.below (al_2 _ _ _) | exact hBc.below (al_3 _ _ _ _) | exact hBc.below (al_4 _ _ _ _ _)
      case ha =>
        rw [← hOA.out]
        repeat rw [ha_old _ _ _ (by first | omega | (simp; done) | (simp; omega))]
        first
        | exact ha_at _ _ _ (by simp)
        | (rw [b5.block _ (by first | omega | (simp; done) | (simp; omega)), hd_old]
           repeat rw [ha_old _ _ _ (by first | omega | (simp; done) | (simp; omega))]
           exact ha_at _ _ _ (by simp))
      case hr =>
        rw [← hOR.out]
        repeat rw [ha_old _ _ _ (by first | omega | (simp; done) | (simp; omega))]
        first
        | exact ha_at _ _ _ (by simp)
        | (rw [b5.block _ (by first | omega | (simp; done) | (simp; omega)), hd_old]
           repeat rw [ha_old _ _ _ (by first | omega | (simp; done) | (simp; omega))]
           exact ha_at _ _ _ (by simp))
      case hg =>
        rw [← hOR.out]
        repeat rw [ha_old _ _ _ (by first | omega | (simp; done) | (simp; omega))]
        first
        | exact ha_at _ _ _ (by simp)
        | (rw [b5.block _ (by first | omega | (simp; done) | (simp; omega)), hd_old]
           repeat rw [ha_old _ _ _ (by first | omega | (simp; done) | (simp; omega))]
           exact ha_at _ _ _ (by simp))
      case n1 => refine ⟨?_, ?_, ?_, ?_, ?_⟩ <;> omega
      case n2 => refine ⟨?_, ?_, ?_, ?_, ?_, ?_, ?_, ?_, ?_, ?_⟩ <;> omega
theorem leaf_GRAC (a : Option Addr) (n c g : Nat) (P : Nat → Int) (w w5 : World) (OA OR : Obj) (hOA : Hid (OA = (.cells (madeCells #[.int .u32 0, .int .u64 0, .int .u8 0] (n * 3)) 117))) (hOR : Hid (OR = (.cells (madeCells #[.int .u8 0] n) 121))) (b5 : Below ((((w.alloc OR).alloc OR).alloc OA).drew).heap.size ((((w.alloc OR).alloc OR).alloc OA).drew) w5) (hg : ((((w.alloc OR).alloc OR).alloc OA).drew).heap.size ≤ g) (hBc : Bc g n (fun j => .int .i64 (P j)) w5) :
    ∃ kb ab pb rb hb, Value.pointer (some ⟨w5.heap.size, 0, none⟩) = .pointer (some ⟨kb, 0, none⟩) ∧ LkF F0 w (kd0 kb ab pb rb hb n (.slice a n c) P) (w5.alloc (.cells #[.slice a n c, .slice (some ⟨w.heap.size + 1 + 1, 0, none⟩) n n, .slice (some ⟨g, 0, none⟩) n n, .slice (some ⟨w.heap.size + 1, 0, none⟩) n n, .slice (some ⟨w.heap.size, 0, none⟩) n n, .int .u32 0, .int .u64 0, .int .u8 0, .int .u8 0, .slice none 0 0] 120)) := by
      have z5 := b5.size
      have gz := hBc.lt
      simp at z5 hg
      refine ⟨w5.heap.size, w.heap.size + 1 + 1, g, w.heap.size + 1, w.heap.size, rfl, lk_new _ _ _ _ _ _ _ _ _ _ 120 ?bl ?hk ?ha ?hp ?hr ?hg ?n1 ?n2⟩
      case hk => exact ha_at _ _ _ (by simp)
      case bl => first | exact bl_0 b5 (al_1 _ _) | exact bl_0 b5 (al_2 _ _ _) | exact bl_0 b5 (al_3 _ _ _ _) | exact bl_0 b5 (al_4 _ _ _ _ _) | exact bl_1 b5 (al_1 _ _) | exact bl_1 b5 (al_2 _ _ _) | exact bl_1 b5 (al_3 _ _ _ _) | exact bl_2 b5 (al_1 _ _) | exact bl_2 b5 (al_2 _ _ _) | exact bl_3 b5 (al_1 _ _)
      case hp => first | exact hBc.below (al_1 _ _) | exact hBc.below (al_2 _ _ _) | exact hBc.below (al_3 _ _ _ _) | exact hBc.below (al_4 _ _ _ _ _)
      case ha =>
        rw [← hOA.out]
        repeat rw [ha_old _ _ _ (by first | omega | (simp; done) | (simp; omega))]
        first
        | exact ha_at _ _ _ (by simp)
        | (rw [b5.block _ (by first | omega | (simp; done) | (simp; omega)), hd_old]
           repeat rw [ha_old _ _ _ (by first | omega | (simp; done) | (simp; omega))]
           exact ha_at _ _ _ (by simp))
      case hr =>
        rw [← hOR.out]
        repeat rw [ha_old _ _ _ (by first | omega | (simp; done) | (simp; omega))]
        first
        | exact ha_at _ _ _ (by simp)
        | (rw [b5.block _ (by first | omega | (simp; done) | (simp; omega)), hd_old]
           repeat rw [ha_old _ _ _ (by first | omega | (simp; done) | (simp; omega))]
           exact ha_at _ _ _ (by simp))
      case hg =>
        rw [← hOR.out]
        repeat rw [ha_old _ _ _ (by first | omega | (simp; done) | (simp; omega))]
        first
        | exact ha_at _ _ _ (by simp)
        | (rw [b5.block _ (by first | omega | (simp; done) | (simp; omega)), hd_old]
           repeat rw [ha_old _ _ _ (by first | omega | (simp; done) | (simp; omega))]
           exact ha_at _ _ _ (by simp))
      case n1 => refine ⟨?_, ?_, ?_, ?_, ?_⟩ <;> omega
      case n2 => refine ⟨?_, ?_, ?_, ?_, ?_, ?_, ?_, ?_, ?_, ?_⟩ <;> omega
theorem leaf_GRCA (a : Option Addr) (n c g : Nat) (P : Nat → Int) (w w5 : World) (OA OR : Obj) (hOA : Hid (OA = (.cells (madeCells #[.int .u32 0, .int .u64 0, .int .u8 0] (n * 3)) 117))) (hOR : Hid (OR = (.cells (madeCells #[.int .u8 0] n) 121))) (b5 : Below (((w.alloc OR).alloc OR).drew).heap.size (((w.alloc OR).alloc OR).drew) w5) (hg : (((w.alloc OR).alloc OR).drew).heap.size ≤ g) (hBc : Bc g n (fun j => .int .i64 (P j)) w5) :
    ∃ kb ab pb rb hb, Value.pointer (some ⟨w5.heap.size + 1, 0, none⟩) = .pointer (some ⟨kb, 0, none⟩) ∧ LkF F0 w (kd0 kb ab pb rb hb n (.slice a n c) P) ((w5.alloc OA).alloc (.cells #[.slice a n c, .slice (some ⟨w5.heap.size, 0, none⟩) n n, .slice (some ⟨g, 0, none⟩) n n, .slice (some ⟨w.heap.size + 1, 0, none⟩) n n, .slice (some ⟨w.heap.size, 0, none⟩) n n, .int .u32 0, .int .u64 0, .int .u8 0, .int .u8 0, .slice none 0 0] 120)) := by
      have z5 := b5.size
      have gz := hBc.lt
      simp at z5 hg
      refine ⟨w5.heap.size + 1, w5.heap.size, g, w.heap.size + 1, w.heap.size, rfl, lk_new _ _ _ _ _ _ _ _ _ _ 120 ?bl ?hk ?ha ?hp ?hr ?hg ?n1 ?n2⟩
      case hk => exact ha_at _ _ _ (by simp)
      case bl => first | exact bl_0 b5 (al_1 _ _) | exact bl_0 b5 (al_2 _ _ _) | exact bl_0 b5 (al_3 _ _ _ _) | exact bl_0 b5 (al_4 _ _ _ _ _) | exact bl_1 b5 (al_1 _ _) | exact bl_1 b5 (al_2 _ _ _) | exact bl_1 b5 (al_3 _ _ _ _) | exact bl_2 b5 (al_1 _ _) | exact bl_2 b5 (al_2 _ _ _) | exact bl_3 b5 (al_1 _ _)
      case hp => first | exact hBc.below (al_1 _ _) | exact hBc.below (al_2 _ _ _) | exact hBc.below (al_3 _ _ _ _) | exact hBc.below (al_4 _ _ _ _ _)
      case ha =>
        rw [← hOA.out]
        repeat rw [ha_old _ _ _ (by first | omega | (simp; done) | (simp; omega))]
        first
        | exact ha_at _ _ _ (by simp)
        | (rw [b5.block _ (by first | omega | (simp; done) | (simp; omega)), hd_old]
           repeat rw [ha_old _ _ _ (by first | omega | (simp; done) | (simp; omega))]
           exact ha_at _ _ _ (by simp))
      case hr =>
        rw [← hOR.out]
        repeat rw [ha_old _ _ _ (by first | omega | (simp; done) | (simp; omega))]
        first
        | exact ha_at _ _ _ (by simp)
        | (rw [b5.block _ (by first | omega | (simp; done) | (simp; omega)), hd_old]
           repeat rw [ha_old _ _ _ (by first | omega | (simp; done) | (simp; omega))]
           exact ha_at _ _ _ (by simp))
      case hg =>
        rw [← hOR.out]
        repeat rw [ha_old _ _ _ (by first | omega | (simp; done) | (simp; omega))]
        first
        | exact ha_at _ _ _ (by simp)
        | (rw [b5.block _ (by first | omega | (simp; done) | (simp; omega)), hd_old]
           repeat rw [ha_old _ _ _ (by first | omega | (simp; done) | (simp; omega))]
           exact ha_at _ _ _ (by simp))
      case n1 => refine ⟨?_, ?_, ?_, ?_, ?_⟩ <;> omega
      case n2 => refine ⟨?_, ?_, ?_, ?_, ?_, ?_, ?_, ?_, ?_, ?_⟩ <;> omega
end Go.Proofs.YtibohlbkkaghkaaDoor
