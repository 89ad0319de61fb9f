/- Texts in one: IsaH, DepS. -/
import Derived.Deep.WholeRow
import Derived.Test.YtopehmpjfndgjaaJ10
import Derived.Test.YtopehmpjfndgjaaJ11
import Derived.Test.YtopehmpjfndgjaaJ14
/- What Decode returns. -/
namespace Go.Proofs.Ytopehmpjfndgjaa
open Go.ChangeShapes Go.WideShapes Go.ChangeAt Go.RowKit
set_option linter.unusedVariables false
set_option linter.unusedSimpArgs false

/-- The codes lie in block g. -/
def Codes (g : Nat) (w : World) : Prop := g < w.heap.size ∧ ∀ k : Nat, k < 70 → w.cell? ⟨g, k, none⟩ = some (.int .u32 (W.code k))
theorem Codes.below {g : Nat} {a b : World} (h : Codes g a) (hm : Below a.heap.size a b) : Codes g b :=
  ⟨Nat.lt_of_lt_of_le h.1 hm.size, fun k hk => (hm.cell (p := ⟨g, k, none⟩) h.1).trans (h.2 k hk)⟩
theorem codesA_at (k : Nat) (hk : k < 70) : codesA[k]? = some (.int .u32 (W.code k)) := by
  have h : ((List.range 70).all fun k => decide (W.codes[k]? = some (W.code k))) = true := by decide +kernel
  have := List.all_eq_true.1 h k (List.mem_range.2 hk)
  simp at this
  simp [codesA, this]
theorem Codes.start (w : World) (t : TypeId) : Codes w.heap.size (w.alloc (.cells codesA t)) :=
  ⟨by simp, fun k hk => (cell_of_row _ _ k codesA t (0, 0) (heap_alloc_last w _)).trans (codesA_at k hk)⟩

theorem decFrom_step {x : Int} {k : Nat} (hk : k ≤ 69) : W.decFrom x k (70 - k) = bif W.hit x k then k else W.decFrom x (k + 1) (70 - (k + 1)) := by
  have : 70 - k = (70 - (k + 1)) + 1 := by omega
  rw [this, W.decFrom]

set_option maxRecDepth 100000 in
set_option maxHeartbeats 6400000 in
theorem decode_any (x : Int) (w : World) :
    Calls Try.prog 23 #[.int .u32 x] w fun e w' => e = .returned (.tuple #[inV (W.decI x), .bool (W.decB x)]) ∧ Below w.heap.size w w' := by
  have hst : ∀ w : World, (storeCells ⟨w.heap.size, 0, none⟩ codesA.toList 0).run Try.prog (w.alloc (.cells Try.zeroCells72 72)) = .ok () (w.alloc (.cells codesA 72)) := fun w =>
    run_storeCells_new w 72 _ _ (by kernel_rfl) (by kernel_rfl) (by kernel_rfl)
  have hn : codesA.size = 70 := by kernel_rfl
  go_enter Try.func23, Try.ntmps23
  go_wp2_with (go_at_call 35; refine (codes_any _).mono ?_; rintro e w1 ⟨rfl, hb1⟩)
  have hz := hb1.size
  simp at hz
  have hb2 : Below w.heap.size w w1 := ((Below.refl _ _).alloc (Nat.le_refl _) _).trans (hb1.mono (by simp))
  have hR : Room w.heap.size 8 w1 := ⟨_, _, (hb1.block _ (by simp)).trans (heap_alloc_last w _), rfl⟩
  clear hb1 hst hn
  go_loopw [5] (fun i wr => ∃ k : Nat, 1 ≤ k ∧ k ≤ 70 ∧ i = .int .i64 k ∧ Below w.heap.size w wr ∧ Codes w1.heap.size wr ∧ Room w.heap.size 8 wr ∧ W.dec x = W.decFrom x k (70 - k)) (fun i _ => 70 - (intOf i).toNat)
  case atStart => exact ⟨1, by omega, by omega, rfl, hb2.alloc (by omega) _, Codes.start _ _, hR.below ((Below.refl _ _).alloc (Nat.le_refl _) _) (by omega), rfl⟩
  case round =>
    obtain ⟨k, hk1, hk2, rfl, hbl, hC, hRr, hD⟩ := hrel
    have HD : Hid (W.dec x = W.decFrom x k (70 - k)) := hD
    have HC : Hid (Codes w1.heap.size wr) := hC
    have HR : Hid (Room w.heap.size 8 wr) := hRr
    clear hD hC hRr hR hb2
    by_cases hk : k ≤ 69
    · have e0 : W.decFrom x k (70 - k) = bif W.hit x k then k else W.decFrom x (k + 1) (70 - (k + 1)) := decFrom_step hk
      have E0 : Hid (W.decFrom x k (70 - k) = bif W.hit x k then k else W.decFrom x (k + 1) (70 - (k + 1))) := e0
      clear e0
      have hc : wr.cell? ⟨w1.heap.size, k, none⟩ = some (.int .u32 (W.code k)) := HC.out.2 k (by omega)
      have hk0 : (0 : Int) ≤ (k : Int) := Int.natCast_nonneg _
      have hk7 : (k : Int) < 70 := by omega
      have hk9 : (k : Int) ≤ 69 := by omega
      cases h1 : (bits .and .u32 (bits .xor .u32 x (W.code k)) 127 != 0)
      · cases h2 : (bits .and .u32 x (W.shp k).fixed == W.code k)
        · have hh : Hid (W.hit x k = false) := by
            have : W.hit x k = false := by simp [W.hit, h1, h2]
            exact this
          go_wp2_with (go_at_call 36; refine (shapeOf_any _ _).mono ?_; rintro e w2 ⟨rfl, hb2⟩; have hc2 : w2.cell? ⟨w1.heap.size, k, none⟩ = some (.int .u32 (W.code k)) := (hb2.cell (p := ⟨w1.heap.size, k, none⟩) HC.out.1).trans hc; have hlt : w1.heap.size < w2.heap.size := Nat.lt_of_lt_of_le HC.out.1 hb2.size; unfold shV)
          go_quiet (fail)
          go_wp2
          go_roundw
          case rel =>
            have hz2 := hbl.size
            have hz3 := HC.out.1
            exact ⟨k + 1, by omega, by omega, by go_num, hbl.trans ((below_drewN (hb2.alloc hb2.size _) nq).mono hbl.size), HC.out.below (below_drewN (hb2.alloc hb2.size _) nq), HR.out.below (below_drewN (hb2.alloc hb2.size _) nq) (by omega), by rw [HD.out, E0.out, hh.out]; rfl⟩
          case measure => simp [intOf]; omega
        · have hh : Hid (W.hit x k = true) := by
            have : W.hit x k = true := by simp [W.hit, h1, h2]
            exact this
          have hd : Hid (W.dec x = k) := by
            have : W.dec x = k := by rw [HD.out, E0.out, hh.out]; rfl
            exact this
          have hz2 := hbl.size
          have hz3 := HC.out.1
          go_wp2_with (go_at_call 36; refine (shapeOf_any _ _).mono ?_; rintro e w2 ⟨rfl, hb2⟩; have hc2 : w2.cell? ⟨w1.heap.size, k, none⟩ = some (.int .u32 (W.code k)) := (hb2.cell (p := ⟨w1.heap.size, k, none⟩) HC.out.1).trans hc; have hlt : w1.heap.size < w2.heap.size := Nat.lt_of_lt_of_le HC.out.1 hb2.size; unfold shV)
          go_quiet (fail)
          go_wp2_with (go_at_call 37; refine (read_any (W.shp k) (W.okSh_shp k) k x _).mono ?_; rintro e w3 ⟨rfl, hb3⟩; have hq : Below wr.heap.size wr w3 := (below_drewN (hb2.alloc hb2.size _) nq).trans (hb3.mono (by have := hb2.size; simp; omega)); obtain ⟨v0, v1, v2, v3, v4, v5, v6, v7, r0, r1, r2, r3, r4, r5, r6, r7, r8⟩ := (HR.out.below hq (by omega)).eight; unfold inV)
          refine bodyPost_ret (v := .tuple #[inV (W.read (W.shp k) k x), .bool true]) ?_ rfl ⟨?_, ?_⟩
          · simp [results, Try.results23, go_sem, inV, r0, r1, r2, r3, r4, r5, r6, r7]
          · rw [W.decI, W.decB, hd.out]
            have : (k != 0) = true := by simp; omega
            rw [this]
          · exact ((((((((hbl.trans (hq.mono hbl.size)).setCell (Nat.le_refl _) _).setCell (Nat.le_refl _) _).setCell (Nat.le_refl _) _).setCell (Nat.le_refl _) _).setCell (Nat.le_refl _) _).setCell (Nat.le_refl _) _).setCell (Nat.le_refl _) _).setCell (Nat.le_refl _) _
      · have hh : Hid (W.hit x k = false) := by
          have : W.hit x k = false := by simp [W.hit, h1]
          exact this
        go_wp2
        go_roundw
        case rel => exact ⟨k + 1, by omega, by omega, by go_num, hbl, HC.out, HR.out, by rw [HD.out, E0.out, hh.out]; rfl⟩
        case measure => simp [intOf]; omega
    · have hk70 : k = 70 := by omega
      have hd : Hid (W.dec x = 0) := by
        have : W.dec x = 0 := by rw [HD.out, hk70]; rfl
        exact this
      have hk7 : ¬ (k : Int) ≤ 69 := by omega
      clear hk70 HD hk hk1 hk2
      obtain ⟨v0, v1, v2, v3, v4, v5, v6, v7, r0, r1, r2, r3, r4, r5, r6, r7, r8⟩ := HR.out.eight
      go_wp2
      refine bodyPost_ret (v := .tuple #[inV ⟨0, 0, 0, 0, 0, 0, false, false⟩, .bool false]) ?_ rfl ⟨?_, ?_⟩
      · simp [results, Try.results23, go_sem, inV, r0, r1, r2, r3, r4, r5, r6, r7]
      · rw [W.decI, W.decB, hd.out]
        rfl
      · exact ((((((((hbl).setCell (Nat.le_refl _) _).setCell (Nat.le_refl _) _).setCell (Nat.le_refl _) _).setCell (Nat.le_refl _) _).setCell (Nat.le_refl _) _).setCell (Nat.le_refl _) _).setCell (Nat.le_refl _) _).setCell (Nat.le_refl _) _

end Go.Proofs.Ytopehmpjfndgjaa

/- Whole structs by words that the walk does not open. -/
namespace Go.Proofs.Ytopehmpjfndgjaa
open Go.ChangeShapes Go.WideShapes Go.ChangeAt Go.RowKit
set_option linter.unusedVariables false
set_option linter.unusedSimpArgs false

def ldI (a : Addr) : Sem Value := loadVar 47 a
theorem ldI_eq (a : Addr) : loadVar 47 a = ldI a := rfl
def stI (a : Addr) (v : Value) : Sem Unit := storeVar 47 a v
theorem stI_eq (a : Addr) (v : Value) : storeVar 47 a v = stI a v := rfl
def ldO (a : Addr) : Sem Value := loadVar 32 a
theorem ldO_eq (a : Addr) : loadVar 32 a = ldO a := rfl
def stO (a : Addr) (v : Value) : Sem Unit := storeVar 32 a v
theorem stO_eq (a : Addr) (v : Value) : storeVar 32 a v = stO a v := rfl
def ldT (a : Addr) : Sem Value := loadVar 37 a
theorem ldT_eq (a : Addr) : loadVar 37 a = ldT a := rfl
def stT (a : Addr) (v : Value) : Sem Unit := storeVar 37 a v
theorem stT_eq (a : Addr) (v : Value) : storeVar 37 a v = stT a v := rfl
theorem infoI : (Try.prog.info? 47).map (·.size) = some 8 := by kernel_rfl
theorem infoO : (Try.prog.info? 32).map (·.size) = some 13 := by kernel_rfl
theorem infoT : (Try.prog.info? 37).map (·.size) = some 6 := by kernel_rfl
theorem load_part {b off : Nat} {cs all : Array Value} {T ty : TypeId} {w : World} (h : w.heap[b]? = some (.cells all T)) (hcs : ∀ j v, cs[j]? = some v → all[off + j]? = some v) (ha : (isAgg ty).run Try.prog w = .ok true w) (hs : (sizeOf ty).run Try.prog w = .ok cs.size w) : (loadVar ty ⟨b, off, none⟩).run Try.prog w = .ok (.agg cs) w := by
  have hl := run_loadCells_list (P := Try.prog) w ⟨b, off, none⟩ cs.toList (fun j v hv => by
    have hadd : (⟨b, off, none⟩ : Addr).add j = ⟨b, off + j, none⟩ := by unfold Addr.add; split <;> simp_all
    rw [hadd, cell_of_row _ _ (off + j) all T (0, 0) h]
    exact hcs j v (by simpa using hv))
  simp only [Array.length_toList, Array.toArray_toList] at hl
  simp [loadVar, Sem.run_bind, ha, hs, hl]
theorem stI_at {g : Nat} {w : World} {CS Z : Array Value} {T : TypeId} (h : w.heap[g]? = some (.cells Z T)) (hz : Z.size = 8) (hs : CS.size = 8) (ha : CS.all (fun x => x.oneCell') = true) : (stI ⟨g, 0, none⟩ (.agg CS)).run Try.prog w = .ok () (w.setRow g CS) := run_storeVar_row w g _ _ _ _ h (by rw [infoI, hs]) (by rw [hz, hs]) ha
theorem stO_at {g : Nat} {w : World} {CS Z : Array Value} {T : TypeId} (h : w.heap[g]? = some (.cells Z T)) (hz : Z.size = 13) (hs : CS.size = 13) (ha : CS.all (fun x => x.oneCell') = true) : (stO ⟨g, 0, none⟩ (.agg CS)).run Try.prog w = .ok () (w.setRow g CS) := run_storeVar_row w g _ _ _ _ h (by rw [infoO, hs]) (by rw [hz, hs]) ha
theorem stT_at {g : Nat} {w : World} {CS Z : Array Value} {T : TypeId} (h : w.heap[g]? = some (.cells Z T)) (hz : Z.size = 6) (hs : CS.size = 6) (ha : CS.all (fun x => x.oneCell') = true) : (stT ⟨g, 0, none⟩ (.agg CS)).run Try.prog w = .ok () (w.setRow g CS) := run_storeVar_row w g _ _ _ _ h (by rw [infoT, hs]) (by rw [hz, hs]) ha
theorem ldI_at {g : Nat} {w : World} {CS : Array Value} {T : TypeId} (h : w.heap[g]? = some (.cells CS T)) (hs : CS.size = 8) : (ldI ⟨g, 0, none⟩).run Try.prog w = .ok (.agg CS) w := load_part h (fun j v hv => by simpa using hv) (by simp [go_sem]) (by rw [hs]; simp [go_sem])
theorem ldO_at {g : Nat} {w : World} {CS : Array Value} {T : TypeId} (h : w.heap[g]? = some (.cells CS T)) (hs : CS.size = 13) : (ldO ⟨g, 0, none⟩).run Try.prog w = .ok (.agg CS) w := load_part h (fun j v hv => by simpa using hv) (by simp [go_sem]) (by rw [hs]; simp [go_sem])
theorem ldT_at {g off : Nat} {w : World} {CS all : Array Value} {T : TypeId} (h : w.heap[g]? = some (.cells all T)) (hc : ∀ j v, CS[j]? = some v → all[off + j]? = some v) (hs : CS.size = 6) : (ldT ⟨g, off, none⟩).run Try.prog w = .ok (.agg CS) w := load_part h hc (by simp [go_sem]) (by rw [hs]; simp [go_sem])
theorem gsetRow (w : World) (b : Nat) (cs : Array Value) : w.grownBy (w.setRow b cs) (some b) :=
  ⟨rfl, rfl, rfl, by simp [World.setRow], fun k _ hne => setRow_other w b k cs (by simpa using hne)⟩
theorem below_over {n d : Nat} {x y z : World} (h : Below n x y) (k : y.grownBy z (some d)) (hd : n ≤ d) (hn : n ≤ y.heap.size) : Below n x z := Below.grown h k hn (fun j hj => by cases hj; exact hd)
end Go.Proofs.Ytopehmpjfndgjaa
