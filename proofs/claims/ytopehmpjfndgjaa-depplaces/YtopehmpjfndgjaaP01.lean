/- Texts in one: DepX, DepY, DepPlacesWalk. -/
import Derived.Deep.AppendLies
import Derived.Test.YtopehmpjfndgjaaJ03
import Derived.Test.YtopehmpjfndgjaaK01
/- Places of any items. -/
namespace Go.Proofs.Ytopehmpjfndgjaa
open Go.ChangeShapes Go.WideShapes Go.ChangeAt Go.RowKit
set_option linter.unusedVariables false
set_option linter.unusedSimpArgs false

/-- A block holds these cells. -/
structure Bc (b n : Nat) (f : Nat → Value) (w : World) : Prop where
  lt : b < w.heap.size
  c : ∀ j, j < n → w.cell? ⟨b, j, none⟩ = some (f j)
  fz : ∀ j, w.frozen? ⟨b, j, none⟩ = false
theorem Bc.below {b n : Nat} {f : Nat → Value} {w w' : World} (h : Bc b n f w) (hb : Below w.heap.size w w') : Bc b n f w' :=
  ⟨Nat.lt_of_lt_of_le h.lt hb.size, fun j hj => (hb.cell (p := ⟨b, j, none⟩) h.lt).trans (h.c j hj), fun j => (hb.frozen (p := ⟨b, j, none⟩) h.lt).trans (h.fz j)⟩
def updV (f : Nat → Value) (k : Nat) (v : Value) : Nat → Value := fun j => if j = k then v else f j
theorem Bc.set {b n : Nat} {f : Nat → Value} {w : World} (h : Bc b n f w) (k : Nat) (v : Value) : Bc b n (updV f k v) (w.setCell ⟨b, k, none⟩ v) :=
  ⟨by simpa [World.setCell] using h.lt, fun j hj => by
    unfold updV
    by_cases e : j = k
    · subst e
      rw [if_pos rfl]
      exact World.cell?_setCell_same _ _ _ (h.c j hj)
    · rw [if_neg e]
      exact (World.cell?_setCell_other _ _ _ _ (by simp [e])).trans (h.c j hj), fun j => (World.frozen?_setCell _ _ _ _).trans (h.fz j)⟩
theorem Bc.congr {b n : Nat} {f g : Nat → Value} {w : World} (h : Bc b n f w) (e : ∀ j, j < n → f j = g j) : Bc b n g w := ⟨h.lt, fun j hj => by rw [← e j hj]; exact h.c j hj, h.fz⟩
theorem made_get (z : Array Value) (m j : Nat) (hj : j < m) : (madeCells z m)[j]? = some z[j % z.size]! := by simp [madeCells, hj]
theorem Bc.made (w : World) (z : Array Value) (m : Nat) (T : TypeId) : Bc w.heap.size m (fun j => z[j % z.size]!) (w.alloc (.cells (madeCells z m) T)) :=
  ⟨by simp, fun j hj => (cell_of_row _ _ j _ T (0, 0) (heap_alloc_last w _)).trans (made_get z m j hj), fun j => by unfold World.frozen?; rw [heap_alloc_last w _]; simp⟩
theorem make_nn (n : Nat) (hn : n ≤ 8192) (w : World) : (Instr.makeSlice 30 (.int .i64 (n : Int)) (.int .i64 (n : Int))).run Try.prog w = .ok (.slice (some ⟨w.heap.size, 0, none⟩) n n) (w.alloc (.cells (madeCells #[.int .i64 0] n) 3)) := by
  obtain ⟨i, hi, hzz⟩ := Option.map_eq_some_iff.1 (show (Try.prog.info? 3).map (fun i => (i.zero, i.size, i.bytes)) = some (some (.int .i64 0), 1, 8) by kernel_rfl)
  simp only [Prod.mk.injEq] at hzz
  obtain ⟨hz, hs, hb⟩ := hzz
  have hr := run_make (P := Try.prog) w 30 3 i _ Try.underlying30 hi hz .i64 .i64 n n (by omega) (by omega) (by rw [hb]; omega) (by omega)
  simp only [Int.toNat_natCast, hs, Nat.mul_one] at hr
  exact hr
namespace W
def hasO (x : It) : Bool := dnB x && (okind (dnI x).op x.dn != 0)
def cntO (x : Nat → It) : Nat → Nat
  | 0 => 0
  | n + 1 => bif hasO (x n) then cntO x n + 1 else cntO x n
theorem cntO_le (x : Nat → It) : ∀ n, cntO x n ≤ n
  | 0 => Nat.le_refl 0
  | n + 1 => by
    have := cntO_le x n
    unfold cntO
    cases hasO (x n)
    · show cntO x n ≤ _; omega
    · show cntO x n + 1 ≤ _; omega
def plO (x : Nat → It) (j : Nat) : Int := bif hasO (x j) then (cntO x j : Int) else -1
/-- As many operations as Ops has. -/
theorem cnt_run (x : Nat → It) : ∀ n, (runN x n).p.length = cntO x n
  | 0 => rfl
  | n + 1 => by
    have ih := cnt_run x n
    unfold runN cntO hasO
    cases dnB (x n)
    · exact ih
    · show (tk (dnI (x n)) (oper (dnI (x n)) (x n)) (runN x n)).p.length = bif true && (okind (dnI (x n)).op (x n).dn != 0) then cntO x n + 1 else cntO x n
      unfold tk
      dsimp only
      rw [List.length_append, ih, oper_k, Bool.true_and]
      cases (okind (dnI (x n)).op (x n).dn != 0) <;> rfl
end W
def plF (x : Nat → W.It) (j i : Nat) : Value := .int .i64 (if i < j then W.plO x i else 0)
theorem plF_succ (x : Nat → W.It) (j i : Nat) (v : Int) (hv : v = W.plO x j) : updV (plF x j) j (.int .i64 v) i = plF x (j + 1) i := by
  unfold updV plF
  by_cases e : i = j
  · rw [if_pos e, if_pos (by omega), hv, e]
  · rw [if_neg e]
    by_cases e2 : i < j
    · rw [if_pos e2, if_pos (by omega)]
    · rw [if_neg e2, if_neg (by omega)]
theorem plF_two (x : Nat → W.It) (j i : Nat) (u v : Int) (hv : v = W.plO x j) : updV (updV (plF x j) j (.int .i64 u)) j (.int .i64 v) i = plF x (j + 1) i := by
  rw [← plF_succ x j i v hv]
  unfold updV
  by_cases e : i = j
  · rw [if_pos e, if_pos e]
  · rw [if_neg e, if_neg e, if_neg e]
attribute [local go_sem ↓] ldI_eq stI_eq ldT_eq stT_eq
set_option maxRecDepth 100000 in
set_option maxHeartbeats 1600000 in
theorem places_any (a : Option Addr) (n cap : Nat) (x : Nat → W.It) (w : World) (hI : Its a n x w) (hn : n ≤ 150) : Calls Try.prog 15 #[.slice a n cap] w fun e w' => (∃ g, e = .returned (.slice (some ⟨g, 0, none⟩) n n) ∧ Bc g n (fun j => .int .i64 (W.plO x j)) w') ∧ Below w.heap.size w w' := by
  have hmk := make_nn n (by omega) w
  have M0 := (Bc.made w #[.int .i64 0] n 3).congr (g := plF x 0) (fun j hj => by unfold plF; rw [if_neg (by omega)]; simp [Nat.mod_one])
  have B0 : Below w.heap.size w (w.alloc (.cells (madeCells #[.int .i64 0] n) 3)) := (Below.refl _ _).alloc (Nat.le_refl _) _
  generalize w.alloc _ = W1 at *
  have HM : Hid (_ ∧ _ ∧ _) := ⟨M0, B0, hI⟩
  clear M0 B0 hI
  go_enter Try.func15, Try.ntmps15
  go_wp2
  go_loopw [4, 14] (fun nx i wr => ∃ j : Nat, j ≤ n ∧ i = .int .i64 (j : Int) ∧ nx = .int .i64 (W.cntO x j : Int) ∧ Bc w.heap.size n (plF x j) wr ∧ Below w.heap.size w wr) (fun _ i _ => n - (intOf i).toNat)
  case atStart => exact ⟨0, by omega, rfl, rfl, HM.out.1, HM.out.2.1⟩
  case round =>
    clear hmk
    obtain ⟨j, hj, rfl, rfl, hB, hbl⟩ := hrel
    by_cases hlt : j < n
    · obtain ⟨b, o, rfl, hb0, hc0⟩ := HM.out.2.2.at_ (by omega)
      have hc := fun k v hv => (hbl.cell (p := ⟨b, o + j * 6 + k, none⟩) hb0).trans (hc0 j hlt k v hv)
      have ld0 := ldT_cells (CS := itC (x j)) (w := wr) (b := b) (off := o + j * 6) hc rfl
      have hbl' : b < wr.heap.size := Nat.lt_of_lt_of_le hb0 hbl.size
      have hnT := stT_new wr (itC (x j)) #[.int .u32 0, .int .u32 0, .int .u32 0, .int .u32 0, .bool false, .bool false] rfl rfl (by simp [itC, Value.oneCell'])
      have hnI : ∀ V : World, (stI ⟨V.heap.size, 0, none⟩ (inV (W.dnI (x j)))).run Try.prog (V.alloc (.cells #[.int .i64 0, .int .i64 0, .int .i64 0, .int .i64 0, .int .i64 0, .int .u32 0, .bool false, .bool false] 47)) = .ok () (V.alloc (.cells (inC (W.dnI (x j))) 47)) := fun V => stI_new V (inC (W.dnI (x j))) _ rfl rfl (by simp [inC, Value.oneCell'])
      have cj := hB.c j hlt
      have fj := hB.fz j
      have gl := hB.lt
      have j1 : (j : Int) < (n : Int) := by omega
      have hle := W.cntO_le x j
      have hS1 := fun v (hv : v = W.plO x j) => (hB.set j (.int .i64 v)).congr (fun i _ => plF_succ x j i v hv)
      have hD := fun w => done_any (x j) w
      have hK := fun w => kindOf_any (W.dnI (x j)).op (x j).dn w
      have hhs : W.hasO (x j) = (W.dnB (x j) && (W.okind (W.dnI (x j)).op (x j).dn != 0)) := rfl
      have hcs : W.cntO x (j + 1) = bif W.hasO (x j) then W.cntO x j + 1 else W.cntO x j := rfl
      have hpl : W.plO x j = bif W.hasO (x j) then (W.cntO x j : Int) else -1 := rfl
      have c4 : (itC (x j))[4]? = some (.bool (x j).dn) := rfl
      have zX : (itC (x j)).size = 6 := rfl
      have hW2 := heap_alloc_last (wr.setCell ⟨w.heap.size, j, none⟩ (.int .i64 (-1))) (.cells (itC (x j)) 37)
      have hsz : (wr.setCell ⟨w.heap.size, j, none⟩ (.int .i64 (-1))).heap.size = wr.heap.size := by simp [World.setCell]
      rw [hsz] at hW2
      have ldx := ldT_at (CS := itC (x j)) (off := 0) hW2 (fun k v hv => by simpa using hv) rfl
      have hbm := hbl.setCell (p := ⟨w.heap.size, j, none⟩) (Nat.le_refl _) (.int .i64 (-1))
      have hB1 := hB.set j (.int .i64 (-1))
      have HB : Hid (_ ∧ _ ∧ _ ∧ _ ∧ _ ∧ _ ∧ _ ∧ _ ∧ _ ∧ _ ∧ _ ∧ _) := ⟨hB, hbl, hS1, hD, hK, hhs, hcs, hpl, c4, hW2, hbm, hB1⟩
      clear hB hbl hS1 hD hK hhs hcs hpl c4 hW2 hbm hB1 hc hc0
      generalize itC (x j) = XS at *
      have hi0 : (inC (W.dnI (x j)))[0]? = some (.int .i64 (W.dnI (x j)).op) := rfl
      cases hd : W.dnB (x j)
      · rw [hd] at HB
        go_wp2_with (fail)
        refine (HB.out.2.2.2.1 _).mono ?_
        rintro e w3 ⟨rfl, b3⟩
        have hal : ((wr.setCell ⟨w.heap.size, j, none⟩ (.int .i64 (-1))).alloc (.cells XS 37)).heap.size = wr.heap.size + 1 := by simp [World.setCell]
        have l3 : wr.heap.size < w3.heap.size := by have := b3.size; omega
        have g3 : w.heap.size < w3.heap.size := by omega
        have y4 : w3.cell? ⟨wr.heap.size, 4, none⟩ = some (.bool (x j).dn) := (b3.cell (p := ⟨wr.heap.size, 4, none⟩) (by show wr.heap.size < _; omega)).trans ((cell_of_row _ _ 4 _ _ (0, 0) HB.out.2.2.2.2.2.2.2.2.2.1).trans HB.out.2.2.2.2.2.2.2.2.1)
        have B3 : Below w.heap.size w w3 := (HB.out.2.2.2.2.2.2.2.2.2.2.1.alloc HB.out.2.2.2.2.2.2.2.2.2.2.1.size (.cells XS 37)).trans (b3.mono (by rw [hal]; omega))
        have P3 := (HB.out.2.2.2.2.2.2.2.2.2.2.2.below ((Below.refl _ _).alloc (Nat.le_refl _) (.cells XS 37))).below b3
        have hpv : (-1 : Int) = W.plO x j := by rw [HB.out.2.2.2.2.2.2.2.1, HB.out.2.2.2.2.2.1]; rfl
        have hcv : W.cntO x (j + 1) = W.cntO x j := by rw [HB.out.2.2.2.2.2.2.1, HB.out.2.2.2.2.2.1]; rfl
        have P4 := (P3.congr (fun i _ => plF_succ x j i (-1) hpv)).below ((Below.refl _ _).alloc (Nat.le_refl _) (.cells (inC (W.dnI (x j))) 47))
        have B4 := B3.alloc B3.size (.cells (inC (W.dnI (x j))) 47)
        have HF : Hid (_ ∧ _ ∧ _) := ⟨P4, B4, hcv⟩
        clear P4 B4 hcv P3 B3 b3 hpv ld0 ldx hnT cj fj
        go_wp2
        go_roundw
        case rel => exact ⟨j + 1, by omega, by go_num, by rw [HF.out.2.2], HF.out.1, HF.out.2.1⟩
        case measure => simp [intOf]; omega
      · rw [hd] at HB
        cases hk : (W.okind (W.dnI (x j)).op (x j).dn != 0)
        · rw [hk] at HB
          go_wp2_with (fail)
          refine (HB.out.2.2.2.1 _).mono ?_
          rintro e w3 ⟨rfl, b3⟩
          have hal : ((wr.setCell ⟨w.heap.size, j, none⟩ (.int .i64 (-1))).alloc (.cells XS 37)).heap.size = wr.heap.size + 1 := by simp [World.setCell]
          have l3 : wr.heap.size < w3.heap.size := by have := b3.size; omega
          have g3 : w.heap.size < w3.heap.size := by omega
          have y4 : w3.cell? ⟨wr.heap.size, 4, none⟩ = some (.bool (x j).dn) := (b3.cell (p := ⟨wr.heap.size, 4, none⟩) (by show wr.heap.size < _; omega)).trans ((cell_of_row _ _ 4 _ _ (0, 0) HB.out.2.2.2.2.2.2.2.2.2.1).trans HB.out.2.2.2.2.2.2.2.2.1)
          have B3 : Below w.heap.size w w3 := (HB.out.2.2.2.2.2.2.2.2.2.2.1.alloc HB.out.2.2.2.2.2.2.2.2.2.2.1.size (.cells XS 37)).trans (b3.mono (by rw [hal]; omega))
          have P3 := (HB.out.2.2.2.2.2.2.2.2.2.2.2.below ((Below.refl _ _).alloc (Nat.le_refl _) (.cells XS 37))).below b3
          have hpv : (-1 : Int) = W.plO x j := by rw [HB.out.2.2.2.2.2.2.2.1, HB.out.2.2.2.2.2.1]; rfl
          have hcv : W.cntO x (j + 1) = W.cntO x j := by rw [HB.out.2.2.2.2.2.2.1, HB.out.2.2.2.2.2.1]; rfl
          have P4 := (P3.congr (fun i _ => plF_succ x j i (-1) hpv)).below ((Below.refl _ _).alloc (Nat.le_refl _) (.cells (inC (W.dnI (x j))) 47))
          have B4 := B3.alloc B3.size (.cells (inC (W.dnI (x j))) 47)
          have HF : Hid (_ ∧ _ ∧ _) := ⟨P4, B4, hcv⟩
          clear P4 B4 hcv P3 B3 b3 hpv ld0 ldx hnT cj fj
          go_wp2_with (fail)
          refine (HB.out.2.2.2.2.1 _).mono ?_
          rintro e w4 ⟨rfl, rfl⟩
          go_wp2
          go_roundw
          case rel => exact ⟨j + 1, by omega, by go_num, by rw [HF.out.2.2], HF.out.1, HF.out.2.1⟩
          case measure => simp [intOf]; omega
        · rw [hk] at HB
          go_wp2_with (fail)
          refine (HB.out.2.2.2.1 _).mono ?_
          rintro e w3 ⟨rfl, b3⟩
          have hal : ((wr.setCell ⟨w.heap.size, j, none⟩ (.int .i64 (-1))).alloc (.cells XS 37)).heap.size = wr.heap.size + 1 := by simp [World.setCell]
          have l3 : wr.heap.size < w3.heap.size := by have := b3.size; omega
          have g3 : w.heap.size < w3.heap.size := by omega
          have y4 : w3.cell? ⟨wr.heap.size, 4, none⟩ = some (.bool (x j).dn) := (b3.cell (p := ⟨wr.heap.size, 4, none⟩) (by show wr.heap.size < _; omega)).trans ((cell_of_row _ _ 4 _ _ (0, 0) HB.out.2.2.2.2.2.2.2.2.2.1).trans HB.out.2.2.2.2.2.2.2.2.1)
          have B3 : Below w.heap.size w w3 := (HB.out.2.2.2.2.2.2.2.2.2.2.1.alloc HB.out.2.2.2.2.2.2.2.2.2.2.1.size (.cells XS 37)).trans (b3.mono (by rw [hal]; omega))
          have P3 := (HB.out.2.2.2.2.2.2.2.2.2.2.2.below ((Below.refl _ _).alloc (Nat.le_refl _) (.cells XS 37))).below b3
          have hpv : (W.cntO x j : Int) = W.plO x j := by rw [HB.out.2.2.2.2.2.2.2.1, HB.out.2.2.2.2.2.1]; rfl
          have hcv : W.cntO x (j + 1) = W.cntO x j + 1 := by rw [HB.out.2.2.2.2.2.2.1, HB.out.2.2.2.2.2.1]; rfl
          have p3c := P3.c j hlt
          have p3f := P3.fz j
          have P4 := ((P3.set j (.int .i64 (W.cntO x j : Int))).congr (fun i _ => plF_two x j i (-1) _ hpv)).below ((Below.refl _ _).alloc (Nat.le_refl _) (.cells (inC (W.dnI (x j))) 47))
          have B4 := (B3.setCell (p := ⟨w.heap.size, j, none⟩) (Nat.le_refl _) (.int .i64 (W.cntO x j : Int))).alloc (by have := B3.size; simp [World.setCell]; omega) (.cells (inC (W.dnI (x j))) 47)
          have HF : Hid (_ ∧ _ ∧ _) := ⟨P4, B4, hcv⟩
          generalize updV _ _ _ _ = v3 at p3c
          clear P4 B4 hcv P3 B3 b3 hpv ld0 ldx hnT cj fj
          go_wp2_with (fail)
          refine (HB.out.2.2.2.2.1 _).mono ?_
          rintro e w4 ⟨rfl, rfl⟩
          go_wp2
          go_roundw
          case rel => exact ⟨j + 1, by omega, by go_num, by rw [HF.out.2.2]; go_num, HF.out.1, HF.out.2.1⟩
          case measure => simp [intOf]; omega
    · have e : j = n := by omega
      subst e
      have X := hB.congr (g := fun i => .int .i64 (W.plO x i)) (fun i hi => by unfold plF; rw [if_pos hi])
      have HX : Hid (_ ∧ _) := ⟨X, hbl⟩
      clear X hB hbl
      go_wp2
      go_ret
      exact ⟨⟨_, rfl, HX.out.1⟩, HX.out.2⟩
end Go.Proofs.Ytopehmpjfndgjaa

/- DepPlaces' items; without any Go. -/
namespace Go.Proofs.Ytopehmpjfndgjaa
open Go.ChangeShapes Go.WideShapes Go.ChangeAt Go.RowKit
set_option linter.unusedVariables false
set_option linter.unusedSimpArgs false

namespace W
theorem and127 {x : Int} {k : Nat} (x0 : 0 ≤ x) (x1 : x < 4294967296) (c0 : 0 ≤ code k) (c1 : code k < 4294967296) (h : hit x k = true) : bits .and .u32 x 127 = bits .and .u32 (code k) 127 := by
  have hz : bits .and .u32 (bits .xor .u32 x (code k)) 127 = 0 := by
    unfold hit at h
    simp at h
    exact h.1
  refine eq_of_tb _ _ (and_lt _ _).1 (and_lt _ _).2 (and_lt _ _).1 (and_lt _ _).2 fun p hp => ?_
  have hx := xor_lt x (code k)
  have := tb_and (bits .xor .u32 x (code k)) 127 p hx.1 hx.2 (by decide) (by decide)
  rw [hz, tb_xor x (code k) p x0 x1 c0 c1, tb_zero] at this
  rw [tb_and x 127 p x0 x1 (by decide) (by decide), tb_and (code k) 127 p c0 c1 (by decide) (by decide)]
  revert this
  cases tb x p <;> cases tb (code k) p <;> cases tb 127 p <;> simp
def okz (k : Nat) : Bool := decide (0 ≤ code k ∧ code k < 4294967296) && (bits .and .u32 (code k) 127 != 0)
theorem okz_all : ((List.range 70).all fun k => decide (k = 0) || okz k) = true := by decide +kernel
theorem dec_even (x : Int) (x0 : 0 ≤ x) (x1 : x < 4294967296) (h : x % 128 = 0) : decB x = false := by
  cases hd : decB x
  · rfl
  · exfalso
    obtain ⟨k1, k2, hh⟩ := dec_hit x hd
    have := List.all_eq_true.1 okz_all (dec x) (List.mem_range.2 (by omega))
    have h0 : decide (dec x = 0) = false := by simp; omega
    rw [h0, Bool.false_or] at this
    unfold okz at this
    rw [Bool.and_eq_true] at this
    have hc := this.1
    have hn := this.2
    simp at hc hn
    have e := and127 x0 x1 hc.1 hc.2 hh
    have hl := and_low x 7 x0 x1 (by decide) (by decide)
    have e7 : ((2 : Int) ^ (7 : Int).toNat - 1) % 4294967296 = 127 := by decide
    rw [e7] at hl
    rw [hl] at e
    have hz : low x 7 = x % 128 := rfl
    rw [hz, h] at e
    exact hn e.symm
def d8 (K : Int) : Bool := bits .and .i64 K 8 == 0
/-- The item of a kind. -/
def plI (K : Int) : It :=
  if K % 8 = 0 then itw (encV (in5 13 1 2 0 0)) else if K % 8 = 1 then itw (encV (in5 16 0 2 1 0)) else if K % 8 = 2 then itw (encV (in5 38 0 0 0 51)) else
  if K % 8 = 3 then ⟨encV (in5 60 1 2 3 0), 0, 0, 0, d8 K, false⟩ else if K % 8 = 4 then itw (encV (in5 61 1 2 3 0)) else
  if K % 8 = 5 then ⟨encV (in5 13 1 2 0 0), 0, 0, 0, false, true⟩ else if K % 8 = 6 then itw (encV (in5 28 1 2 3 0)) else itw (K % 4294967296 * 128 % 4294967296)
def plH (K : Int) : Bool := if K % 8 = 3 then d8 K else decide (K % 8 ≤ 4)
theorem e0 : encE (in5 13 1 2 0 0) = 0 := by decide +kernel
theorem e1 : encE (in5 16 0 2 1 0) = 0 := by decide +kernel
theorem e2 : encE (in5 38 0 0 0 51) = 0 := by decide +kernel
theorem e3 : encE (in5 60 1 2 3 0) = 0 := by decide +kernel
theorem e4 : encE (in5 61 1 2 3 0) = 0 := by decide +kernel
theorem e6 : encE (in5 28 1 2 3 0) = 0 := by decide +kernel
theorem hasO_word {i : I} (h : encE i = 0) (dn : Bool) : hasO ⟨encV i, 0, 0, 0, dn, false⟩ = (okind i.op dn != 0) := by
  obtain ⟨h1, h2, _⟩ := dn_word h
  have g1 : dnB ⟨encV i, 0, 0, 0, dn, false⟩ = true := h1
  have g2 : dnI ⟨encV i, 0, 0, 0, dn, false⟩ = i := h2
  unfold hasO
  rw [g1, g2]
  rfl
theorem plI_rg (K : Int) : Rg (plI K).wd := by
  unfold plI
  split
  · exact (dn_word e0).2.2
  split
  · exact (dn_word e1).2.2
  split
  · exact (dn_word e2).2.2
  split
  · exact (dn_word e3).2.2
  split
  · exact (dn_word e4).2.2
  split
  · exact (dn_word e0).2.2
  split
  · exact (dn_word e6).2.2
  · exact ⟨by show 0 ≤ K % 4294967296 * 128 % 4294967296; omega, by show K % 4294967296 * 128 % 4294967296 < 4294967296; omega⟩
theorem plI_has (K : Int) : hasO (plI K) = plH K := by
  unfold plI plH
  have hK : K % 8 = 0 ∨ K % 8 = 1 ∨ K % 8 = 2 ∨ K % 8 = 3 ∨ K % 8 = 4 ∨ K % 8 = 5 ∨ K % 8 = 6 ∨ K % 8 = 7 := by omega
  rcases hK with h | h | h | h | h | h | h | h
  · rw [if_pos h, if_neg (by omega), h]; exact (hasO_word e0 false).trans (by decide +kernel)
  · rw [if_neg (by omega), if_pos h, if_neg (by omega), h]; exact (hasO_word e1 false).trans (by decide +kernel)
  · rw [if_neg (by omega), if_neg (by omega), if_pos h, if_neg (by omega), h]; exact (hasO_word e2 false).trans (by decide +kernel)
  · rw [if_neg (by omega), if_neg (by omega), if_neg (by omega), if_pos h, if_pos h, hasO_word e3]
    show (okind 60 (d8 K) != 0) = d8 K
    cases d8 K <;> decide +kernel
  · rw [if_neg (by omega), if_neg (by omega), if_neg (by omega), if_neg (by omega), if_pos h, if_neg (by omega), h]; exact (hasO_word e4 false).trans (by decide +kernel)
  · rw [if_neg (by omega), if_neg (by omega), if_neg (by omega), if_neg (by omega), if_neg (by omega), if_pos h, if_neg (by omega), h]; rfl
  · rw [if_neg (by omega), if_neg (by omega), if_neg (by omega), if_neg (by omega), if_neg (by omega), if_neg (by omega), if_pos h, if_neg (by omega), h]; exact (hasO_word e6 false).trans (by decide +kernel)
  · rw [if_neg (by omega), if_neg (by omega), if_neg (by omega), if_neg (by omega), if_neg (by omega), if_neg (by omega), if_neg (by omega), if_neg (by omega), h]
    have hd : dnB (itw (K % 4294967296 * 128 % 4294967296)) = false := dec_even (K % 4294967296 * 128 % 4294967296) (by omega) (by omega) (by omega)
    unfold hasO
    rw [hd]
    rfl
end W
/-- An item in a block of its own. -/
structure ItAt (g : Nat) (y : W.It) (w : World) : Prop where
  lt : g < w.heap.size
  c : ∀ k v, (itC y)[k]? = some v → w.cell? ⟨g, k, none⟩ = some v
  fz : ∀ j, w.frozen? ⟨g, j, none⟩ = false
theorem ItAt.below {g : Nat} {y : W.It} {w w' : World} (h : ItAt g y w) (hb : Below w.heap.size w w') : ItAt g y w' :=
  ⟨Nat.lt_of_lt_of_le h.lt hb.size, fun k v hv => (hb.cell (p := ⟨g, k, none⟩) h.lt).trans (h.c k v hv), fun j => (hb.frozen (p := ⟨g, j, none⟩) h.lt).trans (h.fz j)⟩
theorem it_new (y : W.It) (w : World) (T : TypeId) : ItAt w.heap.size y (w.alloc (.cells (itC y) T)) :=
  ⟨by simp, fun k v hv => (cell_of_row _ _ k _ T (0, 0) (heap_alloc_last w _)).trans hv, fun j => by unfold World.frozen?; rw [heap_alloc_last w _]; simp⟩
theorem ItAt.set {g : Nat} {y z : W.It} {w : World} (h : ItAt g y w) (k : Nat) (v : Value) (hk : (itC z)[k]? = some v) (hy : ∃ u, (itC y)[k]? = some u) (he : ∀ i, i ≠ k → (itC z)[i]? = (itC y)[i]?) : ItAt g z (w.setCell ⟨g, k, none⟩ v) :=
  ⟨by simpa [World.setCell] using h.lt, fun i u hu => by
    by_cases e : i = k
    · subst e
      obtain ⟨u0, hu0⟩ := hy
      rw [hk] at hu
      cases hu
      exact World.cell?_setCell_same _ _ _ (h.c i u0 hu0)
    · rw [he i e] at hu
      exact (World.cell?_setCell_other _ _ _ _ (by simp [e])).trans (h.c i u hu), fun j => (World.frozen?_setCell _ _ _ _).trans (h.fz j)⟩
theorem itC_5 (y z : W.It) (k : Nat) (h : ∀ i, i < 6 → i ≠ k → (itC z)[i]? = (itC y)[i]?) : ∀ i, i ≠ k → (itC z)[i]? = (itC y)[i]? := fun i hi => by
  by_cases e : i < 6
  · exact h i e hi
  · rw [Array.getElem?_eq_none (by show 6 ≤ i; omega), Array.getElem?_eq_none (by show 6 ≤ i; omega)]
theorem ItAt.setW {g : Nat} {y : W.It} {w : World} (h : ItAt g y w) (v : Int) : ItAt g { y with wd := v } (w.setCell ⟨g, 0, none⟩ (.int .u32 v)) :=
  h.set 0 _ rfl ⟨_, rfl⟩ (itC_5 _ _ 0 fun i hi hne => by
    match i, hi with
    | 0, _ => exact absurd rfl hne
    | 1, _ => rfl
    | 2, _ => rfl
    | 3, _ => rfl
    | 4, _ => rfl
    | 5, _ => rfl)
theorem ItAt.setD {g : Nat} {y : W.It} {w : World} (h : ItAt g y w) (v : Bool) : ItAt g { y with dn := v } (w.setCell ⟨g, 4, none⟩ (.bool v)) :=
  h.set 4 _ rfl ⟨_, rfl⟩ (itC_5 _ _ 4 fun i hi hne => by
    match i, hi with
    | 0, _ => rfl
    | 1, _ => rfl
    | 2, _ => rfl
    | 3, _ => rfl
    | 4, _ => exact absurd rfl hne
    | 5, _ => rfl)
theorem ItAt.setT {g : Nat} {y : W.It} {w : World} (h : ItAt g y w) (v : Bool) : ItAt g { y with tr := v } (w.setCell ⟨g, 5, none⟩ (.bool v)) :=
  h.set 5 _ rfl ⟨_, rfl⟩ (itC_5 _ _ 5 fun i hi hne => by
    match i, hi with
    | 0, _ => rfl
    | 1, _ => rfl
    | 2, _ => rfl
    | 3, _ => rfl
    | 4, _ => rfl
    | 5, _ => exact absurd rfl hne)
theorem ItAt.ld {g : Nat} {y : W.It} {w : World} (h : ItAt g y w) : (ldT ⟨g, 0, none⟩).run Try.prog w = .ok (.agg (itC y)) w := ldT_cells (CS := itC y) (b := g) (off := 0) (fun k v hv => by rw [Nat.zero_add]; exact h.c k v hv) rfl
end Go.Proofs.Ytopehmpjfndgjaa

/- DepPlaces. -/
namespace Go.Proofs.Ytopehmpjfndgjaa
open Go.ChangeShapes Go.WideShapes Go.ChangeAt Go.RowKit
set_option linter.unusedVariables false
set_option linter.unusedSimpArgs false

def Ap (u v : Value) : Prop := v.ownBlock = none ∨ v.ownBlock ≠ u.ownBlock
theorem Ap.symm {u v : Value} (h : Ap u v) : Ap v u := by
  unfold Ap at *
  rcases h with h | h
  · rw [h]
    cases hu : u.ownBlock
    · exact Or.inl rfl
    · exact Or.inr (by simp)
  · exact Or.inr (Ne.symm h)
/-- Behind an append of u. -/
theorem Ap.app {u v : Value} {g n c H : Nat} {w : World} {base : Nat} {e : TypeId} {size m : Nat} {xs : List Value} (h : Ap u v) (hv : w.ownsRow base e size v m xs) (hat : u.ownBlock = some g ∨ g = H) (hH : w.heap.size ≤ H) : Ap (.slice (some ⟨g, 0, none⟩) n c) v := by
  unfold Ap at *
  have eg : (Value.slice (some ⟨g, 0, none⟩) n c).ownBlock = some g := rfl
  rw [eg]
  rcases hat with h1 | h1
  · rw [← h1]; exact h
  · cases hb : v.ownBlock with
    | none => exact Or.inl rfl
    | some b =>
      right
      have := (hv.lt b hb).2
      intro e'
      cases e'
      omega
def intsG (f : Nat → Int) (n : Nat) : List Value := (List.range n).map fun j => .int .i64 (f j)
theorem intsG_succ (f : Nat → Int) (n : Nat) : intsG f (n + 1) = intsG f n ++ [.int .i64 (f n)] := by
  unfold intsG
  rw [List.range_succ, List.map_append]
  rfl
theorem news_int (x : Int) (w : World) : ∀ j u, [Value.int .i64 x][j]? = some u → (w.alloc (.cells #[.int .i64 x] 3)).cell? ((⟨w.heap.size, 0, none⟩ : Addr).add j) = some u := World.news_of_block (cs := #[.int .i64 x]) (heap_alloc_last w _)

theorem intsG_L (f : Nat → Int) (n : Nat) : intsG f n = intsL ((List.range n).map f) := by
  unfold intsG intsL
  rw [List.map_map]
  rfl
theorem Its.below {a : Option Addr} {n : Nat} {x : Nat → W.It} {w w' : World} (h : Its a n x w) (hb : Below w.heap.size w w') : Its a n x w' :=
  ⟨fun h0 => by
    obtain ⟨b, o, e, hl, hc⟩ := h.at_ h0
    exact ⟨b, o, e, Nat.lt_of_lt_of_le hl hb.size, fun j hj k v hv => (hb.cell (p := ⟨b, o + j * 6 + k, none⟩) hl).trans (hc j hj k v hv)⟩, h.rg⟩
theorem own_isl {w : World} {base n : Nat} {v : Value} {x : Nat → W.It} (h : w.ownsRow base 37 6 v n (itsX x n)) (hr : ∀ j, j < n → W.Rg (x j).wd) : ∃ a c, v = .slice a n c ∧ Its a n x w := by
  by_cases hn : 0 < n
  · obtain ⟨g, cap, e, hi⟩ := own_its h hn hr
    exact ⟨_, _, e, hi⟩
  · have e : n = 0 := by omega
    subst e
    rcases h.2 with ⟨e, _⟩ | ⟨g, cap, cur, e, _⟩
    · exact ⟨_, _, e, ⟨fun h => absurd h (by omega), hr⟩⟩
    · exact ⟨_, _, e, ⟨fun h => absurd h (by omega), hr⟩⟩
theorem bdT_0 (w : World) : (bdT #[]).run Try.prog w = .ok (.agg (itC (W.itw 0))) w := by kernel_rfl
theorem places_long (a : Option Addr) (n cap : Nat) (hn : 40 < n) (hm : n ≤ maxLen) (w : World) : Calls Try.prog 6 #[.slice a n cap] w fun e w' => e = .returned (.bool true) ∧ Below w.heap.size w w' := by
  simp only [maxLen] at hm
  have hF := first12_any w
  have HF : Hid (Calls _ _ _ _ _) := hF
  clear hF
  go_enter Try.func6, Try.ntmps6
  go_wp2_with (fail)
  refine HF.out.mono ?_
  rintro e w1 ⟨rfl, bw1⟩
  go_wp2
  go_ret
  exact ⟨rfl, bw1⟩
attribute [local go_sem ↓] bdT_eq bsT_eq ldT_eq stT_eq
set_option maxRecDepth 100000 in
set_option maxHeartbeats 3200000 in
theorem places_some (a : Option Addr) (n cap : Nat) (hn : n ≤ 40) (ks : Nat → Int) (hks : ∀ j, -9223372036854775808 ≤ ks j ∧ ks j ≤ 9223372036854775807) (kb ko : Nat) (w : World) (hk0 : 0 < n → a = some ⟨kb, ko, none⟩ ∧ kb < w.heap.size) (hkc : ∀ j, j < n → w.cell? ⟨kb, ko + j, none⟩ = some (.int .i64 (ks j))) :
    Calls Try.prog 6 #[.slice a n cap] w fun e w' => e = .returned (.bool true) ∧ Below w.heap.size w w' := by
  obtain ⟨ii, hi, hzz⟩ := Option.map_eq_some_iff.1 infoIt
  simp only [Prod.mk.injEq] at hzz
  obtain ⟨hz0, hz1, hz2⟩ := hzz
  obtain ⟨it, ht, hyy⟩ := Option.map_eq_some_iff.1 (show (Try.prog.info? 3).map (fun i => (i.zero, i.size, i.bytes)) = some (some (.int .i64 0), 1, 8) by kernel_rfl)
  simp only [Prod.mk.injEq] at hyy
  obtain ⟨hy0, hy1, hy2⟩ := hyy
  have hF := first12_any w
  have HF : Hid (Calls _ _ _ _ _ ∧ _ ∧ _) := ⟨hF, hk0, hkc⟩
  clear hF hk0 hkc
  have hn' : ¬ ((40 : Int) < (n : Int)) := by omega
  have hb0 := bdT_0
  go_enter Try.func6, Try.ntmps6
  go_wp2_with (fail)
  refine HF.out.1.mono ?_
  rintro e w1 ⟨rfl, bw1⟩
  go_wp2
  go_loopw [4, 5, 6, 7] (fun vl vv nx i wr => ∃ j : Nat, j ≤ n ∧ i = .int .i64 (j : Int) ∧ nx = .int .i64 (W.cntO (fun q => W.plI (ks q)) j : Int) ∧ wr.ownsRow w.heap.size 37 6 vl j (itsX (fun q => W.plI (ks q)) j) ∧ wr.ownsRow w.heap.size 3 1 vv j (intsG (W.plO (fun q => W.plI (ks q))) j) ∧ Ap vl vv ∧ Below w.heap.size w wr) (fun _ _ _ i _ => n - (intOf i).toNat)
  case atStart => exact ⟨0, by omega, rfl, rfl, ⟨rfl, .inl ⟨rfl, rfl⟩⟩, ⟨rfl, .inl ⟨rfl, rfl⟩⟩, Or.inl rfl, bw1⟩
  case round =>
    clear bw1
    obtain ⟨j, hj, rfl, rfl, hL, hV, hA, hbl⟩ := hrel
    by_cases hlt : j < n
    · have hjn : (j : Int) < (n : Int) := by omega
      have hsz := hbl.size
      obtain ⟨rfl, kl0⟩ := HF.out.2.1 (by omega)
      have cj := (hbl.cell (p := ⟨kb, ko + j, none⟩) kl0).trans (HF.out.2.2 j hlt)
      have kl : kb < wr.heap.size := by omega
      have hKr := hks j
      have hNm := fun w => number_any (ks j) 8 hKr.1 hKr.2 (by decide) (by decide) w
      have hnT := stT_new wr (itC (W.itw 0)) #[.int .u32 0, .int .u32 0, .int .u32 0, .int .u32 0, .bool false, .bool false] rfl rfl (by simp [itC, W.itw, Value.oneCell'])
      have I1 := it_new (W.itw 0) wr 37
      have B1 := hbl.alloc hbl.size (.cells (itC (W.itw 0)) 37)
      have L1 := hL.alloc (.cells (itC (W.itw 0)) 37)
      have V1 := hV.alloc (.cells (itC (W.itw 0)) 37)
      have cj1 := (((Below.refl wr.heap.size wr).alloc (Nat.le_refl _) (.cells (itC (W.itw 0)) 37)).cell (p := ⟨kb, ko + j, none⟩) kl).trans cj
      have hle := W.cntO_le (fun q => W.plI (ks q)) j
      have hcs : W.cntO (fun q => W.plI (ks q)) (j + 1) = bif W.plH (ks j) then W.cntO (fun q => W.plI (ks q)) j + 1 else W.cntO (fun q => W.plI (ks q)) j := by rw [← W.plI_has]; rfl
      have hpl : W.plO (fun q => W.plI (ks q)) j = bif W.plH (ks j) then (W.cntO (fun q => W.plI (ks q)) j : Int) else -1 := by rw [← W.plI_has]; rfl
      generalize hCN : W.cntO (fun q => W.plI (ks q)) j = CN at *
      generalize hKJ : ks j = KJ at *
      have hm8 : KJ % 8 = 0 ∨ KJ % 8 = 1 ∨ KJ % 8 = 2 ∨ KJ % 8 = 3 ∨ KJ % 8 = 4 ∨ KJ % 8 = 5 ∨ KJ % 8 = 6 ∨ KJ % 8 = 7 := by omega
      have nL : u4.ownBlock ≠ some wr.heap.size := fun e => by have := (hL.lt _ e).2; omega
      have nV : u5.ownBlock ≠ some wr.heap.size := fun e => by have := (hV.lt _ e).2; omega
      have HQ : Hid (_ ∧ _ ∧ _ ∧ _ ∧ _ ∧ _ ∧ _ ∧ _ ∧ _ ∧ _) := ⟨I1, B1, L1, V1, hA, hcs, hpl, hKJ, nL, nV⟩
      clear nL nV
      clear I1 B1 L1 V1 hA hcs hpl hKJ hL hV hbl
      rcases hm8 with h8 | h8 | h8 | h8 | h8 | h8 | h8 | h8
      all_goals rw [h8] at hNm
      all_goals have HK : Hid _ := hNm
      all_goals clear hNm
      · have hWd := fun w => cword_any 13 1 2 0 0 (by decide) (by decide) (W.encV (W.in5 13 1 2 0 0)) W.e0 rfl w
        have hPI : W.plI KJ = ⟨W.encV (W.in5 13 1 2 0 0), 0, 0, 0, false, false⟩ := by unfold W.plI; rw [if_pos (by omega)]; rfl
        generalize W.encV (W.in5 13 1 2 0 0) = xw at *
        have HW : Hid _ := hWd
        clear hWd
        have hPH : W.plH KJ = true := by unfold W.plH; rw [if_neg (by omega)]; simp; omega
        have HP : Hid (_ ∧ _) := ⟨hPI, hPH⟩
        clear hPI hPH
        go_wp2_with (fail)
        refine (HK.out _).mono ?_
        rintro e w2 ⟨rfl, rfl⟩
        go_wp2_with (fail)
        refine (HW.out _).mono ?_
        rintro e w3 ⟨rfl, b3⟩
        have J3 := HQ.out.1.below b3
        have B3 := HQ.out.2.1.trans (b3.mono HQ.out.2.1.size)
        have L3 := own_below HQ.out.2.2.1 b3
        have V3 := own_below HQ.out.2.2.2.1 b3
        have cj3 := (b3.cell (p := ⟨kb, ko + j, none⟩) (by show kb < _; simp; omega)).trans cj1
        have xl := J3.lt
        have xc := J3.c
        have kl3 : kb < w3.heap.size := by omega
        have x0 := xc 0 _ rfl
        have x4 := xc 4 _ rfl
        have x5 := xc 5 _ rfl
        have xf := J3.fz
        have xne : kb ≠ wr.heap.size := by omega
        clear xc
        have J4 := J3.setW xw
        have B4 := B3.setCell (p := ⟨wr.heap.size, 0, none⟩) hsz (.int .u32 xw)
        have L4 := L3.kept (gsetCell w3 wr.heap.size 0 (.int .u32 xw)) (Or.inr HQ.out.2.2.2.2.2.2.2.2.1)
        have V4 := V3.kept (gsetCell w3 wr.heap.size 0 (.int .u32 xw)) (Or.inr HQ.out.2.2.2.2.2.2.2.2.2)
        have J5 := J4
        have B5 := B4
        have L5 := L4
        have V5 := V4
        have ld5 : (ldT ⟨wr.heap.size, 0, none⟩).run Try.prog (w3.setCell ⟨wr.heap.size, 0, none⟩ (.int .u32 xw)) = .ok (.agg (itC ⟨xw, 0, 0, 0, false, false⟩)) (w3.setCell ⟨wr.heap.size, 0, none⟩ (.int .u32 xw)) := J5.ld
        have hbs := bsT_1 ⟨xw, 0, 0, 0, false, false⟩
        have hs5 : (w3.setCell ⟨wr.heap.size, 0, none⟩ (.int .u32 xw)).heap.size = w3.heap.size := by simp [World.setCell]
        have n5 := news_it ⟨xw, 0, 0, 0, false, false⟩ (w3.setCell ⟨wr.heap.size, 0, none⟩ (.int .u32 xw))
        rw [hs5] at n5
        have c6 : w.heap.size ≤ ((w3.setCell ⟨wr.heap.size, 0, none⟩ (.int .u32 xw)).alloc (.cells (itC ⟨xw, 0, 0, 0, false, false⟩) 37)).heap.size := by have := B5.size; simp [World.setCell] at this ⊢; omega
        have c7 : ((w3.setCell ⟨wr.heap.size, 0, none⟩ (.int .u32 xw)).alloc (.cells (itC ⟨xw, 0, 0, 0, false, false⟩) 37)).heap.size = w3.heap.size + 1 := by simp [World.setCell]
        have HN : Hid (_ ∧ _ ∧ _ ∧ _ ∧ _ ∧ _) := ⟨n5, c6, c7, B5, L5, V5⟩
        clear n5 c6 c7 B5 L5 V5 J5 J4 B4 L4 V4 J3 B3 L3 V3 hs5
        go_wp2_with (at_builtin; refine wpList_append_lies _ rfl _ _ 22 rfl w.heap.size 37 ii (.agg #[.int .u32 0, .int .u32 0, .int .u32 0, .int .u32 0, .bool false, .bool false]) 6 20 Try.underlying22 hi hz0 hz1 hz2 rfl (by decide) u4 j (itsX (fun q => W.plI (ks q)) j) rfl (HN.out.2.2.2.2.1.alloc _) ⟨w3.heap.size, 0, none⟩ 1 1 (itC ⟨xw, 0, 0, 0, false, false⟩).toList rfl rfl HN.out.1 (itC_one _) (by decide) (by unfold maxLen; omega) (by omega) HN.out.2.1 (w3.heap.size + 1) HN.out.2.2.1 ?_)
        intro g4 cap4 w4 own4 hg4 hat4 hlt4
        have B6 : Below w.heap.size w w4 := Below.grown (HN.out.2.2.2.1.alloc HN.out.2.2.2.1.size _) hg4 HN.out.2.1 (fun b hb => (HN.out.2.2.2.2.1.lt b hb).1)
        have V6 := (HN.out.2.2.2.2.2.alloc (.cells (itC ⟨xw, 0, 0, 0, false, false⟩) 37)).kept hg4 HQ.out.2.2.2.2.1
        have A6 := (HQ.out.2.2.2.2.1.app (n := j + 1) (c := cap4) HN.out.2.2.2.2.2 hat4 (by simp [World.setCell])).symm
        have X4 : Hid (_ ∧ _ ∧ _ ∧ _) := ⟨own4, V6, A6, B6⟩
        clear own4 V6 A6 B6 hg4 HN ld5 x0 x4 x5 cj3 hbs
        have n7 := news_int (CN : Int) w4
        have d6 : w.heap.size ≤ (w4.alloc (.cells #[.int .i64 (CN : Int)] 3)).heap.size := by have := X4.out.2.2.2.size; simp; omega
        have d7 : (w4.alloc (.cells #[.int .i64 (CN : Int)] 3)).heap.size = w4.heap.size + 1 := by simp
        have d3 : ∀ u ∈ [Value.int .i64 (CN : Int)], u.oneCell' = true := by intro u hu; simp at hu; rw [hu]; rfl
        have HN5 : Hid (_ ∧ _ ∧ _ ∧ _) := ⟨n7, d6, d7, d3⟩
        clear n7 d6 d7 d3
        go_wp2_with (at_builtin; refine wpList_append_lies _ rfl _ _ 30 rfl w.heap.size 3 it (.int .i64 0) 1 8 Try.underlying30 ht hy0 hy1 hy2 rfl (by decide) u5 j (intsG (W.plO (fun q => W.plI (ks q))) j) rfl (X4.out.2.1.alloc _) ⟨w4.heap.size, 0, none⟩ 1 1 [.int .i64 (CN : Int)] rfl rfl HN5.out.1 HN5.out.2.2.2 (by decide) (by unfold maxLen; omega) (by omega) HN5.out.2.1 (w4.heap.size + 1) HN5.out.2.2.1 ?_)
        intro g5 cap5 w5 own5 hg5 hat5 hlt5
        have B5 : Below w.heap.size w w5 := Below.grown (X4.out.2.2.2.alloc X4.out.2.2.2.size _) hg5 (by have := X4.out.2.2.2.size; simp; omega) (fun b hb => (X4.out.2.1.lt b hb).1)
        have L5 := (X4.out.1.alloc (.cells #[.int .i64 (CN : Int)] 3)).kept hg5 X4.out.2.2.1
        have A5 := (X4.out.2.2.1.app (n := j + 1) (c := cap5) X4.out.1 hat5 (by omega)).symm
        have hpi : W.plI (ks j) = ⟨xw, 0, 0, 0, false, false⟩ := by rw [HQ.out.2.2.2.2.2.2.2.1, HP.out.1]
        have hpo : W.plO (fun q => W.plI (ks q)) j = (CN : Int) := by rw [HQ.out.2.2.2.2.2.2.1, HP.out.2]; rfl
        have hco : W.cntO (fun q => W.plI (ks q)) (j + 1) = CN + 1 := by rw [HQ.out.2.2.2.2.2.1, HP.out.2]; rfl
        have X5 : Hid (w5.ownsRow w.heap.size 37 6 (.slice (some ⟨g4, 0, none⟩) (j + 1) cap4) (j + 1) (itsX (fun q => W.plI (ks q)) (j + 1)) ∧ w5.ownsRow w.heap.size 3 1 (.slice (some ⟨g5, 0, none⟩) (j + 1) cap5) (j + 1) (intsG (W.plO (fun q => W.plI (ks q))) (j + 1)) ∧ Ap (.slice (some ⟨g4, 0, none⟩) (j + 1) cap4) (.slice (some ⟨g5, 0, none⟩) (j + 1) cap5) ∧ Below w.heap.size w w5 ∧ W.cntO (fun q => W.plI (ks q)) (j + 1) = CN + 1) := ⟨by rw [itsX_succ, hpi]; exact L5, by rw [intsG_succ, hpo]; exact own5, A5, B5, hco⟩
        clear own5 hg5 B5 L5 A5 X4 HN5 hpi hpo hco HQ HP
        go_wp2
        go_roundw
        case rel => exact ⟨j + 1, by omega, by go_num, by rw [X5.out.2.2.2.2]; go_num, X5.out.1, X5.out.2.1, X5.out.2.2.1, X5.out.2.2.2.1⟩
        case measure => simp [intOf]; omega
      · have hWd := fun w => cword_any 16 0 2 1 0 (by decide) (by decide) (W.encV (W.in5 16 0 2 1 0)) W.e1 rfl w
        have hPI : W.plI KJ = ⟨W.encV (W.in5 16 0 2 1 0), 0, 0, 0, false, false⟩ := by unfold W.plI; rw [if_neg (by omega), if_pos (by omega)]; rfl
        generalize W.encV (W.in5 16 0 2 1 0) = xw at *
        have HW : Hid _ := hWd
        clear hWd
        have hPH : W.plH KJ = true := by unfold W.plH; rw [if_neg (by omega)]; simp; omega
        have HP : Hid (_ ∧ _) := ⟨hPI, hPH⟩
        clear hPI hPH
        go_wp2_with (fail)
        refine (HK.out _).mono ?_
        rintro e w2 ⟨rfl, rfl⟩
        go_wp2_with (fail)
        refine (HW.out _).mono ?_
        rintro e w3 ⟨rfl, b3⟩
        have J3 := HQ.out.1.below b3
        have B3 := HQ.out.2.1.trans (b3.mono HQ.out.2.1.size)
        have L3 := own_below HQ.out.2.2.1 b3
        have V3 := own_below HQ.out.2.2.2.1 b3
        have cj3 := (b3.cell (p := ⟨kb, ko + j, none⟩) (by show kb < _; simp; omega)).trans cj1
        have xl := J3.lt
        have xc := J3.c
        have kl3 : kb < w3.heap.size := by omega
        have x0 := xc 0 _ rfl
        have x4 := xc 4 _ rfl
        have x5 := xc 5 _ rfl
        have xf := J3.fz
        have xne : kb ≠ wr.heap.size := by omega
        clear xc
        have J4 := J3.setW xw
        have B4 := B3.setCell (p := ⟨wr.heap.size, 0, none⟩) hsz (.int .u32 xw)
        have L4 := L3.kept (gsetCell w3 wr.heap.size 0 (.int .u32 xw)) (Or.inr HQ.out.2.2.2.2.2.2.2.2.1)
        have V4 := V3.kept (gsetCell w3 wr.heap.size 0 (.int .u32 xw)) (Or.inr HQ.out.2.2.2.2.2.2.2.2.2)
        have J5 := J4
        have B5 := B4
        have L5 := L4
        have V5 := V4
        have ld5 : (ldT ⟨wr.heap.size, 0, none⟩).run Try.prog (w3.setCell ⟨wr.heap.size, 0, none⟩ (.int .u32 xw)) = .ok (.agg (itC ⟨xw, 0, 0, 0, false, false⟩)) (w3.setCell ⟨wr.heap.size, 0, none⟩ (.int .u32 xw)) := J5.ld
        have hbs := bsT_1 ⟨xw, 0, 0, 0, false, false⟩
        have hs5 : (w3.setCell ⟨wr.heap.size, 0, none⟩ (.int .u32 xw)).heap.size = w3.heap.size := by simp [World.setCell]
        have n5 := news_it ⟨xw, 0, 0, 0, false, false⟩ (w3.setCell ⟨wr.heap.size, 0, none⟩ (.int .u32 xw))
        rw [hs5] at n5
        have c6 : w.heap.size ≤ ((w3.setCell ⟨wr.heap.size, 0, none⟩ (.int .u32 xw)).alloc (.cells (itC ⟨xw, 0, 0, 0, false, false⟩) 37)).heap.size := by have := B5.size; simp [World.setCell] at this ⊢; omega
        have c7 : ((w3.setCell ⟨wr.heap.size, 0, none⟩ (.int .u32 xw)).alloc (.cells (itC ⟨xw, 0, 0, 0, false, false⟩) 37)).heap.size = w3.heap.size + 1 := by simp [World.setCell]
        have HN : Hid (_ ∧ _ ∧ _ ∧ _ ∧ _ ∧ _) := ⟨n5, c6, c7, B5, L5, V5⟩
        clear n5 c6 c7 B5 L5 V5 J5 J4 B4 L4 V4 J3 B3 L3 V3 hs5
        go_wp2_with (at_builtin; refine wpList_append_lies _ rfl _ _ 22 rfl w.heap.size 37 ii (.agg #[.int .u32 0, .int .u32 0, .int .u32 0, .int .u32 0, .bool false, .bool false]) 6 20 Try.underlying22 hi hz0 hz1 hz2 rfl (by decide) u4 j (itsX (fun q => W.plI (ks q)) j) rfl (HN.out.2.2.2.2.1.alloc _) ⟨w3.heap.size, 0, none⟩ 1 1 (itC ⟨xw, 0, 0, 0, false, false⟩).toList rfl rfl HN.out.1 (itC_one _) (by decide) (by unfold maxLen; omega) (by omega) HN.out.2.1 (w3.heap.size + 1) HN.out.2.2.1 ?_)
        intro g4 cap4 w4 own4 hg4 hat4 hlt4
        have B6 : Below w.heap.size w w4 := Below.grown (HN.out.2.2.2.1.alloc HN.out.2.2.2.1.size _) hg4 HN.out.2.1 (fun b hb => (HN.out.2.2.2.2.1.lt b hb).1)
        have V6 := (HN.out.2.2.2.2.2.alloc (.cells (itC ⟨xw, 0, 0, 0, false, false⟩) 37)).kept hg4 HQ.out.2.2.2.2.1
        have A6 := (HQ.out.2.2.2.2.1.app (n := j + 1) (c := cap4) HN.out.2.2.2.2.2 hat4 (by simp [World.setCell])).symm
        have X4 : Hid (_ ∧ _ ∧ _ ∧ _) := ⟨own4, V6, A6, B6⟩
        clear own4 V6 A6 B6 hg4 HN ld5 x0 x4 x5 cj3 hbs
        have n7 := news_int (CN : Int) w4
        have d6 : w.heap.size ≤ (w4.alloc (.cells #[.int .i64 (CN : Int)] 3)).heap.size := by have := X4.out.2.2.2.size; simp; omega
        have d7 : (w4.alloc (.cells #[.int .i64 (CN : Int)] 3)).heap.size = w4.heap.size + 1 := by simp
        have d3 : ∀ u ∈ [Value.int .i64 (CN : Int)], u.oneCell' = true := by intro u hu; simp at hu; rw [hu]; rfl
        have HN5 : Hid (_ ∧ _ ∧ _ ∧ _) := ⟨n7, d6, d7, d3⟩
        clear n7 d6 d7 d3
        go_wp2_with (at_builtin; refine wpList_append_lies _ rfl _ _ 30 rfl w.heap.size 3 it (.int .i64 0) 1 8 Try.underlying30 ht hy0 hy1 hy2 rfl (by decide) u5 j (intsG (W.plO (fun q => W.plI (ks q))) j) rfl (X4.out.2.1.alloc _) ⟨w4.heap.size, 0, none⟩ 1 1 [.int .i64 (CN : Int)] rfl rfl HN5.out.1 HN5.out.2.2.2 (by decide) (by unfold maxLen; omega) (by omega) HN5.out.2.1 (w4.heap.size + 1) HN5.out.2.2.1 ?_)
        intro g5 cap5 w5 own5 hg5 hat5 hlt5
        have B5 : Below w.heap.size w w5 := Below.grown (X4.out.2.2.2.alloc X4.out.2.2.2.size _) hg5 (by have := X4.out.2.2.2.size; simp; omega) (fun b hb => (X4.out.2.1.lt b hb).1)
        have L5 := (X4.out.1.alloc (.cells #[.int .i64 (CN : Int)] 3)).kept hg5 X4.out.2.2.1
        have A5 := (X4.out.2.2.1.app (n := j + 1) (c := cap5) X4.out.1 hat5 (by omega)).symm
        have hpi : W.plI (ks j) = ⟨xw, 0, 0, 0, false, false⟩ := by rw [HQ.out.2.2.2.2.2.2.2.1, HP.out.1]
        have hpo : W.plO (fun q => W.plI (ks q)) j = (CN : Int) := by rw [HQ.out.2.2.2.2.2.2.1, HP.out.2]; rfl
        have hco : W.cntO (fun q => W.plI (ks q)) (j + 1) = CN + 1 := by rw [HQ.out.2.2.2.2.2.1, HP.out.2]; rfl
        have X5 : Hid (w5.ownsRow w.heap.size 37 6 (.slice (some ⟨g4, 0, none⟩) (j + 1) cap4) (j + 1) (itsX (fun q => W.plI (ks q)) (j + 1)) ∧ w5.ownsRow w.heap.size 3 1 (.slice (some ⟨g5, 0, none⟩) (j + 1) cap5) (j + 1) (intsG (W.plO (fun q => W.plI (ks q))) (j + 1)) ∧ Ap (.slice (some ⟨g4, 0, none⟩) (j + 1) cap4) (.slice (some ⟨g5, 0, none⟩) (j + 1) cap5) ∧ Below w.heap.size w w5 ∧ W.cntO (fun q => W.plI (ks q)) (j + 1) = CN + 1) := ⟨by rw [itsX_succ, hpi]; exact L5, by rw [intsG_succ, hpo]; exact own5, A5, B5, hco⟩
        clear own5 hg5 B5 L5 A5 X4 HN5 hpi hpo hco HQ HP
        go_wp2
        go_roundw
        case rel => exact ⟨j + 1, by omega, by go_num, by rw [X5.out.2.2.2.2]; go_num, X5.out.1, X5.out.2.1, X5.out.2.2.1, X5.out.2.2.2.1⟩
        case measure => simp [intOf]; omega
      · have hWd := fun w => cword_any 38 0 0 0 51 (by decide) (by decide) (W.encV (W.in5 38 0 0 0 51)) W.e2 rfl w
        have hPI : W.plI KJ = ⟨W.encV (W.in5 38 0 0 0 51), 0, 0, 0, false, false⟩ := by unfold W.plI; rw [if_neg (by omega), if_neg (by omega), if_pos (by omega)]; rfl
        generalize W.encV (W.in5 38 0 0 0 51) = xw at *
        have HW : Hid _ := hWd
        clear hWd
        have hPH : W.plH KJ = true := by unfold W.plH; rw [if_neg (by omega)]; simp; omega
        have HP : Hid (_ ∧ _) := ⟨hPI, hPH⟩
        clear hPI hPH
        go_wp2_with (fail)
        refine (HK.out _).mono ?_
        rintro e w2 ⟨rfl, rfl⟩
        go_wp2_with (fail)
        refine (HW.out _).mono ?_
        rintro e w3 ⟨rfl, b3⟩
        have J3 := HQ.out.1.below b3
        have B3 := HQ.out.2.1.trans (b3.mono HQ.out.2.1.size)
        have L3 := own_below HQ.out.2.2.1 b3
        have V3 := own_below HQ.out.2.2.2.1 b3
        have cj3 := (b3.cell (p := ⟨kb, ko + j, none⟩) (by show kb < _; simp; omega)).trans cj1
        have xl := J3.lt
        have xc := J3.c
        have kl3 : kb < w3.heap.size := by omega
        have x0 := xc 0 _ rfl
        have x4 := xc 4 _ rfl
        have x5 := xc 5 _ rfl
        have xf := J3.fz
        have xne : kb ≠ wr.heap.size := by omega
        clear xc
        have J4 := J3.setW xw
        have B4 := B3.setCell (p := ⟨wr.heap.size, 0, none⟩) hsz (.int .u32 xw)
        have L4 := L3.kept (gsetCell w3 wr.heap.size 0 (.int .u32 xw)) (Or.inr HQ.out.2.2.2.2.2.2.2.2.1)
        have V4 := V3.kept (gsetCell w3 wr.heap.size 0 (.int .u32 xw)) (Or.inr HQ.out.2.2.2.2.2.2.2.2.2)
        have J5 := J4
        have B5 := B4
        have L5 := L4
        have V5 := V4
        have ld5 : (ldT ⟨wr.heap.size, 0, none⟩).run Try.prog (w3.setCell ⟨wr.heap.size, 0, none⟩ (.int .u32 xw)) = .ok (.agg (itC ⟨xw, 0, 0, 0, false, false⟩)) (w3.setCell ⟨wr.heap.size, 0, none⟩ (.int .u32 xw)) := J5.ld
        have hbs := bsT_1 ⟨xw, 0, 0, 0, false, false⟩
        have hs5 : (w3.setCell ⟨wr.heap.size, 0, none⟩ (.int .u32 xw)).heap.size = w3.heap.size := by simp [World.setCell]
        have n5 := news_it ⟨xw, 0, 0, 0, false, false⟩ (w3.setCell ⟨wr.heap.size, 0, none⟩ (.int .u32 xw))
        rw [hs5] at n5
        have c6 : w.heap.size ≤ ((w3.setCell ⟨wr.heap.size, 0, none⟩ (.int .u32 xw)).alloc (.cells (itC ⟨xw, 0, 0, 0, false, false⟩) 37)).heap.size := by have := B5.size; simp [World.setCell] at this ⊢; omega
        have c7 : ((w3.setCell ⟨wr.heap.size, 0, none⟩ (.int .u32 xw)).alloc (.cells (itC ⟨xw, 0, 0, 0, false, false⟩) 37)).heap.size = w3.heap.size + 1 := by simp [World.setCell]
        have HN : Hid (_ ∧ _ ∧ _ ∧ _ ∧ _ ∧ _) := ⟨n5, c6, c7, B5, L5, V5⟩
        clear n5 c6 c7 B5 L5 V5 J5 J4 B4 L4 V4 J3 B3 L3 V3 hs5
        go_wp2_with (at_builtin; refine wpList_append_lies _ rfl _ _ 22 rfl w.heap.size 37 ii (.agg #[.int .u32 0, .int .u32 0, .int .u32 0, .int .u32 0, .bool false, .bool false]) 6 20 Try.underlying22 hi hz0 hz1 hz2 rfl (by decide) u4 j (itsX (fun q => W.plI (ks q)) j) rfl (HN.out.2.2.2.2.1.alloc _) ⟨w3.heap.size, 0, none⟩ 1 1 (itC ⟨xw, 0, 0, 0, false, false⟩).toList rfl rfl HN.out.1 (itC_one _) (by decide) (by unfold maxLen; omega) (by omega) HN.out.2.1 (w3.heap.size + 1) HN.out.2.2.1 ?_)
        intro g4 cap4 w4 own4 hg4 hat4 hlt4
        have B6 : Below w.heap.size w w4 := Below.grown (HN.out.2.2.2.1.alloc HN.out.2.2.2.1.size _) hg4 HN.out.2.1 (fun b hb => (HN.out.2.2.2.2.1.lt b hb).1)
        have V6 := (HN.out.2.2.2.2.2.alloc (.cells (itC ⟨xw, 0, 0, 0, false, false⟩) 37)).kept hg4 HQ.out.2.2.2.2.1
        have A6 := (HQ.out.2.2.2.2.1.app (n := j + 1) (c := cap4) HN.out.2.2.2.2.2 hat4 (by simp [World.setCell])).symm
        have X4 : Hid (_ ∧ _ ∧ _ ∧ _) := ⟨own4, V6, A6, B6⟩
        clear own4 V6 A6 B6 hg4 HN ld5 x0 x4 x5 cj3 hbs
        have n7 := news_int (CN : Int) w4
        have d6 : w.heap.size ≤ (w4.alloc (.cells #[.int .i64 (CN : Int)] 3)).heap.size := by have := X4.out.2.2.2.size; simp; omega
        have d7 : (w4.alloc (.cells #[.int .i64 (CN : Int)] 3)).heap.size = w4.heap.size + 1 := by simp
        have d3 : ∀ u ∈ [Value.int .i64 (CN : Int)], u.oneCell' = true := by intro u hu; simp at hu; rw [hu]; rfl
        have HN5 : Hid (_ ∧ _ ∧ _ ∧ _) := ⟨n7, d6, d7, d3⟩
        clear n7 d6 d7 d3
        go_wp2_with (at_builtin; refine wpList_append_lies _ rfl _ _ 30 rfl w.heap.size 3 it (.int .i64 0) 1 8 Try.underlying30 ht hy0 hy1 hy2 rfl (by decide) u5 j (intsG (W.plO (fun q => W.plI (ks q))) j) rfl (X4.out.2.1.alloc _) ⟨w4.heap.size, 0, none⟩ 1 1 [.int .i64 (CN : Int)] rfl rfl HN5.out.1 HN5.out.2.2.2 (by decide) (by unfold maxLen; omega) (by omega) HN5.out.2.1 (w4.heap.size + 1) HN5.out.2.2.1 ?_)
        intro g5 cap5 w5 own5 hg5 hat5 hlt5
        have B5 : Below w.heap.size w w5 := Below.grown (X4.out.2.2.2.alloc X4.out.2.2.2.size _) hg5 (by have := X4.out.2.2.2.size; simp; omega) (fun b hb => (X4.out.2.1.lt b hb).1)
        have L5 := (X4.out.1.alloc (.cells #[.int .i64 (CN : Int)] 3)).kept hg5 X4.out.2.2.1
        have A5 := (X4.out.2.2.1.app (n := j + 1) (c := cap5) X4.out.1 hat5 (by omega)).symm
        have hpi : W.plI (ks j) = ⟨xw, 0, 0, 0, false, false⟩ := by rw [HQ.out.2.2.2.2.2.2.2.1, HP.out.1]
        have hpo : W.plO (fun q => W.plI (ks q)) j = (CN : Int) := by rw [HQ.out.2.2.2.2.2.2.1, HP.out.2]; rfl
        have hco : W.cntO (fun q => W.plI (ks q)) (j + 1) = CN + 1 := by rw [HQ.out.2.2.2.2.2.1, HP.out.2]; rfl
        have X5 : Hid (w5.ownsRow w.heap.size 37 6 (.slice (some ⟨g4, 0, none⟩) (j + 1) cap4) (j + 1) (itsX (fun q => W.plI (ks q)) (j + 1)) ∧ w5.ownsRow w.heap.size 3 1 (.slice (some ⟨g5, 0, none⟩) (j + 1) cap5) (j + 1) (intsG (W.plO (fun q => W.plI (ks q))) (j + 1)) ∧ Ap (.slice (some ⟨g4, 0, none⟩) (j + 1) cap4) (.slice (some ⟨g5, 0, none⟩) (j + 1) cap5) ∧ Below w.heap.size w w5 ∧ W.cntO (fun q => W.plI (ks q)) (j + 1) = CN + 1) := ⟨by rw [itsX_succ, hpi]; exact L5, by rw [intsG_succ, hpo]; exact own5, A5, B5, hco⟩
        clear own5 hg5 B5 L5 A5 X4 HN5 hpi hpo hco HQ HP
        go_wp2
        go_roundw
        case rel => exact ⟨j + 1, by omega, by go_num, by rw [X5.out.2.2.2.2]; go_num, X5.out.1, X5.out.2.1, X5.out.2.2.1, X5.out.2.2.2.1⟩
        case measure => simp [intOf]; omega
      · have hWd := fun w => cword_any 60 1 2 3 0 (by decide) (by decide) (W.encV (W.in5 60 1 2 3 0)) W.e3 rfl w
        have hPI : W.plI KJ = ⟨W.encV (W.in5 60 1 2 3 0), 0, 0, 0, W.d8 KJ, false⟩ := by unfold W.plI; rw [if_neg (by omega), if_neg (by omega), if_neg (by omega), if_pos (by omega)]
        generalize W.encV (W.in5 60 1 2 3 0) = xw at *
        have HW : Hid _ := hWd
        clear hWd
        have hPH : W.plH KJ = W.d8 KJ := by unfold W.plH; rw [if_pos (by omega)]
        have HP : Hid (_ ∧ _) := ⟨hPI, hPH⟩
        clear hPI hPH
        go_wp2_with (fail)
        refine (HK.out _).mono ?_
        rintro e w2 ⟨rfl, rfl⟩
        go_wp2_with (fail)
        refine (HW.out _).mono ?_
        rintro e w3 ⟨rfl, b3⟩
        have J3 := HQ.out.1.below b3
        have B3 := HQ.out.2.1.trans (b3.mono HQ.out.2.1.size)
        have L3 := own_below HQ.out.2.2.1 b3
        have V3 := own_below HQ.out.2.2.2.1 b3
        have cj3 := (b3.cell (p := ⟨kb, ko + j, none⟩) (by show kb < _; simp; omega)).trans cj1
        have xl := J3.lt
        have xc := J3.c
        have kl3 : kb < w3.heap.size := by omega
        have x0 := xc 0 _ rfl
        have x4 := xc 4 _ rfl
        have x5 := xc 5 _ rfl
        have xf := J3.fz
        have xne : kb ≠ wr.heap.size := by omega
        clear xc
        have J4 := J3.setW xw
        have B4 := B3.setCell (p := ⟨wr.heap.size, 0, none⟩) hsz (.int .u32 xw)
        have L4 := L3.kept (gsetCell w3 wr.heap.size 0 (.int .u32 xw)) (Or.inr HQ.out.2.2.2.2.2.2.2.2.1)
        have V4 := V3.kept (gsetCell w3 wr.heap.size 0 (.int .u32 xw)) (Or.inr HQ.out.2.2.2.2.2.2.2.2.2)
        unfold W.d8 at HP
        cases hd8 : (bits BinOp.and IntKind.i64 KJ 8 == 0)
        · rw [hd8] at HP
          have J5 := J4.setD false
          have B5 := B4.setCell (p := ⟨wr.heap.size, 4, none⟩) hsz (.bool false)
          have L5 := L4.kept (gsetCell _ wr.heap.size 4 (.bool false)) (Or.inr HQ.out.2.2.2.2.2.2.2.2.1)
          have V5 := V4.kept (gsetCell _ wr.heap.size 4 (.bool false)) (Or.inr HQ.out.2.2.2.2.2.2.2.2.2)
          have ld5 : (ldT ⟨wr.heap.size, 0, none⟩).run Try.prog ((w3.setCell ⟨wr.heap.size, 0, none⟩ (.int .u32 xw)).setCell ⟨wr.heap.size, 4, none⟩ (.bool false)) = .ok (.agg (itC ⟨xw, 0, 0, 0, false, false⟩)) ((w3.setCell ⟨wr.heap.size, 0, none⟩ (.int .u32 xw)).setCell ⟨wr.heap.size, 4, none⟩ (.bool false)) := J5.ld
          have hbs := bsT_1 ⟨xw, 0, 0, 0, false, false⟩
          have hs5 : ((w3.setCell ⟨wr.heap.size, 0, none⟩ (.int .u32 xw)).setCell ⟨wr.heap.size, 4, none⟩ (.bool false)).heap.size = w3.heap.size := by simp [World.setCell]
          have n5 := news_it ⟨xw, 0, 0, 0, false, false⟩ ((w3.setCell ⟨wr.heap.size, 0, none⟩ (.int .u32 xw)).setCell ⟨wr.heap.size, 4, none⟩ (.bool false))
          rw [hs5] at n5
          have c6 : w.heap.size ≤ (((w3.setCell ⟨wr.heap.size, 0, none⟩ (.int .u32 xw)).setCell ⟨wr.heap.size, 4, none⟩ (.bool false)).alloc (.cells (itC ⟨xw, 0, 0, 0, false, false⟩) 37)).heap.size := by have := B5.size; simp [World.setCell] at this ⊢; omega
          have c7 : (((w3.setCell ⟨wr.heap.size, 0, none⟩ (.int .u32 xw)).setCell ⟨wr.heap.size, 4, none⟩ (.bool false)).alloc (.cells (itC ⟨xw, 0, 0, 0, false, false⟩) 37)).heap.size = w3.heap.size + 1 := by simp [World.setCell]
          have HN : Hid (_ ∧ _ ∧ _ ∧ _ ∧ _ ∧ _) := ⟨n5, c6, c7, B5, L5, V5⟩
          clear n5 c6 c7 B5 L5 V5 J5 J4 B4 L4 V4 J3 B3 L3 V3 hs5
          go_wp2_with (at_builtin; refine wpList_append_lies _ rfl _ _ 22 rfl w.heap.size 37 ii (.agg #[.int .u32 0, .int .u32 0, .int .u32 0, .int .u32 0, .bool false, .bool false]) 6 20 Try.underlying22 hi hz0 hz1 hz2 rfl (by decide) u4 j (itsX (fun q => W.plI (ks q)) j) rfl (HN.out.2.2.2.2.1.alloc _) ⟨w3.heap.size, 0, none⟩ 1 1 (itC ⟨xw, 0, 0, 0, false, false⟩).toList rfl rfl HN.out.1 (itC_one _) (by decide) (by unfold maxLen; omega) (by omega) HN.out.2.1 (w3.heap.size + 1) HN.out.2.2.1 ?_)
          intro g4 cap4 w4 own4 hg4 hat4 hlt4
          have B6 : Below w.heap.size w w4 := Below.grown (HN.out.2.2.2.1.alloc HN.out.2.2.2.1.size _) hg4 HN.out.2.1 (fun b hb => (HN.out.2.2.2.2.1.lt b hb).1)
          have V6 := (HN.out.2.2.2.2.2.alloc (.cells (itC ⟨xw, 0, 0, 0, false, false⟩) 37)).kept hg4 HQ.out.2.2.2.2.1
          have A6 := (HQ.out.2.2.2.2.1.app (n := j + 1) (c := cap4) HN.out.2.2.2.2.2 hat4 (by simp [World.setCell])).symm
          have X4 : Hid (_ ∧ _ ∧ _ ∧ _) := ⟨own4, V6, A6, B6⟩
          clear own4 V6 A6 B6 hg4 HN ld5 x0 x4 x5 cj3 hbs
          have n7 := news_int (-1) w4
          have d6 : w.heap.size ≤ (w4.alloc (.cells #[.int .i64 (-1)] 3)).heap.size := by have := X4.out.2.2.2.size; simp; omega
          have d7 : (w4.alloc (.cells #[.int .i64 (-1)] 3)).heap.size = w4.heap.size + 1 := by simp
          have d3 : ∀ u ∈ [Value.int .i64 (-1)], u.oneCell' = true := by intro u hu; simp at hu; rw [hu]; rfl
          have HN5 : Hid (_ ∧ _ ∧ _ ∧ _) := ⟨n7, d6, d7, d3⟩
          clear n7 d6 d7 d3
          go_wp2_with (at_builtin; refine wpList_append_lies _ rfl _ _ 30 rfl w.heap.size 3 it (.int .i64 0) 1 8 Try.underlying30 ht hy0 hy1 hy2 rfl (by decide) u5 j (intsG (W.plO (fun q => W.plI (ks q))) j) rfl (X4.out.2.1.alloc _) ⟨w4.heap.size, 0, none⟩ 1 1 [.int .i64 (-1)] rfl rfl HN5.out.1 HN5.out.2.2.2 (by decide) (by unfold maxLen; omega) (by omega) HN5.out.2.1 (w4.heap.size + 1) HN5.out.2.2.1 ?_)
          intro g5 cap5 w5 own5 hg5 hat5 hlt5
          have B5 : Below w.heap.size w w5 := Below.grown (X4.out.2.2.2.alloc X4.out.2.2.2.size _) hg5 (by have := X4.out.2.2.2.size; simp; omega) (fun b hb => (X4.out.2.1.lt b hb).1)
          have L5 := (X4.out.1.alloc (.cells #[.int .i64 (-1)] 3)).kept hg5 X4.out.2.2.1
          have A5 := (X4.out.2.2.1.app (n := j + 1) (c := cap5) X4.out.1 hat5 (by omega)).symm
          have hpi : W.plI (ks j) = ⟨xw, 0, 0, 0, false, false⟩ := by rw [HQ.out.2.2.2.2.2.2.2.1, HP.out.1]
          have hpo : W.plO (fun q => W.plI (ks q)) j = (-1) := by rw [HQ.out.2.2.2.2.2.2.1, HP.out.2]; rfl
          have hco : W.cntO (fun q => W.plI (ks q)) (j + 1) = CN := by rw [HQ.out.2.2.2.2.2.1, HP.out.2]; rfl
          have X5 : Hid (w5.ownsRow w.heap.size 37 6 (.slice (some ⟨g4, 0, none⟩) (j + 1) cap4) (j + 1) (itsX (fun q => W.plI (ks q)) (j + 1)) ∧ w5.ownsRow w.heap.size 3 1 (.slice (some ⟨g5, 0, none⟩) (j + 1) cap5) (j + 1) (intsG (W.plO (fun q => W.plI (ks q))) (j + 1)) ∧ Ap (.slice (some ⟨g4, 0, none⟩) (j + 1) cap4) (.slice (some ⟨g5, 0, none⟩) (j + 1) cap5) ∧ Below w.heap.size w w5 ∧ W.cntO (fun q => W.plI (ks q)) (j + 1) = CN) := ⟨by rw [itsX_succ, hpi]; exact L5, by rw [intsG_succ, hpo]; exact own5, A5, B5, hco⟩
          clear own5 hg5 B5 L5 A5 X4 HN5 hpi hpo hco HQ HP
          go_wp2
          go_roundw
          case rel => exact ⟨j + 1, by omega, by go_num, by rw [X5.out.2.2.2.2], X5.out.1, X5.out.2.1, X5.out.2.2.1, X5.out.2.2.2.1⟩
          case measure => simp [intOf]; omega
        · rw [hd8] at HP
          have J5 := J4.setD true
          have B5 := B4.setCell (p := ⟨wr.heap.size, 4, none⟩) hsz (.bool true)
          have L5 := L4.kept (gsetCell _ wr.heap.size 4 (.bool true)) (Or.inr HQ.out.2.2.2.2.2.2.2.2.1)
          have V5 := V4.kept (gsetCell _ wr.heap.size 4 (.bool true)) (Or.inr HQ.out.2.2.2.2.2.2.2.2.2)
          have ld5 : (ldT ⟨wr.heap.size, 0, none⟩).run Try.prog ((w3.setCell ⟨wr.heap.size, 0, none⟩ (.int .u32 xw)).setCell ⟨wr.heap.size, 4, none⟩ (.bool true)) = .ok (.agg (itC ⟨xw, 0, 0, 0, true, false⟩)) ((w3.setCell ⟨wr.heap.size, 0, none⟩ (.int .u32 xw)).setCell ⟨wr.heap.size, 4, none⟩ (.bool true)) := J5.ld
          have hbs := bsT_1 ⟨xw, 0, 0, 0, true, false⟩
          have hs5 : ((w3.setCell ⟨wr.heap.size, 0, none⟩ (.int .u32 xw)).setCell ⟨wr.heap.size, 4, none⟩ (.bool true)).heap.size = w3.heap.size := by simp [World.setCell]
          have n5 := news_it ⟨xw, 0, 0, 0, true, false⟩ ((w3.setCell ⟨wr.heap.size, 0, none⟩ (.int .u32 xw)).setCell ⟨wr.heap.size, 4, none⟩ (.bool true))
          rw [hs5] at n5
          have c6 : w.heap.size ≤ (((w3.setCell ⟨wr.heap.size, 0, none⟩ (.int .u32 xw)).setCell ⟨wr.heap.size, 4, none⟩ (.bool true)).alloc (.cells (itC ⟨xw, 0, 0, 0, true, false⟩) 37)).heap.size := by have := B5.size; simp [World.setCell] at this ⊢; omega
          have c7 : (((w3.setCell ⟨wr.heap.size, 0, none⟩ (.int .u32 xw)).setCell ⟨wr.heap.size, 4, none⟩ (.bool true)).alloc (.cells (itC ⟨xw, 0, 0, 0, true, false⟩) 37)).heap.size = w3.heap.size + 1 := by simp [World.setCell]
          have HN : Hid (_ ∧ _ ∧ _ ∧ _ ∧ _ ∧ _) := ⟨n5, c6, c7, B5, L5, V5⟩
          clear n5 c6 c7 B5 L5 V5 J5 J4 B4 L4 V4 J3 B3 L3 V3 hs5
          go_wp2_with (at_builtin; refine wpList_append_lies _ rfl _ _ 22 rfl w.heap.size 37 ii (.agg #[.int .u32 0, .int .u32 0, .int .u32 0, .int .u32 0, .bool false, .bool false]) 6 20 Try.underlying22 hi hz0 hz1 hz2 rfl (by decide) u4 j (itsX (fun q => W.plI (ks q)) j) rfl (HN.out.2.2.2.2.1.alloc _) ⟨w3.heap.size, 0, none⟩ 1 1 (itC ⟨xw, 0, 0, 0, true, false⟩).toList rfl rfl HN.out.1 (itC_one _) (by decide) (by unfold maxLen; omega) (by omega) HN.out.2.1 (w3.heap.size + 1) HN.out.2.2.1 ?_)
          intro g4 cap4 w4 own4 hg4 hat4 hlt4
          have B6 : Below w.heap.size w w4 := Below.grown (HN.out.2.2.2.1.alloc HN.out.2.2.2.1.size _) hg4 HN.out.2.1 (fun b hb => (HN.out.2.2.2.2.1.lt b hb).1)
          have V6 := (HN.out.2.2.2.2.2.alloc (.cells (itC ⟨xw, 0, 0, 0, true, false⟩) 37)).kept hg4 HQ.out.2.2.2.2.1
          have A6 := (HQ.out.2.2.2.2.1.app (n := j + 1) (c := cap4) HN.out.2.2.2.2.2 hat4 (by simp [World.setCell])).symm
          have X4 : Hid (_ ∧ _ ∧ _ ∧ _) := ⟨own4, V6, A6, B6⟩
          clear own4 V6 A6 B6 hg4 HN ld5 x0 x4 x5 cj3 hbs
          have n7 := news_int (CN : Int) w4
          have d6 : w.heap.size ≤ (w4.alloc (.cells #[.int .i64 (CN : Int)] 3)).heap.size := by have := X4.out.2.2.2.size; simp; omega
          have d7 : (w4.alloc (.cells #[.int .i64 (CN : Int)] 3)).heap.size = w4.heap.size + 1 := by simp
          have d3 : ∀ u ∈ [Value.int .i64 (CN : Int)], u.oneCell' = true := by intro u hu; simp at hu; rw [hu]; rfl
          have HN5 : Hid (_ ∧ _ ∧ _ ∧ _) := ⟨n7, d6, d7, d3⟩
          clear n7 d6 d7 d3
          go_wp2_with (at_builtin; refine wpList_append_lies _ rfl _ _ 30 rfl w.heap.size 3 it (.int .i64 0) 1 8 Try.underlying30 ht hy0 hy1 hy2 rfl (by decide) u5 j (intsG (W.plO (fun q => W.plI (ks q))) j) rfl (X4.out.2.1.alloc _) ⟨w4.heap.size, 0, none⟩ 1 1 [.int .i64 (CN : Int)] rfl rfl HN5.out.1 HN5.out.2.2.2 (by decide) (by unfold maxLen; omega) (by omega) HN5.out.2.1 (w4.heap.size + 1) HN5.out.2.2.1 ?_)
          intro g5 cap5 w5 own5 hg5 hat5 hlt5
          have B5 : Below w.heap.size w w5 := Below.grown (X4.out.2.2.2.alloc X4.out.2.2.2.size _) hg5 (by have := X4.out.2.2.2.size; simp; omega) (fun b hb => (X4.out.2.1.lt b hb).1)
          have L5 := (X4.out.1.alloc (.cells #[.int .i64 (CN : Int)] 3)).kept hg5 X4.out.2.2.1
          have A5 := (X4.out.2.2.1.app (n := j + 1) (c := cap5) X4.out.1 hat5 (by omega)).symm
          have hpi : W.plI (ks j) = ⟨xw, 0, 0, 0, true, false⟩ := by rw [HQ.out.2.2.2.2.2.2.2.1, HP.out.1]
          have hpo : W.plO (fun q => W.plI (ks q)) j = (CN : Int) := by rw [HQ.out.2.2.2.2.2.2.1, HP.out.2]; rfl
          have hco : W.cntO (fun q => W.plI (ks q)) (j + 1) = CN + 1 := by rw [HQ.out.2.2.2.2.2.1, HP.out.2]; rfl
          have X5 : Hid (w5.ownsRow w.heap.size 37 6 (.slice (some ⟨g4, 0, none⟩) (j + 1) cap4) (j + 1) (itsX (fun q => W.plI (ks q)) (j + 1)) ∧ w5.ownsRow w.heap.size 3 1 (.slice (some ⟨g5, 0, none⟩) (j + 1) cap5) (j + 1) (intsG (W.plO (fun q => W.plI (ks q))) (j + 1)) ∧ Ap (.slice (some ⟨g4, 0, none⟩) (j + 1) cap4) (.slice (some ⟨g5, 0, none⟩) (j + 1) cap5) ∧ Below w.heap.size w w5 ∧ W.cntO (fun q => W.plI (ks q)) (j + 1) = CN + 1) := ⟨by rw [itsX_succ, hpi]; exact L5, by rw [intsG_succ, hpo]; exact own5, A5, B5, hco⟩
          clear own5 hg5 B5 L5 A5 X4 HN5 hpi hpo hco HQ HP
          go_wp2
          go_roundw
          case rel => exact ⟨j + 1, by omega, by go_num, by rw [X5.out.2.2.2.2]; go_num, X5.out.1, X5.out.2.1, X5.out.2.2.1, X5.out.2.2.2.1⟩
          case measure => simp [intOf]; omega
      · have hWd := fun w => cword_any 61 1 2 3 0 (by decide) (by decide) (W.encV (W.in5 61 1 2 3 0)) W.e4 rfl w
        have hPI : W.plI KJ = ⟨W.encV (W.in5 61 1 2 3 0), 0, 0, 0, false, false⟩ := by unfold W.plI; rw [if_neg (by omega), if_neg (by omega), if_neg (by omega), if_neg (by omega), if_pos (by omega)]; rfl
        generalize W.encV (W.in5 61 1 2 3 0) = xw at *
        have HW : Hid _ := hWd
        clear hWd
        have hPH : W.plH KJ = true := by unfold W.plH; rw [if_neg (by omega)]; simp; omega
        have HP : Hid (_ ∧ _) := ⟨hPI, hPH⟩
        clear hPI hPH
        go_wp2_with (fail)
        refine (HK.out _).mono ?_
        rintro e w2 ⟨rfl, rfl⟩
        go_wp2_with (fail)
        refine (HW.out _).mono ?_
        rintro e w3 ⟨rfl, b3⟩
        have J3 := HQ.out.1.below b3
        have B3 := HQ.out.2.1.trans (b3.mono HQ.out.2.1.size)
        have L3 := own_below HQ.out.2.2.1 b3
        have V3 := own_below HQ.out.2.2.2.1 b3
        have cj3 := (b3.cell (p := ⟨kb, ko + j, none⟩) (by show kb < _; simp; omega)).trans cj1
        have xl := J3.lt
        have xc := J3.c
        have kl3 : kb < w3.heap.size := by omega
        have x0 := xc 0 _ rfl
        have x4 := xc 4 _ rfl
        have x5 := xc 5 _ rfl
        have xf := J3.fz
        have xne : kb ≠ wr.heap.size := by omega
        clear xc
        have J4 := J3.setW xw
        have B4 := B3.setCell (p := ⟨wr.heap.size, 0, none⟩) hsz (.int .u32 xw)
        have L4 := L3.kept (gsetCell w3 wr.heap.size 0 (.int .u32 xw)) (Or.inr HQ.out.2.2.2.2.2.2.2.2.1)
        have V4 := V3.kept (gsetCell w3 wr.heap.size 0 (.int .u32 xw)) (Or.inr HQ.out.2.2.2.2.2.2.2.2.2)
        have J5 := J4
        have B5 := B4
        have L5 := L4
        have V5 := V4
        have ld5 : (ldT ⟨wr.heap.size, 0, none⟩).run Try.prog (w3.setCell ⟨wr.heap.size, 0, none⟩ (.int .u32 xw)) = .ok (.agg (itC ⟨xw, 0, 0, 0, false, false⟩)) (w3.setCell ⟨wr.heap.size, 0, none⟩ (.int .u32 xw)) := J5.ld
        have hbs := bsT_1 ⟨xw, 0, 0, 0, false, false⟩
        have hs5 : (w3.setCell ⟨wr.heap.size, 0, none⟩ (.int .u32 xw)).heap.size = w3.heap.size := by simp [World.setCell]
        have n5 := news_it ⟨xw, 0, 0, 0, false, false⟩ (w3.setCell ⟨wr.heap.size, 0, none⟩ (.int .u32 xw))
        rw [hs5] at n5
        have c6 : w.heap.size ≤ ((w3.setCell ⟨wr.heap.size, 0, none⟩ (.int .u32 xw)).alloc (.cells (itC ⟨xw, 0, 0, 0, false, false⟩) 37)).heap.size := by have := B5.size; simp [World.setCell] at this ⊢; omega
        have c7 : ((w3.setCell ⟨wr.heap.size, 0, none⟩ (.int .u32 xw)).alloc (.cells (itC ⟨xw, 0, 0, 0, false, false⟩) 37)).heap.size = w3.heap.size + 1 := by simp [World.setCell]
        have HN : Hid (_ ∧ _ ∧ _ ∧ _ ∧ _ ∧ _) := ⟨n5, c6, c7, B5, L5, V5⟩
        clear n5 c6 c7 B5 L5 V5 J5 J4 B4 L4 V4 J3 B3 L3 V3 hs5
        go_wp2_with (at_builtin; refine wpList_append_lies _ rfl _ _ 22 rfl w.heap.size 37 ii (.agg #[.int .u32 0, .int .u32 0, .int .u32 0, .int .u32 0, .bool false, .bool false]) 6 20 Try.underlying22 hi hz0 hz1 hz2 rfl (by decide) u4 j (itsX (fun q => W.plI (ks q)) j) rfl (HN.out.2.2.2.2.1.alloc _) ⟨w3.heap.size, 0, none⟩ 1 1 (itC ⟨xw, 0, 0, 0, false, false⟩).toList rfl rfl HN.out.1 (itC_one _) (by decide) (by unfold maxLen; omega) (by omega) HN.out.2.1 (w3.heap.size + 1) HN.out.2.2.1 ?_)
        intro g4 cap4 w4 own4 hg4 hat4 hlt4
        have B6 : Below w.heap.size w w4 := Below.grown (HN.out.2.2.2.1.alloc HN.out.2.2.2.1.size _) hg4 HN.out.2.1 (fun b hb => (HN.out.2.2.2.2.1.lt b hb).1)
        have V6 := (HN.out.2.2.2.2.2.alloc (.cells (itC ⟨xw, 0, 0, 0, false, false⟩) 37)).kept hg4 HQ.out.2.2.2.2.1
        have A6 := (HQ.out.2.2.2.2.1.app (n := j + 1) (c := cap4) HN.out.2.2.2.2.2 hat4 (by simp [World.setCell])).symm
        have X4 : Hid (_ ∧ _ ∧ _ ∧ _) := ⟨own4, V6, A6, B6⟩
        clear own4 V6 A6 B6 hg4 HN ld5 x0 x4 x5 cj3 hbs
        have n7 := news_int (CN : Int) w4
        have d6 : w.heap.size ≤ (w4.alloc (.cells #[.int .i64 (CN : Int)] 3)).heap.size := by have := X4.out.2.2.2.size; simp; omega
        have d7 : (w4.alloc (.cells #[.int .i64 (CN : Int)] 3)).heap.size = w4.heap.size + 1 := by simp
        have d3 : ∀ u ∈ [Value.int .i64 (CN : Int)], u.oneCell' = true := by intro u hu; simp at hu; rw [hu]; rfl
        have HN5 : Hid (_ ∧ _ ∧ _ ∧ _) := ⟨n7, d6, d7, d3⟩
        clear n7 d6 d7 d3
        go_wp2_with (at_builtin; refine wpList_append_lies _ rfl _ _ 30 rfl w.heap.size 3 it (.int .i64 0) 1 8 Try.underlying30 ht hy0 hy1 hy2 rfl (by decide) u5 j (intsG (W.plO (fun q => W.plI (ks q))) j) rfl (X4.out.2.1.alloc _) ⟨w4.heap.size, 0, none⟩ 1 1 [.int .i64 (CN : Int)] rfl rfl HN5.out.1 HN5.out.2.2.2 (by decide) (by unfold maxLen; omega) (by omega) HN5.out.2.1 (w4.heap.size + 1) HN5.out.2.2.1 ?_)
        intro g5 cap5 w5 own5 hg5 hat5 hlt5
        have B5 : Below w.heap.size w w5 := Below.grown (X4.out.2.2.2.alloc X4.out.2.2.2.size _) hg5 (by have := X4.out.2.2.2.size; simp; omega) (fun b hb => (X4.out.2.1.lt b hb).1)
        have L5 := (X4.out.1.alloc (.cells #[.int .i64 (CN : Int)] 3)).kept hg5 X4.out.2.2.1
        have A5 := (X4.out.2.2.1.app (n := j + 1) (c := cap5) X4.out.1 hat5 (by omega)).symm
        have hpi : W.plI (ks j) = ⟨xw, 0, 0, 0, false, false⟩ := by rw [HQ.out.2.2.2.2.2.2.2.1, HP.out.1]
        have hpo : W.plO (fun q => W.plI (ks q)) j = (CN : Int) := by rw [HQ.out.2.2.2.2.2.2.1, HP.out.2]; rfl
        have hco : W.cntO (fun q => W.plI (ks q)) (j + 1) = CN + 1 := by rw [HQ.out.2.2.2.2.2.1, HP.out.2]; rfl
        have X5 : Hid (w5.ownsRow w.heap.size 37 6 (.slice (some ⟨g4, 0, none⟩) (j + 1) cap4) (j + 1) (itsX (fun q => W.plI (ks q)) (j + 1)) ∧ w5.ownsRow w.heap.size 3 1 (.slice (some ⟨g5, 0, none⟩) (j + 1) cap5) (j + 1) (intsG (W.plO (fun q => W.plI (ks q))) (j + 1)) ∧ Ap (.slice (some ⟨g4, 0, none⟩) (j + 1) cap4) (.slice (some ⟨g5, 0, none⟩) (j + 1) cap5) ∧ Below w.heap.size w w5 ∧ W.cntO (fun q => W.plI (ks q)) (j + 1) = CN + 1) := ⟨by rw [itsX_succ, hpi]; exact L5, by rw [intsG_succ, hpo]; exact own5, A5, B5, hco⟩
        clear own5 hg5 B5 L5 A5 X4 HN5 hpi hpo hco HQ HP
        go_wp2
        go_roundw
        case rel => exact ⟨j + 1, by omega, by go_num, by rw [X5.out.2.2.2.2]; go_num, X5.out.1, X5.out.2.1, X5.out.2.2.1, X5.out.2.2.2.1⟩
        case measure => simp [intOf]; omega
      · have hWd := fun w => cword_any 13 1 2 0 0 (by decide) (by decide) (W.encV (W.in5 13 1 2 0 0)) W.e0 rfl w
        have hPI : W.plI KJ = ⟨W.encV (W.in5 13 1 2 0 0), 0, 0, 0, false, true⟩ := by unfold W.plI; rw [if_neg (by omega), if_neg (by omega), if_neg (by omega), if_neg (by omega), if_neg (by omega), if_pos (by omega)]
        generalize W.encV (W.in5 13 1 2 0 0) = xw at *
        have HW : Hid _ := hWd
        clear hWd
        have hPH : W.plH KJ = false := by unfold W.plH; rw [if_neg (by omega)]; simp; omega
        have HP : Hid (_ ∧ _) := ⟨hPI, hPH⟩
        clear hPI hPH
        go_wp2_with (fail)
        refine (HK.out _).mono ?_
        rintro e w2 ⟨rfl, rfl⟩
        go_wp2_with (fail)
        refine (HW.out _).mono ?_
        rintro e w3 ⟨rfl, b3⟩
        have J3 := HQ.out.1.below b3
        have B3 := HQ.out.2.1.trans (b3.mono HQ.out.2.1.size)
        have L3 := own_below HQ.out.2.2.1 b3
        have V3 := own_below HQ.out.2.2.2.1 b3
        have cj3 := (b3.cell (p := ⟨kb, ko + j, none⟩) (by show kb < _; simp; omega)).trans cj1
        have xl := J3.lt
        have xc := J3.c
        have kl3 : kb < w3.heap.size := by omega
        have x0 := xc 0 _ rfl
        have x4 := xc 4 _ rfl
        have x5 := xc 5 _ rfl
        have xf := J3.fz
        have xne : kb ≠ wr.heap.size := by omega
        clear xc
        have J4 := J3.setW xw
        have B4 := B3.setCell (p := ⟨wr.heap.size, 0, none⟩) hsz (.int .u32 xw)
        have L4 := L3.kept (gsetCell w3 wr.heap.size 0 (.int .u32 xw)) (Or.inr HQ.out.2.2.2.2.2.2.2.2.1)
        have V4 := V3.kept (gsetCell w3 wr.heap.size 0 (.int .u32 xw)) (Or.inr HQ.out.2.2.2.2.2.2.2.2.2)
        have J5 := J4.setT true
        have B5 := B4.setCell (p := ⟨wr.heap.size, 5, none⟩) hsz (.bool true)
        have L5 := L4.kept (gsetCell _ wr.heap.size 5 (.bool true)) (Or.inr HQ.out.2.2.2.2.2.2.2.2.1)
        have V5 := V4.kept (gsetCell _ wr.heap.size 5 (.bool true)) (Or.inr HQ.out.2.2.2.2.2.2.2.2.2)
        have ld5 : (ldT ⟨wr.heap.size, 0, none⟩).run Try.prog ((w3.setCell ⟨wr.heap.size, 0, none⟩ (.int .u32 xw)).setCell ⟨wr.heap.size, 5, none⟩ (.bool true)) = .ok (.agg (itC ⟨xw, 0, 0, 0, false, true⟩)) ((w3.setCell ⟨wr.heap.size, 0, none⟩ (.int .u32 xw)).setCell ⟨wr.heap.size, 5, none⟩ (.bool true)) := J5.ld
        have hbs := bsT_1 ⟨xw, 0, 0, 0, false, true⟩
        have hs5 : ((w3.setCell ⟨wr.heap.size, 0, none⟩ (.int .u32 xw)).setCell ⟨wr.heap.size, 5, none⟩ (.bool true)).heap.size = w3.heap.size := by simp [World.setCell]
        have n5 := news_it ⟨xw, 0, 0, 0, false, true⟩ ((w3.setCell ⟨wr.heap.size, 0, none⟩ (.int .u32 xw)).setCell ⟨wr.heap.size, 5, none⟩ (.bool true))
        rw [hs5] at n5
        have c6 : w.heap.size ≤ (((w3.setCell ⟨wr.heap.size, 0, none⟩ (.int .u32 xw)).setCell ⟨wr.heap.size, 5, none⟩ (.bool true)).alloc (.cells (itC ⟨xw, 0, 0, 0, false, true⟩) 37)).heap.size := by have := B5.size; simp [World.setCell] at this ⊢; omega
        have c7 : (((w3.setCell ⟨wr.heap.size, 0, none⟩ (.int .u32 xw)).setCell ⟨wr.heap.size, 5, none⟩ (.bool true)).alloc (.cells (itC ⟨xw, 0, 0, 0, false, true⟩) 37)).heap.size = w3.heap.size + 1 := by simp [World.setCell]
        have HN : Hid (_ ∧ _ ∧ _ ∧ _ ∧ _ ∧ _) := ⟨n5, c6, c7, B5, L5, V5⟩
        clear n5 c6 c7 B5 L5 V5 J5 J4 B4 L4 V4 J3 B3 L3 V3 hs5
        go_wp2_with (at_builtin; refine wpList_append_lies _ rfl _ _ 22 rfl w.heap.size 37 ii (.agg #[.int .u32 0, .int .u32 0, .int .u32 0, .int .u32 0, .bool false, .bool false]) 6 20 Try.underlying22 hi hz0 hz1 hz2 rfl (by decide) u4 j (itsX (fun q => W.plI (ks q)) j) rfl (HN.out.2.2.2.2.1.alloc _) ⟨w3.heap.size, 0, none⟩ 1 1 (itC ⟨xw, 0, 0, 0, false, true⟩).toList rfl rfl HN.out.1 (itC_one _) (by decide) (by unfold maxLen; omega) (by omega) HN.out.2.1 (w3.heap.size + 1) HN.out.2.2.1 ?_)
        intro g4 cap4 w4 own4 hg4 hat4 hlt4
        have B6 : Below w.heap.size w w4 := Below.grown (HN.out.2.2.2.1.alloc HN.out.2.2.2.1.size _) hg4 HN.out.2.1 (fun b hb => (HN.out.2.2.2.2.1.lt b hb).1)
        have V6 := (HN.out.2.2.2.2.2.alloc (.cells (itC ⟨xw, 0, 0, 0, false, true⟩) 37)).kept hg4 HQ.out.2.2.2.2.1
        have A6 := (HQ.out.2.2.2.2.1.app (n := j + 1) (c := cap4) HN.out.2.2.2.2.2 hat4 (by simp [World.setCell])).symm
        have X4 : Hid (_ ∧ _ ∧ _ ∧ _) := ⟨own4, V6, A6, B6⟩
        clear own4 V6 A6 B6 hg4 HN ld5 x0 x4 x5 cj3 hbs
        have n7 := news_int (-1) w4
        have d6 : w.heap.size ≤ (w4.alloc (.cells #[.int .i64 (-1)] 3)).heap.size := by have := X4.out.2.2.2.size; simp; omega
        have d7 : (w4.alloc (.cells #[.int .i64 (-1)] 3)).heap.size = w4.heap.size + 1 := by simp
        have d3 : ∀ u ∈ [Value.int .i64 (-1)], u.oneCell' = true := by intro u hu; simp at hu; rw [hu]; rfl
        have HN5 : Hid (_ ∧ _ ∧ _ ∧ _) := ⟨n7, d6, d7, d3⟩
        clear n7 d6 d7 d3
        go_wp2_with (at_builtin; refine wpList_append_lies _ rfl _ _ 30 rfl w.heap.size 3 it (.int .i64 0) 1 8 Try.underlying30 ht hy0 hy1 hy2 rfl (by decide) u5 j (intsG (W.plO (fun q => W.plI (ks q))) j) rfl (X4.out.2.1.alloc _) ⟨w4.heap.size, 0, none⟩ 1 1 [.int .i64 (-1)] rfl rfl HN5.out.1 HN5.out.2.2.2 (by decide) (by unfold maxLen; omega) (by omega) HN5.out.2.1 (w4.heap.size + 1) HN5.out.2.2.1 ?_)
        intro g5 cap5 w5 own5 hg5 hat5 hlt5
        have B5 : Below w.heap.size w w5 := Below.grown (X4.out.2.2.2.alloc X4.out.2.2.2.size _) hg5 (by have := X4.out.2.2.2.size; simp; omega) (fun b hb => (X4.out.2.1.lt b hb).1)
        have L5 := (X4.out.1.alloc (.cells #[.int .i64 (-1)] 3)).kept hg5 X4.out.2.2.1
        have A5 := (X4.out.2.2.1.app (n := j + 1) (c := cap5) X4.out.1 hat5 (by omega)).symm
        have hpi : W.plI (ks j) = ⟨xw, 0, 0, 0, false, true⟩ := by rw [HQ.out.2.2.2.2.2.2.2.1, HP.out.1]
        have hpo : W.plO (fun q => W.plI (ks q)) j = (-1) := by rw [HQ.out.2.2.2.2.2.2.1, HP.out.2]; rfl
        have hco : W.cntO (fun q => W.plI (ks q)) (j + 1) = CN := by rw [HQ.out.2.2.2.2.2.1, HP.out.2]; rfl
        have X5 : Hid (w5.ownsRow w.heap.size 37 6 (.slice (some ⟨g4, 0, none⟩) (j + 1) cap4) (j + 1) (itsX (fun q => W.plI (ks q)) (j + 1)) ∧ w5.ownsRow w.heap.size 3 1 (.slice (some ⟨g5, 0, none⟩) (j + 1) cap5) (j + 1) (intsG (W.plO (fun q => W.plI (ks q))) (j + 1)) ∧ Ap (.slice (some ⟨g4, 0, none⟩) (j + 1) cap4) (.slice (some ⟨g5, 0, none⟩) (j + 1) cap5) ∧ Below w.heap.size w w5 ∧ W.cntO (fun q => W.plI (ks q)) (j + 1) = CN) := ⟨by rw [itsX_succ, hpi]; exact L5, by rw [intsG_succ, hpo]; exact own5, A5, B5, hco⟩
        clear own5 hg5 B5 L5 A5 X4 HN5 hpi hpo hco HQ HP
        go_wp2
        go_roundw
        case rel => exact ⟨j + 1, by omega, by go_num, by rw [X5.out.2.2.2.2], X5.out.1, X5.out.2.1, X5.out.2.2.1, X5.out.2.2.2.1⟩
        case measure => simp [intOf]; omega
      · have hWd := fun w => cword_any 28 1 2 3 0 (by decide) (by decide) (W.encV (W.in5 28 1 2 3 0)) W.e6 rfl w
        have hPI : W.plI KJ = ⟨W.encV (W.in5 28 1 2 3 0), 0, 0, 0, false, false⟩ := by unfold W.plI; rw [if_neg (by omega), if_neg (by omega), if_neg (by omega), if_neg (by omega), if_neg (by omega), if_neg (by omega), if_pos (by omega)]; rfl
        generalize W.encV (W.in5 28 1 2 3 0) = xw at *
        have HW : Hid _ := hWd
        clear hWd
        have hPH : W.plH KJ = false := by unfold W.plH; rw [if_neg (by omega)]; simp; omega
        have HP : Hid (_ ∧ _) := ⟨hPI, hPH⟩
        clear hPI hPH
        go_wp2_with (fail)
        refine (HK.out _).mono ?_
        rintro e w2 ⟨rfl, rfl⟩
        go_wp2_with (fail)
        refine (HW.out _).mono ?_
        rintro e w3 ⟨rfl, b3⟩
        have J3 := HQ.out.1.below b3
        have B3 := HQ.out.2.1.trans (b3.mono HQ.out.2.1.size)
        have L3 := own_below HQ.out.2.2.1 b3
        have V3 := own_below HQ.out.2.2.2.1 b3
        have cj3 := (b3.cell (p := ⟨kb, ko + j, none⟩) (by show kb < _; simp; omega)).trans cj1
        have xl := J3.lt
        have xc := J3.c
        have kl3 : kb < w3.heap.size := by omega
        have x0 := xc 0 _ rfl
        have x4 := xc 4 _ rfl
        have x5 := xc 5 _ rfl
        have xf := J3.fz
        have xne : kb ≠ wr.heap.size := by omega
        clear xc
        have J4 := J3.setW xw
        have B4 := B3.setCell (p := ⟨wr.heap.size, 0, none⟩) hsz (.int .u32 xw)
        have L4 := L3.kept (gsetCell w3 wr.heap.size 0 (.int .u32 xw)) (Or.inr HQ.out.2.2.2.2.2.2.2.2.1)
        have V4 := V3.kept (gsetCell w3 wr.heap.size 0 (.int .u32 xw)) (Or.inr HQ.out.2.2.2.2.2.2.2.2.2)
        have J5 := J4
        have B5 := B4
        have L5 := L4
        have V5 := V4
        have ld5 : (ldT ⟨wr.heap.size, 0, none⟩).run Try.prog (w3.setCell ⟨wr.heap.size, 0, none⟩ (.int .u32 xw)) = .ok (.agg (itC ⟨xw, 0, 0, 0, false, false⟩)) (w3.setCell ⟨wr.heap.size, 0, none⟩ (.int .u32 xw)) := J5.ld
        have hbs := bsT_1 ⟨xw, 0, 0, 0, false, false⟩
        have hs5 : (w3.setCell ⟨wr.heap.size, 0, none⟩ (.int .u32 xw)).heap.size = w3.heap.size := by simp [World.setCell]
        have n5 := news_it ⟨xw, 0, 0, 0, false, false⟩ (w3.setCell ⟨wr.heap.size, 0, none⟩ (.int .u32 xw))
        rw [hs5] at n5
        have c6 : w.heap.size ≤ ((w3.setCell ⟨wr.heap.size, 0, none⟩ (.int .u32 xw)).alloc (.cells (itC ⟨xw, 0, 0, 0, false, false⟩) 37)).heap.size := by have := B5.size; simp [World.setCell] at this ⊢; omega
        have c7 : ((w3.setCell ⟨wr.heap.size, 0, none⟩ (.int .u32 xw)).alloc (.cells (itC ⟨xw, 0, 0, 0, false, false⟩) 37)).heap.size = w3.heap.size + 1 := by simp [World.setCell]
        have HN : Hid (_ ∧ _ ∧ _ ∧ _ ∧ _ ∧ _) := ⟨n5, c6, c7, B5, L5, V5⟩
        clear n5 c6 c7 B5 L5 V5 J5 J4 B4 L4 V4 J3 B3 L3 V3 hs5
        go_wp2_with (at_builtin; refine wpList_append_lies _ rfl _ _ 22 rfl w.heap.size 37 ii (.agg #[.int .u32 0, .int .u32 0, .int .u32 0, .int .u32 0, .bool false, .bool false]) 6 20 Try.underlying22 hi hz0 hz1 hz2 rfl (by decide) u4 j (itsX (fun q => W.plI (ks q)) j) rfl (HN.out.2.2.2.2.1.alloc _) ⟨w3.heap.size, 0, none⟩ 1 1 (itC ⟨xw, 0, 0, 0, false, false⟩).toList rfl rfl HN.out.1 (itC_one _) (by decide) (by unfold maxLen; omega) (by omega) HN.out.2.1 (w3.heap.size + 1) HN.out.2.2.1 ?_)
        intro g4 cap4 w4 own4 hg4 hat4 hlt4
        have B6 : Below w.heap.size w w4 := Below.grown (HN.out.2.2.2.1.alloc HN.out.2.2.2.1.size _) hg4 HN.out.2.1 (fun b hb => (HN.out.2.2.2.2.1.lt b hb).1)
        have V6 := (HN.out.2.2.2.2.2.alloc (.cells (itC ⟨xw, 0, 0, 0, false, false⟩) 37)).kept hg4 HQ.out.2.2.2.2.1
        have A6 := (HQ.out.2.2.2.2.1.app (n := j + 1) (c := cap4) HN.out.2.2.2.2.2 hat4 (by simp [World.setCell])).symm
        have X4 : Hid (_ ∧ _ ∧ _ ∧ _) := ⟨own4, V6, A6, B6⟩
        clear own4 V6 A6 B6 hg4 HN ld5 x0 x4 x5 cj3 hbs
        have n7 := news_int (-1) w4
        have d6 : w.heap.size ≤ (w4.alloc (.cells #[.int .i64 (-1)] 3)).heap.size := by have := X4.out.2.2.2.size; simp; omega
        have d7 : (w4.alloc (.cells #[.int .i64 (-1)] 3)).heap.size = w4.heap.size + 1 := by simp
        have d3 : ∀ u ∈ [Value.int .i64 (-1)], u.oneCell' = true := by intro u hu; simp at hu; rw [hu]; rfl
        have HN5 : Hid (_ ∧ _ ∧ _ ∧ _) := ⟨n7, d6, d7, d3⟩
        clear n7 d6 d7 d3
        go_wp2_with (at_builtin; refine wpList_append_lies _ rfl _ _ 30 rfl w.heap.size 3 it (.int .i64 0) 1 8 Try.underlying30 ht hy0 hy1 hy2 rfl (by decide) u5 j (intsG (W.plO (fun q => W.plI (ks q))) j) rfl (X4.out.2.1.alloc _) ⟨w4.heap.size, 0, none⟩ 1 1 [.int .i64 (-1)] rfl rfl HN5.out.1 HN5.out.2.2.2 (by decide) (by unfold maxLen; omega) (by omega) HN5.out.2.1 (w4.heap.size + 1) HN5.out.2.2.1 ?_)
        intro g5 cap5 w5 own5 hg5 hat5 hlt5
        have B5 : Below w.heap.size w w5 := Below.grown (X4.out.2.2.2.alloc X4.out.2.2.2.size _) hg5 (by have := X4.out.2.2.2.size; simp; omega) (fun b hb => (X4.out.2.1.lt b hb).1)
        have L5 := (X4.out.1.alloc (.cells #[.int .i64 (-1)] 3)).kept hg5 X4.out.2.2.1
        have A5 := (X4.out.2.2.1.app (n := j + 1) (c := cap5) X4.out.1 hat5 (by omega)).symm
        have hpi : W.plI (ks j) = ⟨xw, 0, 0, 0, false, false⟩ := by rw [HQ.out.2.2.2.2.2.2.2.1, HP.out.1]
        have hpo : W.plO (fun q => W.plI (ks q)) j = (-1) := by rw [HQ.out.2.2.2.2.2.2.1, HP.out.2]; rfl
        have hco : W.cntO (fun q => W.plI (ks q)) (j + 1) = CN := by rw [HQ.out.2.2.2.2.2.1, HP.out.2]; rfl
        have X5 : Hid (w5.ownsRow w.heap.size 37 6 (.slice (some ⟨g4, 0, none⟩) (j + 1) cap4) (j + 1) (itsX (fun q => W.plI (ks q)) (j + 1)) ∧ w5.ownsRow w.heap.size 3 1 (.slice (some ⟨g5, 0, none⟩) (j + 1) cap5) (j + 1) (intsG (W.plO (fun q => W.plI (ks q))) (j + 1)) ∧ Ap (.slice (some ⟨g4, 0, none⟩) (j + 1) cap4) (.slice (some ⟨g5, 0, none⟩) (j + 1) cap5) ∧ Below w.heap.size w w5 ∧ W.cntO (fun q => W.plI (ks q)) (j + 1) = CN) := ⟨by rw [itsX_succ, hpi]; exact L5, by rw [intsG_succ, hpo]; exact own5, A5, B5, hco⟩
        clear own5 hg5 B5 L5 A5 X4 HN5 hpi hpo hco HQ HP
        go_wp2
        go_roundw
        case rel => exact ⟨j + 1, by omega, by go_num, by rw [X5.out.2.2.2.2], X5.out.1, X5.out.2.1, X5.out.2.2.1, X5.out.2.2.2.1⟩
        case measure => simp [intOf]; omega
      · have hPI : W.plI KJ = ⟨KJ % 4294967296 * 128 % 4294967296, 0, 0, 0, false, false⟩ := by unfold W.plI; rw [if_neg (by omega), if_neg (by omega), if_neg (by omega), if_neg (by omega), if_neg (by omega), if_neg (by omega), if_neg (by omega)]; rfl
        obtain ⟨xw, hxw⟩ : ∃ xw, xw = KJ % 4294967296 * 128 % 4294967296 := ⟨_, rfl⟩
        rw [← hxw] at hPI
        have hxr : KJ % 4294967296 * 128 % 4294967296 = xw := hxw.symm
        clear hxw
        have hPH : W.plH KJ = false := by unfold W.plH; rw [if_neg (by omega)]; simp; omega
        have HP : Hid (_ ∧ _) := ⟨hPI, hPH⟩
        clear hPI hPH
        go_wp2_with (fail)
        refine (HK.out _).mono ?_
        rintro e w2 ⟨rfl, rfl⟩
        generalize wr.alloc (.cells (itC (W.itw 0)) 37) = w3 at *
        have J3 := HQ.out.1
        have B3 := HQ.out.2.1
        have L3 := HQ.out.2.2.1
        have V3 := HQ.out.2.2.2.1
        have cj3 := cj1
        have xl := J3.lt
        have xc := J3.c
        have kl3 : kb < w3.heap.size := by omega
        have x0 := xc 0 _ rfl
        have x4 := xc 4 _ rfl
        have x5 := xc 5 _ rfl
        have xf := J3.fz
        have xne : kb ≠ wr.heap.size := by omega
        clear xc
        have J4 := J3.setW xw
        have B4 := B3.setCell (p := ⟨wr.heap.size, 0, none⟩) hsz (.int .u32 xw)
        have L4 := L3.kept (gsetCell w3 wr.heap.size 0 (.int .u32 xw)) (Or.inr HQ.out.2.2.2.2.2.2.2.2.1)
        have V4 := V3.kept (gsetCell w3 wr.heap.size 0 (.int .u32 xw)) (Or.inr HQ.out.2.2.2.2.2.2.2.2.2)
        have J5 := J4
        have B5 := B4
        have L5 := L4
        have V5 := V4
        have ld5 : (ldT ⟨wr.heap.size, 0, none⟩).run Try.prog (w3.setCell ⟨wr.heap.size, 0, none⟩ (.int .u32 xw)) = .ok (.agg (itC ⟨xw, 0, 0, 0, false, false⟩)) (w3.setCell ⟨wr.heap.size, 0, none⟩ (.int .u32 xw)) := J5.ld
        have hbs := bsT_1 ⟨xw, 0, 0, 0, false, false⟩
        have hs5 : (w3.setCell ⟨wr.heap.size, 0, none⟩ (.int .u32 xw)).heap.size = w3.heap.size := by simp [World.setCell]
        have n5 := news_it ⟨xw, 0, 0, 0, false, false⟩ (w3.setCell ⟨wr.heap.size, 0, none⟩ (.int .u32 xw))
        rw [hs5] at n5
        have c6 : w.heap.size ≤ ((w3.setCell ⟨wr.heap.size, 0, none⟩ (.int .u32 xw)).alloc (.cells (itC ⟨xw, 0, 0, 0, false, false⟩) 37)).heap.size := by have := B5.size; simp [World.setCell] at this ⊢; omega
        have c7 : ((w3.setCell ⟨wr.heap.size, 0, none⟩ (.int .u32 xw)).alloc (.cells (itC ⟨xw, 0, 0, 0, false, false⟩) 37)).heap.size = w3.heap.size + 1 := by simp [World.setCell]
        have HN : Hid (_ ∧ _ ∧ _ ∧ _ ∧ _ ∧ _) := ⟨n5, c6, c7, B5, L5, V5⟩
        clear n5 c6 c7 B5 L5 V5 J5 J4 B4 L4 V4 J3 B3 L3 V3 hs5
        go_wp2_with (at_builtin; refine wpList_append_lies _ rfl _ _ 22 rfl w.heap.size 37 ii (.agg #[.int .u32 0, .int .u32 0, .int .u32 0, .int .u32 0, .bool false, .bool false]) 6 20 Try.underlying22 hi hz0 hz1 hz2 rfl (by decide) u4 j (itsX (fun q => W.plI (ks q)) j) rfl (HN.out.2.2.2.2.1.alloc _) ⟨w3.heap.size, 0, none⟩ 1 1 (itC ⟨xw, 0, 0, 0, false, false⟩).toList rfl rfl HN.out.1 (itC_one _) (by decide) (by unfold maxLen; omega) (by omega) HN.out.2.1 (w3.heap.size + 1) HN.out.2.2.1 ?_)
        intro g4 cap4 w4 own4 hg4 hat4 hlt4
        have B6 : Below w.heap.size w w4 := Below.grown (HN.out.2.2.2.1.alloc HN.out.2.2.2.1.size _) hg4 HN.out.2.1 (fun b hb => (HN.out.2.2.2.2.1.lt b hb).1)
        have V6 := (HN.out.2.2.2.2.2.alloc (.cells (itC ⟨xw, 0, 0, 0, false, false⟩) 37)).kept hg4 HQ.out.2.2.2.2.1
        have A6 := (HQ.out.2.2.2.2.1.app (n := j + 1) (c := cap4) HN.out.2.2.2.2.2 hat4 (by simp [World.setCell])).symm
        have X4 : Hid (_ ∧ _ ∧ _ ∧ _) := ⟨own4, V6, A6, B6⟩
        clear own4 V6 A6 B6 hg4 HN ld5 x0 x4 x5 cj3 hbs
        have n7 := news_int (-1) w4
        have d6 : w.heap.size ≤ (w4.alloc (.cells #[.int .i64 (-1)] 3)).heap.size := by have := X4.out.2.2.2.size; simp; omega
        have d7 : (w4.alloc (.cells #[.int .i64 (-1)] 3)).heap.size = w4.heap.size + 1 := by simp
        have d3 : ∀ u ∈ [Value.int .i64 (-1)], u.oneCell' = true := by intro u hu; simp at hu; rw [hu]; rfl
        have HN5 : Hid (_ ∧ _ ∧ _ ∧ _) := ⟨n7, d6, d7, d3⟩
        clear n7 d6 d7 d3
        go_wp2_with (at_builtin; refine wpList_append_lies _ rfl _ _ 30 rfl w.heap.size 3 it (.int .i64 0) 1 8 Try.underlying30 ht hy0 hy1 hy2 rfl (by decide) u5 j (intsG (W.plO (fun q => W.plI (ks q))) j) rfl (X4.out.2.1.alloc _) ⟨w4.heap.size, 0, none⟩ 1 1 [.int .i64 (-1)] rfl rfl HN5.out.1 HN5.out.2.2.2 (by decide) (by unfold maxLen; omega) (by omega) HN5.out.2.1 (w4.heap.size + 1) HN5.out.2.2.1 ?_)
        intro g5 cap5 w5 own5 hg5 hat5 hlt5
        have B5 : Below w.heap.size w w5 := Below.grown (X4.out.2.2.2.alloc X4.out.2.2.2.size _) hg5 (by have := X4.out.2.2.2.size; simp; omega) (fun b hb => (X4.out.2.1.lt b hb).1)
        have L5 := (X4.out.1.alloc (.cells #[.int .i64 (-1)] 3)).kept hg5 X4.out.2.2.1
        have A5 := (X4.out.2.2.1.app (n := j + 1) (c := cap5) X4.out.1 hat5 (by omega)).symm
        have hpi : W.plI (ks j) = ⟨xw, 0, 0, 0, false, false⟩ := by rw [HQ.out.2.2.2.2.2.2.2.1, HP.out.1]
        have hpo : W.plO (fun q => W.plI (ks q)) j = (-1) := by rw [HQ.out.2.2.2.2.2.2.1, HP.out.2]; rfl
        have hco : W.cntO (fun q => W.plI (ks q)) (j + 1) = CN := by rw [HQ.out.2.2.2.2.2.1, HP.out.2]; rfl
        have X5 : Hid (w5.ownsRow w.heap.size 37 6 (.slice (some ⟨g4, 0, none⟩) (j + 1) cap4) (j + 1) (itsX (fun q => W.plI (ks q)) (j + 1)) ∧ w5.ownsRow w.heap.size 3 1 (.slice (some ⟨g5, 0, none⟩) (j + 1) cap5) (j + 1) (intsG (W.plO (fun q => W.plI (ks q))) (j + 1)) ∧ Ap (.slice (some ⟨g4, 0, none⟩) (j + 1) cap4) (.slice (some ⟨g5, 0, none⟩) (j + 1) cap5) ∧ Below w.heap.size w w5 ∧ W.cntO (fun q => W.plI (ks q)) (j + 1) = CN) := ⟨by rw [itsX_succ, hpi]; exact L5, by rw [intsG_succ, hpo]; exact own5, A5, B5, hco⟩
        clear own5 hg5 B5 L5 A5 X4 HN5 hpi hpo hco HQ HP
        go_wp2
        go_roundw
        case rel => exact ⟨j + 1, by omega, by go_num, by rw [X5.out.2.2.2.2], X5.out.1, X5.out.2.1, X5.out.2.2.1, X5.out.2.2.2.1⟩
        case measure => simp [intOf]; omega
    · have e : j = n := by omega
      subst e
      obtain ⟨al, cl, rfl, hIts⟩ := own_isl hL (fun q _ => W.plI_rg (ks q))
      have hV' : wr.ownsRow w.heap.size 3 1 u5 j (intsL ((List.range j).map (W.plO (fun q => W.plI (ks q))))) := by rw [← intsG_L]; exact hV
      obtain ⟨sv, rfl, hsv, _⟩ := own_li hV' (by omega)
      have hPl := places_any al j cl (fun q => W.plI (ks q)) wr hIts (by omega)
      have hOp := fun W' (hb : Below wr.heap.size wr W') => ops_oi al j cl (fun q => W.plI (ks q)) W' (hIts.below hb) (by omega) _ rfl
      have hcr := W.cnt_run (fun q => W.plI (ks q)) j
      generalize (W.runN (fun q => W.plI (ks q)) j).p = PP at *
      have HE : Hid (Calls _ _ _ _ _ ∧ _ ∧ _ ∧ _ ∧ _) := ⟨hPl, hOp, hcr, hsv, hbl⟩
      clear hPl hOp hcr hsv hbl hV hV' hL hA hIts hi hz0 hz1 hz2 ht hy0 hy1 hy2
      generalize W.cntO (fun q => W.plI (ks q)) j = CN at *
      go_wp2_with (fail)
      refine HE.out.1.mono ?_
      rintro e w2 ⟨⟨gp, rfl, hBp⟩, b2⟩
      have lp : Li ⟨some ⟨gp, 0, none⟩, j, j⟩ ((List.range j).map (W.plO (fun q => W.plI (ks q)))) w2 := li_some (by simp) (by omega) (Nat.le_refl _) hBp.lt (fun i y hy => by
        rw [List.getElem?_map] at hy
        by_cases hi : i < j
        · rw [List.getElem?_range hi] at hy
          have hy' : W.plO (fun q => W.plI (ks q)) i = y := by simpa using hy
          rw [Nat.zero_add, hBp.c i hi, hy']
        · rw [List.getElem?_eq_none (by simp; omega)] at hy
          cases hy)
      have hSm := sameints_any ⟨some ⟨gp, 0, none⟩, j, j⟩ sv _ _ w2 lp (HE.out.2.2.2.1.below b2)
      have hdc : decide ((List.range j).map (W.plO (fun q => W.plI (ks q))) = (List.range j).map (W.plO (fun q => W.plI (ks q)))) = true := by simp
      rw [hdc] at hSm
      have HS : Hid (Calls _ _ _ _ _) := hSm
      clear hSm hdc lp hBp
      unfold slV at HS
      dsimp only at HS
      unfold slV
      go_wp2_with (fail)
      refine HS.out.mono ?_
      rintro e w3 ⟨rfl, b3⟩
      have c3 := b2.trans (b3.mono b2.size)
      clear b2 b3 HS
      go_wp2_with (fail)
      refine (HE.out.2.1 _ c3).mono ?_
      rintro e w4 ⟨⟨OA, rfl, iA⟩, b4⟩
      have nA : OA.n = CN := by rw [iA.n]; exact HE.out.2.2.1
      have c4 := HE.out.2.2.2.2.trans ((c3.trans (b4.mono c3.size)).mono HE.out.2.2.2.2.size)
      obtain ⟨oa, on, oc⟩ := OA
      dsimp only at nA
      subst nA
      clear iA b4 c3 HE
      unfold slV
      dsimp only
      go_wp2
      go_ret
      exact ⟨rfl, c4⟩
end Go.Proofs.Ytopehmpjfndgjaa
