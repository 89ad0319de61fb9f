/- WmoMixed: what its loop makes, both Checks, sizes and places, the word (WmoX3 to WmoX6 in one). -/
import Derived.Test.YtahdclmgolpjfaaDoorWmoX2
import Derived.Test.YtahdclmgolpjfaaDoorWmoU
import Derived.Deep.AppendLies
import Derived.Laws.OwnMore
import Derived.Test.YtahdclmgolpjfaaDoorWmoW
namespace Go.Proofs.YtahdclmgolpjfaaDoor
open Go.ChangeShapes Go.WideShapes Go.ChangeAt Go.RowKit
set_option linter.unusedVariables false
set_option linter.unusedSimpArgs false

def hsL (gs : Nat → Nat) (j : Nat) : List Value := (List.range j).map fun t => .slice (some ⟨gs t, 0, none⟩) 1 1
def orL (j : Nat) : List Value := (List.range j).flatMap fun (t : Nat) => [.int .i64 (t : Int), .int .i64 0]
def updN (f : Nat → Nat) (k v : Nat) : Nat → Nat := fun i => if i = k then v else f i
theorem hsL_len (gs : Nat → Nat) (j : Nat) : (hsL gs j).length = j := by unfold hsL; simp
theorem hsL_succ (gs : Nat → Nat) (j g : Nat) : hsL (updN gs j g) (j + 1) = hsL gs j ++ [.slice (some ⟨g, 0, none⟩) 1 1] := by
  unfold hsL
  rw [List.range_succ, List.map_append]
  congr 1
  · apply List.map_congr_left
    intro t ht
    have := List.mem_range.1 ht
    unfold updN
    rw [if_neg (by omega)]
  · unfold updN
    simp
theorem hsL_get (gs : Nat → Nat) (j t : Nat) (h : t < j) : (hsL gs j)[t]? = some (.slice (some ⟨gs t, 0, none⟩) 1 1) := by
  unfold hsL
  rw [List.getElem?_map, List.getElem?_range h]
  rfl
theorem orL_succ (j : Nat) : orL (j + 1) = orL j ++ [.int .i64 (j : Int), .int .i64 0] := by
  unfold orL
  rw [List.range_succ, List.flatMap_append]
  simp
theorem orL_len : ∀ j, (orL j).length = j * 2
  | 0 => rfl
  | j + 1 => by rw [orL_succ, List.length_append, orL_len j]; show j * 2 + 2 = _; omega
theorem orL_get : ∀ j t, t < j → (orL j)[t * 2]? = some (.int .i64 (t : Int)) ∧ (orL j)[t * 2 + 1]? = some (.int .i64 0)
  | 0, t, h => by omega
  | j + 1, t, h => by
    rw [orL_succ]
    by_cases e : t < j
    · have ih := orL_get j t e
      rw [List.getElem?_append_left (by rw [orL_len]; omega), List.getElem?_append_left (by rw [orL_len]; omega)]
      exact ih
    · obtain rfl : t = j := by omega
      rw [List.getElem?_append_right (by rw [orL_len]; omega), List.getElem?_append_right (by rw [orL_len]; omega), orL_len]
      simp
/-- The harts, the order and the bytes, apart. -/
structure Mx (base : Nat) (hv ov : Value) (mb : Nat) (gs : Nat → Nat) (op : Nat → W.Opr) (mm : Int → Int) (j jo : Nat) (w : World) : Prop where
  h : w.ownsRow base 34 1 hv j (hsL gs j)
  o : w.ownsRow base 41 2 ov jo (orL jo)
  m : Bc mb 4 (fun a => .int .u8 (mm (a : Int))) w
  i : ∀ t, t < j → w.heap[gs t]? = some (.cells (opsR [op t]) 38)
  ho : ∀ b, hv.ownBlock = some b → ov.ownBlock ≠ some b
  hm : hv.ownBlock ≠ some mb
  om : ov.ownBlock ≠ some mb
  hg : ∀ t, t < j → hv.ownBlock ≠ some (gs t)
  og : ∀ t, t < j → ov.ownBlock ≠ some (gs t)
  gm : ∀ t, t < j → gs t ≠ mb
  m0 : base ≤ mb
theorem Mx.below {base : Nat} {hv ov : Value} {mb : Nat} {gs : Nat → Nat} {op : Nat → W.Opr} {mm : Int → Int} {j jo : Nat} {w w' : World} (M : Mx base hv ov mb gs op mm j jo w) (hb : Below w.heap.size w w') : Mx base hv ov mb gs op mm j jo w' := by
  have g : w.grownBy w' none := ⟨hb.os, hb.tape, hb.output, hb.size, fun k hk _ => hb.block k hk⟩
  refine ⟨M.h.kept g ?_, M.o.kept g ?_, M.m.below hb, fun t ht => (hb.block _ (Array.getElem?_eq_some_iff.1 (M.i t ht)).1).trans (M.i t ht), M.ho, M.hm, M.om, M.hg, M.og, M.gm, M.m0⟩
  · cases hv.ownBlock <;> simp
  · cases ov.ownBlock <;> simp
/-- One hart more. -/
theorem Mx.appH {base : Nat} {hv ov : Value} {mb : Nat} {gs : Nat → Nat} {op : Nat → W.Opr} {mm : Int → Int} {j jo : Nat} {w : World} (M : Mx base hv ov mb gs op mm j jo w) (B : Obj) (gh cap : Nat) (w' : World)
    (own : w'.ownsRow base 34 1 (.slice (some ⟨gh, 0, none⟩) (j + 1) cap) (j + 1) (hsL gs j ++ [.slice (some ⟨w.heap.size, 0, none⟩) 1 1])) (hg : ((w.alloc (.cells (opsR [op j]) 38)).alloc B).grownBy w' hv.ownBlock) (hat : hv.ownBlock = some gh ∨ gh = w.heap.size + 2) :
    Mx base (.slice (some ⟨gh, 0, none⟩) (j + 1) cap) ov mb (updN gs j w.heap.size) op mm (j + 1) jo w' := by
  have al : Below w.heap.size w ((w.alloc (.cells (opsR [op j]) 38)).alloc B) := ((Below.refl _ _).alloc (Nat.le_refl _) _).alloc (by simp) _
  have M1 := M.below al
  have eb : (Value.slice (some ⟨gh, 0, none⟩) (j + 1) cap).ownBlock = some gh := rfl
  have hl : ∀ b, hv.ownBlock = some b → b < w.heap.size := fun b hb => (M.h.lt b hb).2
  have ol : ∀ b, ov.ownBlock = some b → b < w.heap.size := fun b hb => (M.o.lt b hb).2
  have gl : ∀ t, t < j → gs t < w.heap.size := fun t ht => (Array.getElem?_eq_some_iff.1 (M.i t ht)).1
  have ml : mb < w.heap.size := M.m.lt
  have hu : ∀ t, t < j → updN gs j w.heap.size t = gs t := fun t ht => by unfold updN; rw [if_neg (by omega)]
  have hj : updN gs j w.heap.size j = w.heap.size := by unfold updN; rw [if_pos rfl]
  refine ⟨by rw [hsL_succ]; exact own, M1.o.kept hg ?_, M1.m.grown hg (fun e => M.hm e.symm), fun t ht => ?_, fun b hb => ?_, ?_, M.om, fun t ht => ?_, fun t ht => ?_, fun t ht => ?_, M.m0⟩
  · cases e : ov.ownBlock with
    | none => exact Or.inl rfl
    | some b => exact Or.inr (fun x => M.ho b x.symm e)
  · by_cases e : t = j
    · subst e
      rw [hj, hg.block w.heap.size (by simp; omega) (fun e => by have := hl _ e.symm; omega)]
      show ((w.heap.push _).push B)[w.heap.size]? = _
      rw [Array.getElem?_push, Array.getElem?_push]
      simp
    · have ht' : t < j := by omega
      rw [hu t ht', hg.block (gs t) (by have := gl t ht'; simp; omega) (fun e => M.hg t ht' e.symm)]
      exact M1.i t ht'
  · rw [eb] at hb
    cases hb
    rcases hat with h | h
    · exact M.ho gh h
    · intro e
      have := ol _ e
      omega
  · rw [eb]
    intro e
    cases e
    rcases hat with h | h
    · exact M.hm h
    · omega
  · rw [eb]
    intro e
    cases e
    by_cases e2 : t = j
    · subst e2
      rw [hj] at hat
      rcases hat with h | h
      · have := hl _ h
        omega
      · omega
    · have ht' : t < j := by omega
      rw [hu t ht'] at hat
      rcases hat with h | h
      · exact M.hg t ht' h
      · have := gl t ht'
        omega
  · intro e
    by_cases e2 : t = j
    · subst e2
      rw [hj] at e
      have := ol _ e
      omega
    · have ht' : t < j := by omega
      rw [hu t ht'] at e
      exact M.og t ht' e
  · by_cases e2 : t = j
    · subst e2
      rw [hj]
      omega
    · have ht' : t < j := by omega
      rw [hu t ht']
      exact M.gm t ht'
/-- One Ref more. -/
theorem Mx.appO {base : Nat} {hv ov : Value} {mb : Nat} {gs : Nat → Nat} {op : Nat → W.Opr} {mm : Int → Int} {j jo : Nat} {w : World} (M : Mx base hv ov mb gs op mm j jo w) (B : Obj) (go cap : Nat) (w' : World)
    (own : w'.ownsRow base 41 2 (.slice (some ⟨go, 0, none⟩) (jo + 1) cap) (jo + 1) (orL jo ++ [.int .i64 (jo : Int), .int .i64 0])) (hg : (w.alloc B).grownBy w' ov.ownBlock) (hat : ov.ownBlock = some go ∨ go = w.heap.size + 1) :
    Mx base hv (.slice (some ⟨go, 0, none⟩) (jo + 1) cap) mb gs op mm j (jo + 1) w' := by
  have al : Below w.heap.size w (w.alloc B) := (Below.refl _ _).alloc (Nat.le_refl _) _
  have M1 := M.below al
  have eb : (Value.slice (some ⟨go, 0, none⟩) (jo + 1) cap).ownBlock = some go := rfl
  have hl : ∀ b, hv.ownBlock = some b → b < w.heap.size := fun b hb => (M.h.lt b hb).2
  have gl : ∀ t, t < j → gs t < w.heap.size := fun t ht => (Array.getElem?_eq_some_iff.1 (M.i t ht)).1
  have ml : mb < w.heap.size := M.m.lt
  refine ⟨M1.h.kept hg ?_, by rw [orL_succ]; exact own, M1.m.grown hg (fun e => M.om e.symm), fun t ht => ?_, fun b hb e => ?_, M.hm, ?_, M.hg, fun t ht => ?_, M.gm, M.m0⟩
  · cases e : hv.ownBlock with
    | none => exact Or.inl rfl
    | some b => exact Or.inr (fun x => M.ho b e x.symm)
  · rw [hg.block (gs t) (by have := gl t ht; simp; omega) (fun e => M.og t ht e.symm)]
    exact M1.i t ht
  · rw [eb] at e
    cases e
    rcases hat with h | h
    · exact M.ho go hb h
    · have := hl _ hb
      omega
  · rw [eb]
    intro e
    cases e
    rcases hat with h | h
    · exact M.om h
    · omega
  · rw [eb]
    intro e
    cases e
    rcases hat with h | h
    · exact M.og t ht h
    · have := gl t ht
      omega
/-- A byte written. -/
theorem Mx.set {base : Nat} {hv ov : Value} {mb : Nat} {gs : Nat → Nat} {op : Nat → W.Opr} {mm : Int → Int} {j jo : Nat} {w : World} (M : Mx base hv ov mb gs op mm j jo w) (a : Nat) (v : Int) (mm' : Int → Int) (hm' : ∀ i : Nat, i < 4 → mm' (i : Int) = if i = a then v else mm (i : Int)) :
    Mx base hv ov mb gs op mm' j jo (w.setCell ⟨mb, a, none⟩ (.int .u8 v)) := by
  have hg := gsetCell w mb a (.int .u8 v)
  refine ⟨M.h.kept hg (Or.inr M.hm), M.o.kept hg (Or.inr M.om), (M.m.set a _).congr fun i hi => ?_, fun t ht => ?_, M.ho, M.hm, M.om, M.hg, M.og, M.gm, M.m0⟩
  · unfold updV
    rw [hm' i hi]
    split <;> rfl
  · rw [hg.block (gs t) (Array.getElem?_eq_some_iff.1 (M.i t ht)).1 (by simpa using M.gm t ht)]
    exact M.i t ht
end Go.Proofs.YtahdclmgolpjfaaDoor

/- WmoMixed: both Checks, out of what its loop made. -/
namespace Go.Proofs.YtahdclmgolpjfaaDoor
open Go.ChangeShapes Go.WideShapes Go.ChangeAt Go.RowKit
set_option linter.unusedVariables false
set_option linter.unusedSimpArgs false

def opX (n : Nat) (sz ad vl : Nat → Int) (got : Int) (t : Nat) : W.Opr := if t < n then W.oWx (sz t) (ad t) (vl t) else W.oRx got
/-- What Check reads. -/
structure Mk (gh go : Nat) (gs : Nat → Nat) (op : Nat → W.Opr) (n : Nat) (w : World) : Prop where
  hl : gh < w.heap.size
  ol : go < w.heap.size
  h : ∀ t, t < n + 1 → w.cell? ⟨gh, t, none⟩ = some (.slice (some ⟨gs t, 0, none⟩) 1 1)
  o : ∀ t, t < n + 1 → w.cell? ⟨go, t * 2, none⟩ = some (.int .i64 (t : Int)) ∧ w.cell? ⟨go, t * 2 + 1, none⟩ = some (.int .i64 0)
  i : ∀ t, t < n + 1 → w.heap[gs t]? = some (.cells (opsR [op t]) 38)
theorem Mk.below {gh go : Nat} {gs : Nat → Nat} {op : Nat → W.Opr} {n : Nat} {w w' : World} (M : Mk gh go gs op n w) (hb : Below w.heap.size w w') : Mk gh go gs op n w' :=
  ⟨Nat.lt_of_lt_of_le M.hl hb.size, Nat.lt_of_lt_of_le M.ol hb.size, fun t ht => (hb.cell (p := ⟨gh, t, none⟩) M.hl).trans (M.h t ht), fun t ht => ⟨(hb.cell (p := ⟨go, t * 2, none⟩) M.ol).trans (M.o t ht).1, (hb.cell (p := ⟨go, t * 2 + 1, none⟩) M.ol).trans (M.o t ht).2⟩, fun t ht => (hb.block _ (Array.getElem?_eq_some_iff.1 (M.i t ht)).1).trans (M.i t ht)⟩
theorem Mx.toMk {base gh go ch co : Nat} {mb : Nat} {gs : Nat → Nat} {op : Nat → W.Opr} {mm : Int → Int} {n : Nat} {w : World} (M : Mx base (.slice (some ⟨gh, 0, none⟩) (n + 1) ch) (.slice (some ⟨go, 0, none⟩) (n + 1) co) mb gs op mm (n + 1) (n + 1) w) : Mk gh go gs op n w := by
  refine ⟨(M.h.lt gh rfl).2, (M.o.lt go rfl).2, fun t ht => ?_, fun t ht => ⟨?_, ?_⟩, M.i⟩
  · rw [M.h.cellAt t (by omega)]
    exact hsL_get gs (n + 1) t ht
  · rw [M.o.cellAt (t * 2) (by omega)]
    exact (orL_get (n + 1) t ht).1
  · rw [M.o.cellAt (t * 2 + 1) (by omega)]
    exact (orL_get (n + 1) t ht).2
theorem Mk.hf {gh go : Nat} {gs : Nat → Nat} {n : Nat} {sz ad vl : Nat → Int} {got : Int} {w : World} (M : Mk gh go gs (opX n sz ad vl got) n w) :
    Hf gh (n + 1) (fun t => some ⟨gs t, 0, none⟩) (fun _ => 1) (fun _ => 1) (W.xX n sz ad vl got) W.sX w := by
  have how := fun t (ht : t < n + 1) => ow_row [opX n sz ad vl got t] 38 (M.i t ht) (W.xX n sz ad vl got t) (fun j o e => by
    match j, e with
    | 0, e =>
      have e' : opX n sz ad vl got t = o := Option.some.inj e
      rw [← e']
      rfl
    | j + 1, e => cases e)
  refine ⟨⟨M.hl, M.h, fun t ht => (how t ht).ol⟩, fun t ht h0 => ⟨gs t, 0, rfl, (how t ht).b.lt, fun j hj k hk => ?_⟩⟩
  have e := (how t ht).b.c (j * 13 + k) (by show j * 13 + k < 1 * 13; omega)
  rw [Nat.zero_add, e]
  have m : (j * 13 + k) % 13 = k := by omega
  have d : (j * 13 + k) / 13 = j := by omega
  have k3 : k % 13 = k := by omega
  unfold opF W.sX
  rw [m, d, k3]
  rfl
theorem Mk.ck {gh go : Nat} {gs : Nat → Nat} {n : Nat} {sz ad vl : Nat → Int} {got : Int} {w : World} (M : Mk gh go gs (opX n sz ad vl got) n w) (hn : n ≤ 12) (hs : ∀ h, h < n → W.SzX (sz h) (ad h) (vl h)) (KC cb : Nat) (A : Nat → Addr) (hF : Fz cb w) (hS : Sent A w) :
    Ck gh (n + 1) KC (fun t => some ⟨gs t, 0, none⟩) (fun _ => 1) (fun _ => 1) (W.xX n sz ad vl got) W.sX (some ⟨go, 0, none⟩) (n + 1) W.rX cb A w := by
  refine ⟨M.hf, W.vdX hn hs, ⟨fun _ => ⟨go, rfl, M.ol, fun j hj => M.o j hj⟩⟩, W.orX, fun h _ => W.itX h, hF, hS, by omega, fun p hp hr k hk => W.frX hs p hp hr k hk, fun p hp => ?_, fun p hp h0 => ?_⟩
  · have := W.lrX (n := n) (sz := sz) (ad := ad) (vl := vl) (got := got) p hp
    unfold W.stX at this
    rw [this]
    omega
  · have := W.lrX (n := n) (sz := sz) (ad := ad) (vl := vl) (got := got) p hp
    unfold W.stX at this
    rw [this] at h0
    omega
theorem Mk.chk_ok {gh go : Nat} {gs : Nat → Nat} {n : Nat} {sz ad vl : Nat → Int} {w : World} (M : Mk gh go gs (opX n sz ad vl (W.gX sz ad vl n)) n w) (hn : n ≤ 12) (hs : ∀ h, h < n → W.SzX (sz h) (ad h) (vl h)) (KC oc cb : Nat) (A : Nat → Addr) (hF : Fz cb w) (hS : Sent A w) :
    Calls Tryd.prog 14 #[.slice (some ⟨gh, 0, none⟩) (n + 1) KC, .slice (some ⟨go, 0, none⟩) (n + 1) oc, fvZ cb] w fun e w' => e = .returned .nilIface ∧ Below w.heap.size w w' := by
  refine check_ok gh _ KC _ _ _ _ _ _ _ oc _ cb A w (M.ck hn hs KC cb A hF hS) _ rfl _ rfl (fun p hp => ?_) (fun h => absurd h (by omega)) (fun p hp => W.okPX p hp) (fun h => absurd h (by omega))
  by_cases e : p < n + 1
  · exact W.okRX hs p e
  · obtain rfl : p = n + 1 := by omega
    exact (W.okRX_r hs).2 rfl
theorem Mk.chk_val {gh go : Nat} {gs : Nat → Nat} {n : Nat} {sz ad vl : Nat → Int} {got : Int} {w : World} (M : Mk gh go gs (opX n sz ad vl got) n w) (hg : got ≠ W.gX sz ad vl n) (hn : n ≤ 12) (hs : ∀ h, h < n → W.SzX (sz h) (ad h) (vl h)) (KC oc cb : Nat) (A : Nat → Addr) (hF : Fz cb w) (hS : Sent A w) :
    Calls Tryd.prog 14 #[.slice (some ⟨gh, 0, none⟩) (n + 1) KC, .slice (some ⟨go, 0, none⟩) (n + 1) oc, fvZ cb] w fun e w' => (∃ q, e = .returned (.iface 78 (.pointer (some ⟨q, 0, none⟩))) ∧ w'.heap[q]? = some (.cells #[.int .i64 (n : Int), ptr A 1] 80)) ∧ Below w.heap.size w w' := by
  have h := check_val gh _ KC _ _ _ _ _ _ _ oc _ cb A w (M.ck hn hs KC cb A hF hS) (n + 1) ⟨by omega, by omega⟩ (n + 2) (Nat.le_refl _) (fun p hp => W.okRX hs p hp) (fun _ e => hg ((W.okRX_r hs).1 e)) (fun p hp => W.okPX p hp) (fun h => absurd h (by omega))
  have en : ((n + 1 : Nat) : Int) - 1 = (n : Int) := by omega
  rw [en] at h
  exact h
/-- Another Got. -/
theorem Mk.got {gh go : Nat} {gs : Nat → Nat} {n : Nat} {sz ad vl : Nat → Int} {got : Int} {w : World} (M : Mk gh go gs (opX n sz ad vl got) n w) (g' : Int) (h1 : gs n ≠ gh) (h2 : gs n ≠ go) (h3 : ∀ t, t < n → gs t ≠ gs n) :
    Mk gh go gs (opX n sz ad vl g') n (w.setCell ⟨gs n, 4, none⟩ (.int .u32 g')) := by
  have hg := gsetCell w (gs n) 4 (.int .u32 g')
  have hz : w.heap.size ≤ (w.setCell ⟨gs n, 4, none⟩ (.int .u32 g')).heap.size := hg.size
  have hc : ∀ b i, b < w.heap.size → b ≠ gs n → (w.setCell ⟨gs n, 4, none⟩ (.int .u32 g')).cell? ⟨b, i, none⟩ = w.cell? ⟨b, i, none⟩ := fun b i hb hne => by
    have := hg.block b hb (by simpa using fun e => hne e)
    unfold World.cell?
    simp only [this]
  refine ⟨Nat.lt_of_lt_of_le M.hl hz, Nat.lt_of_lt_of_le M.ol hz, fun t ht => (hc gh t M.hl (Ne.symm h1)).trans (M.h t ht), fun t ht => ⟨(hc go _ M.ol (Ne.symm h2)).trans (M.o t ht).1, (hc go _ M.ol (Ne.symm h2)).trans (M.o t ht).2⟩, fun t ht => ?_⟩
  by_cases e : t < n
  · have e1 : opX n sz ad vl g' t = opX n sz ad vl got t := by unfold opX; rw [if_pos e, if_pos e]
    rw [e1, hg.block (gs t) (Array.getElem?_eq_some_iff.1 (M.i t ht)).1 (by simpa using h3 t e)]
    exact M.i t ht
  · obtain rfl : t = n := by omega
    have hi := M.i t ht
    have e0 : opX t sz ad vl got t = W.oRx got := by unfold opX; rw [if_neg (by omega)]
    have e1 : opX t sz ad vl g' t = W.oRx g' := by unfold opX; rw [if_neg (by omega)]
    rw [e0] at hi
    rw [e1]
    have hl := (Array.getElem?_eq_some_iff.1 hi).1
    have hh := heap_setCell_same w (gs t) 4 _ _ (.int .u32 g') hi
    rw [hh]
    rfl
end Go.Proofs.YtahdclmgolpjfaaDoor

/- WmoMixed: sizes and places. -/
namespace Go.Proofs.YtahdclmgolpjfaaDoor
open Go.ChangeShapes Go.WideShapes Go.ChangeAt Go.RowKit Go.Maps
set_option linter.unusedVariables false
set_option linter.unusedSimpArgs false

def szF (x : Int) : Int := if x % 3 = 0 then 1 else if x % 3 = 1 then 2 else 4
def adF (x : Int) : Int := bits .andNot .u32 (x / 4 % 4) (szF x - 1)
theorem adF4 (a : Int) (h : a = 0 ∨ a = 1 ∨ a = 2 ∨ a = 3) : (bits .andNot .u32 a 0 = a) ∧ (bits .andNot .u32 a 1 = 0 ∨ bits .andNot .u32 a 1 = 2) ∧ bits .andNot .u32 a 3 = 0 := by
  rcases h with rfl | rfl | rfl | rfl <;> decide
theorem szX (x : Int) (h : 0 ≤ x ∧ x < 4294967296) : W.SzX (szF x) (adF x) x := by
  have h4 : x / 4 % 4 = 0 ∨ x / 4 % 4 = 1 ∨ x / 4 % 4 = 2 ∨ x / 4 % 4 = 3 := by omega
  have hb := adF4 _ h4
  refine ⟨?_, h.1, h.2⟩
  unfold adF szF
  by_cases h0 : x % 3 = 0
  · rw [if_pos h0]
    show (_ ∧ 0 ≤ bits .andNot .u32 (x / 4 % 4) 0 ∧ bits .andNot .u32 (x / 4 % 4) 0 < 4) ∨ _
    rw [hb.1]
    omega
  · rw [if_neg h0]
    by_cases h1 : x % 3 = 1
    · rw [if_pos h1]
      show _ ∨ (_ ∧ (bits .andNot .u32 (x / 4 % 4) 1 = 0 ∨ bits .andNot .u32 (x / 4 % 4) 1 = 2)) ∨ _
      omega
    · rw [if_neg h1]
      show _ ∨ _ ∨ (_ ∧ bits .andNot .u32 (x / 4 % 4) 3 = 0)
      omega
theorem Mx.congr {base : Nat} {hv ov : Value} {mb : Nat} {gs : Nat → Nat} {op op' : Nat → W.Opr} {mm mm' : Int → Int} {j jo : Nat} {w : World} (M : Mx base hv ov mb gs op mm j jo w) (h : ∀ t, t < j → op' t = op t) (hm : ∀ i : Nat, i < 4 → mm' (i : Int) = mm (i : Int)) : Mx base hv ov mb gs op' mm' j jo w :=
  ⟨M.h, M.o, M.m.congr fun i hi => by rw [hm i hi], fun t ht => by rw [h t ht]; exact M.i t ht, M.ho, M.hm, M.om, M.hg, M.og, M.gm, M.m0⟩
theorem Mx.appH2 {base : Nat} {hv ov : Value} {mb : Nat} {gs : Nat → Nat} {op : Nat → W.Opr} {mm : Int → Int} {j jo : Nat} {w : World} (M : Mx base hv ov mb gs op mm j jo w) (Z : Nat) (hZ : w.heap.size = Z) (o : W.Opr) (ho : op j = o) (B : Obj) (gh cap : Nat) (w' : World)
    (own : w'.ownsRow base 34 1 (.slice (some ⟨gh, 0, none⟩) (j + 1) cap) (j + 1) (hsL gs j ++ [.slice (some ⟨Z, 0, none⟩) 1 1])) (hg : ((w.alloc (.cells (opsR [o]) 38)).alloc B).grownBy w' hv.ownBlock) (hat : hv.ownBlock = some gh ∨ gh = Z + 2) :
    Mx base (.slice (some ⟨gh, 0, none⟩) (j + 1) cap) ov mb (updN gs j Z) op mm (j + 1) jo w' := by
  subst hZ ho
  exact M.appH B gh cap w' own hg hat
theorem infoSl : (Tryd.prog.info? 34).map (fun i => (i.zero, i.size, i.bytes)) = some (some (.slice none 0 0), 1, 24) := by kernel_rfl
theorem infoRf : (Tryd.prog.info? 41).map (fun i => (i.zero, i.size, i.bytes)) = some (some (.agg #[.int .i64 0, .int .i64 0]), 2, 16) := by kernel_rfl
theorem news_sl (v : Value) (w : World) (T : TypeId) : ∀ j u, [v][j]? = some u → (w.alloc (.cells #[v] T)).cell? ((⟨w.heap.size, 0, none⟩ : Addr).add j) = some u := World.news_of_block (cs := #[v]) (heap_alloc_last w _)
theorem news_rf (x y : Value) (w : World) (T : TypeId) : ∀ j u, [x, y][j]? = some u → (w.alloc (.cells #[x, y] T)).cell? ((⟨w.heap.size, 0, none⟩ : Addr).add j) = some u := World.news_of_block (cs := #[x, y]) (heap_alloc_last w _)
/-- The bytes within a write. -/
def mI (sz ad vl : Nat → Int) (j k : Nat) (a : Int) : Int := if ad j ≤ a ∧ a < ad j + k then W.bta (vl j) (a - ad j).toNat else W.mX sz ad vl j a
theorem mI_0 (sz ad vl : Nat → Int) (j : Nat) (a : Int) : mI sz ad vl j 0 a = W.mX sz ad vl j a := by
  unfold mI
  rw [if_neg (by omega)]
theorem mI_end (sz ad vl : Nat → Int) (j k : Nat) (hk : (k : Int) = sz j) (a : Int) : W.mX sz ad vl (j + 1) a = mI sz ad vl j k a := by
  unfold mI
  show (if _ then _ else _) = _
  rw [hk]
theorem mI_succ (sz ad vl : Nat → Int) (j k : Nat) (i A : Nat) (hA : (A : Int) = ad j + k) : mI sz ad vl j (k + 1) (i : Int) = if i = A then W.bta (vl j) k else mI sz ad vl j k (i : Int) := by
  unfold mI
  by_cases e : i = A
  · rw [if_pos e, if_pos (by omega), show ((i : Int) - ad j).toNat = k by omega]
  · rw [if_neg e]
    by_cases e2 : ad j ≤ (i : Int) ∧ (i : Int) < ad j + k
    · rw [if_pos e2, if_pos (by omega)]
    · rw [if_neg e2, if_neg (by omega)]
theorem bta_rg (v : Int) (k : Nat) : 0 ≤ W.bta v k ∧ W.bta v k < 256 := by
  unfold W.bta
  omega
theorem mX_rg (sz ad vl : Nat → Int) : ∀ j a, 0 ≤ W.mX sz ad vl j a ∧ W.mX sz ad vl j a < 256
  | 0, a => ⟨Int.le_refl _, by show (0 : Int) < 256; decide⟩
  | j + 1, a => by
    have e : W.mX sz ad vl (j + 1) a = if ad j ≤ a ∧ a < ad j + sz j then W.bta (vl j) (a - ad j).toNat else W.mX sz ad vl j a := rfl
    rw [e]
    by_cases h : ad j ≤ a ∧ a < ad j + sz j
    · rw [if_pos h]
      exact bta_rg _ _
    · rw [if_neg h]
      exact mX_rg sz ad vl j a
end Go.Proofs.YtahdclmgolpjfaaDoor

/- WmoMixed: the word, and a bent one. -/
namespace Go.Proofs.YtahdclmgolpjfaaDoor
open Go.ChangeShapes Go.WideShapes Go.ChangeAt Go.RowKit Go.Maps
set_option linter.unusedVariables false
set_option linter.unusedSimpArgs false

theorem or4x (a b c d : Int) (ha : 0 ≤ a ∧ a < 256) (hb : 0 ≤ b ∧ b < 256) (hc : 0 ≤ c ∧ c < 256) (hd : 0 ≤ d ∧ d < 256) :
    bits .or .u32 (bits .or .u32 (bits .or .u32 a (b * 256)) (c * 65536)) (d * 16777216) = a + b * 256 + c * 65536 + d * 16777216 := by
  have w1 : ∀ B : Int, 0 ≤ B ∧ B < 256 → IntKind.u32.wrap B = B := fun B h => by show B % 4294967296 = B; omega
  have w2 : ∀ B : Int, 0 ≤ B ∧ B < 256 → IntKind.u32.wrap (B * 256) = B * 256 := fun B h => by show B * 256 % 4294967296 = B * 256; omega
  have w3 : ∀ B : Int, 0 ≤ B ∧ B < 256 → IntKind.u32.wrap (B * 65536) = B * 65536 := fun B h => by show B * 65536 % 4294967296 = B * 65536; omega
  have w4 : ∀ B : Int, 0 ≤ B ∧ B < 256 → IntKind.u32.wrap (B * 16777216) = B * 16777216 := fun B h => by show B * 16777216 % 4294967296 = B * 16777216; omega
  have h1 := orV a b 1 (by decide) ha.1 (by show a < 256; exact ha.2) hb.1 hb.2
  have h2 := orV (a + b * 256) c 2 (by decide) (by omega) (by show a + b * 256 < 65536; omega) hc.1 hc.2
  have h3 := orV (a + b * 256 + c * 65536) d 3 (by decide) (by omega) (by show a + b * 256 + c * 65536 < 16777216; omega) hd.1 hd.2
  rw [w1 b hb] at h1
  rw [w1 c hc] at h2
  rw [w1 d hd] at h3
  have h1' : bits .or .u32 a (IntKind.u32.wrap (b * 256)) = a + b * 256 := h1
  have h2' : bits .or .u32 (a + b * 256) (IntKind.u32.wrap (c * 65536)) = a + b * 256 + c * 65536 := h2
  have h3' : bits .or .u32 (a + b * 256 + c * 65536) (IntKind.u32.wrap (d * 16777216)) = a + b * 256 + c * 65536 + d * 16777216 := h3
  rw [w2 b hb] at h1'
  rw [w3 c hc] at h2'
  rw [w4 d hd] at h3'
  rw [h1', h2', h3']
theorem xor_ne (x y : Int) (x0 : 0 ≤ x) (x1 : x < 4294967296) (y0 : 0 < y) (y1 : y < 4294967296) : bits .xor .u32 x y ≠ x := by
  obtain ⟨a, rfl⟩ := Int.eq_ofNat_of_zero_le x0
  obtain ⟨b, rfl⟩ := Int.eq_ofNat_of_zero_le (Int.le_of_lt y0)
  rw [u32_xor_nat a b (by omega) (by omega)]
  intro h
  have h' : a ^^^ b = a := by omega
  have h2 : a ^^^ (a ^^^ b) = a ^^^ a := by rw [h']
  rw [← Nat.xor_assoc, Nat.xor_self, Nat.zero_xor] at h2
  omega
theorem pow_w' : ∀ k : Fin 32, 0 < IntKind.u32.wrap (2 ^ min (IntKind.u64.wrap ((k.val : Nat) : Int)).toNat 32) ∧ IntKind.u32.wrap (2 ^ min (IntKind.u64.wrap ((k.val : Nat) : Int)).toNat 32) < 4294967296 := by decide
theorem pow_w (k : Nat) (h : k < 32) : 0 < IntKind.u32.wrap (2 ^ min (IntKind.u64.wrap (k : Int)).toNat 32) ∧ IntKind.u32.wrap (2 ^ min (IntKind.u64.wrap (k : Int)).toNat 32) < 4294967296 := pow_w' ⟨k, h⟩
theorem bdO_r (g : Int) (w : World) : (bdO #[(0, .int .i64 1), (1, .int .i64 4), (4, .int .u32 g)]).run Tryd.prog w = .ok (.agg (opN (W.oR 4 0 g))) w := by kernel_rfl
end Go.Proofs.YtahdclmgolpjfaaDoor
