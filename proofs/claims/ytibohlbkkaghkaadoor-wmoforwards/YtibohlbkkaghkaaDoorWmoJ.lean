/- wmo: a step written whole. -/
import Derived.Test.YtibohlbkkaghkaaDoorWmoI
import Derived.Test.YtibohlbkkaghkaaDoorPpoIs
import Derived.Deep.MidRow
namespace Go.Proofs.YtibohlbkkaghkaaDoor
open Go.ChangeShapes Go.WideShapes Go.ChangeAt Go.RowKit Go.Maps
set_option linter.unusedVariables false
set_option linter.unusedSimpArgs false

/-- A step's cells. -/
def stC (z : StR) : Array Value := #[.int .i64 z.o.k, .int .i64 z.o.sz, .int .u32 z.o.ad, .int .u32 z.o.vl, .int .u32 z.o.gt, .bool z.o.pr, .bool z.o.aq, .bool z.o.rl, .int .i64 z.o.pd, .int .i64 z.o.sc, .slice z.s.a.a z.s.a.n z.s.a.c, .slice z.s.d.a z.s.d.n z.s.d.c, .slice z.s.c.a z.s.c.n z.s.c.c, .int .i64 z.ha, .int .i64 z.lr, .int .i64 (z.fr 0), .int .i64 (z.fr 1), .int .i64 (z.fr 2), .int .i64 (z.fr 3)]
theorem stC_get (z : StR) (k : Nat) (hk : k < 19) : (stC z).toList[k]? = some (stF (fun _ => z) k) := by
  match k, hk with
  | 0, _ => rfl
  | 1, _ => rfl
  | 2, _ => rfl
  | 3, _ => rfl
  | 4, _ => rfl
  | 5, _ => rfl
  | 6, _ => rfl
  | 7, _ => rfl
  | 8, _ => rfl
  | 9, _ => rfl
  | 10, _ => rfl
  | 11, _ => rfl
  | 12, _ => rfl
  | 13, _ => rfl
  | 14, _ => rfl
  | 15, _ => rfl
  | 16, _ => rfl
  | 17, _ => rfl
  | 18, _ => rfl
  | n + 19, h => exact absurd h (by omega)
def bdS (l : Array (Nat × Value)) : Sem Value := Instr.build 85 l
theorem bdS_eq (l : Array (Nat × Value)) : Instr.build 85 l = bdS l := rfl
def stS (a : Addr) (v : Value) : Sem Unit := storeVar 85 a v
theorem stS_eq (a : Addr) (v : Value) : storeVar 85 a v = stS a v := rfl
theorem bdS_2 (o : W.Opr) (S : S3) (h : Int) (w : World) : (bdS #[(0, .agg (opC o S.a S.d S.c)), (1, .int .i64 h)]).run Tryd.prog w = .ok (.agg (stC ⟨o, S, h, 0, fun _ => 0⟩)) w := by kernel_rfl
theorem infoS : (Tryd.prog.info? 85).map (·.size) = some 19 := by kernel_rfl
theorem stC_one (z : StR) : (stC z).all (fun x => x.oneCell') = true := by simp [stC, Value.oneCell']
theorem Sb2.there {b N : Nat} {q : Nat → StR} {w : World} (h : Sb2 b N q w) (p : Nat) (hp : p < N) : w.there b (p * 19) 19 := fun j hj => ⟨by rw [h.b.c (p * 19 + j) (by omega)]; rfl, h.b.fz _⟩
theorem Sb2.store {b N : Nat} {q : Nat → StR} {w : World} (h : Sb2 b N q w) (p : Nat) (hp : p < N) (z : StR) : (stS ⟨b, p * 19, none⟩ (.agg (stC z))).run Tryd.prog w = .ok () (w.setCells b (p * 19) (stC z).toList) :=
  run_storeVar_mid w b (p * 19) _ (stC z) (h.there p hp) (by rw [infoS]; rfl) (stC_one z)
theorem gsetCells (b : Nat) : ∀ (vs : List Value) (o : Nat) (w : World), w.grownBy (w.setCells b o vs) (some b)
  | [], o, w => ⟨rfl, rfl, rfl, Nat.le_refl _, fun _ _ _ => rfl⟩
  | v :: r, o, w => gcomp (gsetCell w b o v) (gsetCells b r (o + 1) _) (fun d e => by cases e; exact Or.inl rfl)
theorem Sb2.put {b N : Nat} {q : Nat → StR} {w : World} (h : Sb2 b N q w) (p : Nat) (hp : p < N) (z : StR) : Sb2 b N (updQ q p z) (w.setCells b (p * 19) (stC z).toList) := by
  have hl : (stC z).toList.length = 19 := rfl
  have g := gsetCells b (stC z).toList (p * 19) w
  refine ⟨⟨Nat.lt_of_lt_of_le h.b.lt g.size, fun i hi => ?_, fun i => by rw [World.frozen?_setCells]; exact h.b.fz i⟩⟩
  by_cases e : i / 19 = p
  · have hj : i % 19 < (stC z).toList.length := by rw [hl]; omega
    have q1 := World.cell?_setCells_in b (stC z).toList (p * 19) w (fun j hj => ((h.there p hp) j (by rw [hl] at hj; exact hj)).1) (i % 19) hj
    have q2 := stC_get z (i % 19) (by omega)
    rw [List.getElem?_eq_getElem hj] at q2
    have q3 := Option.some.inj q2
    rw [q3, show p * 19 + i % 19 = i by omega] at q1
    rw [q1]
    unfold stF updQ
    rw [if_pos e, Nat.mod_mod]
  · rw [World.cell?_setCells_out b _ _ w _ (fun _ _ => by rw [hl]; show i < p * 19 ∨ p * 19 + 19 ≤ i; omega), h.b.c i hi]
    unfold stF updQ
    rw [if_neg e]
/-- Harts in memory, to the cell. -/
structure Hf (b K : Nat) (a : Nat → Option Addr) (n c : Nat → Nat) (x : Nat → Nat → W.Oz) (S : Nat → Nat → S3) (w : World) : Prop where
  hs : Hs b K a n c x w
  fl : ∀ h, h < K → 0 < n h → ∃ g o, a h = some ⟨g, o, none⟩ ∧ g < w.heap.size ∧ ∀ j, j < n h → ∀ k, k < 13 → w.cell? ⟨g, o + j * 13 + k, none⟩ = some (opF (fun _ => W.oz0 (x h j).o) (fun _ => S h j) k)
theorem Hf.below {b K : Nat} {a : Nat → Option Addr} {n c : Nat → Nat} {x : Nat → Nat → W.Oz} {S : Nat → Nat → S3} {w w' : World} (h : Hf b K a n c x S w) (hb : Below w.heap.size w w') : Hf b K a n c x S w' :=
  ⟨h.hs.below hb, fun j hj h0 => by
    obtain ⟨g, o, e, hl, hc⟩ := h.fl j hj h0
    exact ⟨g, o, e, Nat.lt_of_lt_of_le hl hb.size, fun i hi k hk => (hb.cell (p := ⟨g, _, none⟩) hl).trans (hc i hi k hk)⟩⟩
def zSt : StR := ⟨W.op3 0 0 0, S3.nil, 0, 0, fun _ => 0⟩
theorem make_steps (n : Nat) (hn : n ≤ 8192) (w : World) : (Instr.makeSlice 69 (.int .i64 (n : Int)) (.int .i64 (n : Int))).run Tryd.prog w = .ok (.slice (some ⟨w.heap.size, 0, none⟩) n n) (w.alloc (.cells (madeCells (stC zSt) (n * 19)) 85)) := by
  obtain ⟨i, hi, hzz⟩ := Option.map_eq_some_iff.1 (show (Tryd.prog.info? 85).map (fun i => (i.zero, i.size, i.bytes)) = some (some (.agg (stC zSt)), 19, 168) by kernel_rfl)
  simp only [Prod.mk.injEq] at hzz
  obtain ⟨hz, hs, hb⟩ := hzz
  have hr := run_make (P := Tryd.prog) w 69 85 i _ Tryd.underlying69 hi hz .i64 .i64 n n (by omega) (by omega) (by rw [hb]; omega) (by omega)
  simp only [Int.toNat_natCast, hs] at hr
  exact hr
theorem Sb2.made (w : World) (N : Nat) (T : TypeId) : Sb2 w.heap.size N (fun _ => zSt) (w.alloc (.cells (madeCells (stC zSt) (N * 19)) T)) :=
  ⟨(Bc.made w (stC zSt) (N * 19) T).congr fun i hi => by
    have hs : (stC zSt).size = 19 := rfl
    have q := stC_get zSt (i % 19) (by omega)
    rw [hs]
    have e : stF (fun _ => zSt) i = stF (fun _ => zSt) (i % 19) := by
      unfold stF
      rw [Nat.mod_mod]
    rw [e]
    have hlt : i % 19 < (stC zSt).size := by rw [hs]; omega
    rw [getElem!_pos (stC zSt) (i % 19) hlt]
    have q' : (stC zSt)[i % 19]? = some (stF (fun _ => zSt) (i % 19)) := by rw [← q]; simp
    rw [Array.getElem?_eq_getElem hlt] at q'
    exact Option.some.inj q'⟩
end Go.Proofs.YtibohlbkkaghkaaDoor
