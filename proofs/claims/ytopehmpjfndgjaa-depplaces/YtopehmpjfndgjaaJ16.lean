/- Texts in one: DepC, DepD0. -/
import Derived.Deep.RegionWith
import Derived.Deep.RegionHeld3
import Derived.Test.YtopehmpjfndgjaaJ15
/- Which operation an instruction has: kindOf, sorts, done. -/
namespace Go.Proofs.Ytopehmpjfndgjaa
open Go.ChangeShapes Go.WideShapes Go.ChangeAt Go.RowKit
set_option linter.unusedVariables false
set_option linter.unusedSimpArgs false

namespace W
/-- An item. -/
structure It where
  wd : Int
  pa : Int
  ld : Int
  vl : Int
  dn : Bool
  tr : Bool
/-- The kind of an operation. -/
def okind (op : Int) (wr : Bool) : Int := bif op == 38 then 4 else bif kind op == 4 then 1 else bif kind op == 5 || ((op == 60) && wr) then 2 else bif (kind op == 6) && (op != 60) then 3 else 0
def srt (b : Int) : Int := bits .or .u32 (bits .and .u32 (b / 2) 1) (bits .and .u32 b 1 * 2 % 4294967296)
structure Opr where
  k : Int
  sz : Int
  ad : Int
  vl : Int
  gt : Int
  pr : Bool
  aq : Bool
  rl : Bool
  pd : Int
  sc : Int
def Opr.no : Opr := ⟨0, 0, 0, 0, 0, false, false, false, 0, 0⟩
/-- An instruction's operation, without what it hangs on. -/
def oper (i : I) (x : It) : Opr :=
  bif okind i.op x.dn == 0 then Opr.no else
  bif okind i.op x.dn == 4 then ⟨4, 0, 0, 0, 0, false, i.aq, i.rl, srt (i.imm / 16), srt i.imm⟩ else
  ⟨okind i.op x.dn, sz i.op, x.pa, bif okind i.op x.dn == 2 then cut i.op x.vl else bif okind i.op x.dn == 3 then x.vl else 0, bif okind i.op x.dn == 2 then 0 else x.ld, (i.op == 59) || (i.op == 60), i.aq, i.rl, 0, 0⟩
end W
def itC (x : W.It) : Array Value := #[.int .u32 x.wd, .int .u32 x.pa, .int .u32 x.ld, .int .u32 x.vl, .bool x.dn, .bool x.tr]
def opC (o : W.Opr) (a d c : W.Sl) : Array Value := #[.int .i64 o.k, .int .i64 o.sz, .int .u32 o.ad, .int .u32 o.vl, .int .u32 o.gt, .bool o.pr, .bool o.aq, .bool o.rl, .int .i64 o.pd, .int .i64 o.sc, .slice a.a a.n a.c, .slice d.a d.n d.c, .slice c.a c.n c.c]

set_option maxHeartbeats 800000 in
theorem kindOf_any (op : Int) (wr : Bool) (w : World) : Calls Try.prog 22 #[.int .i64 op, .bool wr] w fun e w' => e = .returned (.int .i64 (W.okind op wr)) ∧ w = w' := by
  have hk := fun w => kind_any op w
  unfold W.okind
  generalize W.kind op = K at *
  have HK : Hid (∀ w, Calls _ _ _ w _) := hk
  clear hk
  have e2 : (op != 60) = !(op == 60) := rfl
  rw [e2]
  cases h1 : (op == 38)
  case' false => cases h2 : (K == 4)
  case' false.false => cases h3 : (K == 5)
  case' false.false.false => cases h4 : (op == 60)
  case' false.false.false.true => cases wr
  case' false.false.false.false => cases h6 : (K == 6)
  case' false.false.false.true.false => cases h6 : (K == 6)
  all_goals
    go_enter Try.func22, Try.ntmps22
    go_wp2_with (fail)
    refine (HK.out _).mono ?_
    rintro e w' ⟨rfl, rfl⟩
    go_wp2
    go_ret
    exact ⟨rfl, rfl⟩

theorem sorts_any (b : Int) (w : World) : Calls Try.prog 28 #[.int .u32 b] w fun e w' => e = .returned (.int .i64 (W.srt b)) ∧ w = w' := by
  have h : ∀ x y, 0 ≤ bits .or .u32 x y ∧ bits .or .u32 x y < 4294967296 := fun x y => W.or_lt x y
  go_enter Try.func28, Try.ntmps28
  go_wp2
  go_ret
  have hw : wrap64 (W.srt b) = W.srt b := by
    have := h (bits .and .u32 (b / 2) 1) (bits .and .u32 b 1 * 2 % 4294967296)
    unfold wrap64 W.srt
    omega
  exact ⟨congrArg (fun x => Ending.returned (Value.int .i64 x)) hw, rfl⟩

namespace W
def I0 : I := ⟨0, 0, 0, 0, 0, 0, false, false⟩
def dnI (x : It) : I := bif x.tr then I0 else decI x.wd
def dnB (x : It) : Bool := bif x.tr then false else decB x.wd
end W
theorem two_last (w : World) (a b : Obj) : ((w.alloc a).alloc b).heap[w.heap.size + 1]? = some b := by simpa using heap_alloc_last (w.alloc a) b
theorem two_first (w : World) (a b : Obj) : ((w.alloc a).alloc b).heap[w.heap.size]? = some a := (((Below.refl (w.alloc a).heap.size (w.alloc a)).alloc (Nat.le_refl _) b).block w.heap.size (by simp)).trans (heap_alloc_last w a)
attribute [local go_sem ↓] ldI_eq stI_eq
set_option maxHeartbeats 800000 in
theorem done_any (x : W.It) (w : World) : Calls Try.prog 16 #[.agg (itC x)] w fun e w' => e = .returned (.tuple #[inV (W.dnI x), .bool (W.dnB x)]) ∧ Below w.heap.size w w' := by
  obtain ⟨wd, pa, ld, vl, dn, tr⟩ := x
  have hd := fun w => decode_any wd w
  unfold W.dnI W.dnB itC
  dsimp only
  unfold inV at *
  have HD : Hid (∀ w, Calls _ _ _ w _) := hd
  clear hd
  generalize W.decI wd = i at *
  generalize W.decB wd = b at *
  cases tr
  · go_enter Try.func16, Try.ntmps16
    go_wp2_with (fail)
    refine (HD.out _).mono ?_
    rintro e w1 ⟨rfl, b1⟩
    have hz := b1.size
    simp at hz
    have B1 : Below w.heap.size w w1 := (((Below.refl _ _).alloc (Nat.le_refl _) _).alloc (by simp) _).trans (b1.mono (by simp; omega))
    have hh := (b1.block (w.heap.size + 1) (by simp)).trans (two_last w _ _)
    have F1 := stI_at (CS := #[.int .i64 i.op, .int .i64 i.rd, .int .i64 i.rs1, .int .i64 i.rs2, .int .i64 i.csr, .int .u32 i.imm, .bool i.aq, .bool i.rl]) hh rfl rfl (by simp [Value.oneCell'])
    have F2 := ldI_at (setRow_heap w1 (w.heap.size + 1) _ #[.int .i64 i.op, .int .i64 i.rd, .int .i64 i.rs1, .int .i64 i.rs2, .int .i64 i.csr, .int .u32 i.imm, .bool i.aq, .bool i.rl] _ _ hh) rfl
    clear hh
    go_wp2
    refine bodyPost_ret (v := .tuple #[.agg #[.int .i64 i.op, .int .i64 i.rd, .int .i64 i.rs1, .int .i64 i.rs2, .int .i64 i.csr, .int .u32 i.imm, .bool i.aq, .bool i.rl], .bool b]) (by simp [results, Try.results16, asAddr, ldI_eq, F2]) rfl ⟨rfl, below_over B1 (gsetRow _ _ _) (by omega) B1.size⟩
  · have hh := two_last w (.cells #[.int .u32 wd, .int .u32 pa, .int .u32 ld, .int .u32 vl, .bool dn, .bool true] 37) (.cells #[.int .i64 0, .int .i64 0, .int .i64 0, .int .i64 0, .int .i64 0, .int .u32 0, .bool false, .bool false] 47)
    have F1 := stI_at (CS := #[.int .i64 0, .int .i64 0, .int .i64 0, .int .i64 0, .int .i64 0, .int .u32 0, .bool false, .bool false]) hh rfl rfl (by simp [Value.oneCell'])
    have F2 := ldI_at (setRow_heap _ (w.heap.size + 1) _ #[.int .i64 0, .int .i64 0, .int .i64 0, .int .i64 0, .int .i64 0, .int .u32 0, .bool false, .bool false] _ _ hh) rfl
    clear hh
    go_enter Try.func16, Try.ntmps16
    go_wp2
    refine bodyPost_ret (v := .tuple #[.agg #[.int .i64 0, .int .i64 0, .int .i64 0, .int .i64 0, .int .i64 0, .int .u32 0, .bool false, .bool false], .bool false]) (by simp [results, Try.results16, asAddr, ldI_eq, F2]) rfl ⟨rfl, below_over (((Below.refl _ _).alloc (Nat.le_refl _) _).alloc (by simp) _) (gsetRow _ _ _) (by omega) (by simp; omega)⟩
end Go.Proofs.Ytopehmpjfndgjaa

/- operation. -/
namespace Go.Proofs.Ytopehmpjfndgjaa
open Go.ChangeShapes Go.WideShapes Go.ChangeAt Go.RowKit
set_option linter.unusedVariables false
set_option linter.unusedSimpArgs false

theorem stO_new (w : World) (CS Z : Array Value) (hz : Z.size = 13) (hs : CS.size = 13) (ha : CS.all (fun x => x.oneCell') = true) : (stO ⟨w.heap.size, 0, none⟩ (.agg CS)).run Try.prog (w.alloc (.cells Z 32)) = .ok () (w.alloc (.cells CS 32)) := by
  rw [stO_at (heap_alloc_last w _) hz hs ha, World.setRow_alloc_new]
theorem okind_cases (op : Int) (b : Bool) : W.okind op b = 0 ∨ W.okind op b = 4 ∨ W.okind op b = 1 ∨ W.okind op b = 2 ∨ W.okind op b = 3 := by
  unfold W.okind
  cases (op == 38) <;> cases (W.kind op == 4) <;> cases (W.kind op == 5 || ((op == 60) && b)) <;> cases ((W.kind op == 6) && (op != 60)) <;> simp
abbrev zOp : Array Value := #[.int .i64 0, .int .i64 0, .int .u32 0, .int .u32 0, .int .u32 0, .bool false, .bool false, .bool false, .int .i64 0, .int .i64 0, .slice none 0 0, .slice none 0 0, .slice none 0 0]

theorem setCell_block {w : World} {b : Nat} {x : Obj} (h : w.heap[b]? = some x) {a : Addr} (v : Value) (hne : b ≠ a.block) : (w.setCell a v).heap[b]? = some x := by
  simp only [World.setCell, Array.getElem?_modify]
  rw [if_neg (fun e => hne e.symm)]
  exact h
/-- A block of an operation's thirteen cells. -/
structure Ob (g : Nat) (CS : Array Value) (w : World) : Prop where
  out : w.heap[g]? = some (.cells CS 32)
theorem Ob.lt {g : Nat} {CS : Array Value} {w : World} (h : Ob g CS w) : g < w.heap.size := (Array.getElem?_eq_some_iff.1 h.out).1
theorem Ob.c {g : Nat} {CS : Array Value} {w : World} (h : Ob g CS w) (j : Nat) {v : Value} (e : CS[j]? = some v) : w.cell? ⟨g, j, none⟩ = some v := (cell_of_row _ _ j CS _ (0, 0) h.out).trans e
theorem Ob.f {g : Nat} {CS : Array Value} {w : World} (h : Ob g CS w) (j : Nat) : w.frozen? ⟨g, j, none⟩ = false := by simp [World.frozen?, h.out]
theorem Ob.below {g : Nat} {CS : Array Value} {w w' : World} (h : Ob g CS w) (hb : Below w.heap.size w w') : Ob g CS w' := ⟨(hb.block g h.lt).trans h.out⟩
theorem Ob.set {g : Nat} {CS : Array Value} {w : World} (h : Ob g CS w) (j : Nat) (v : Value) : Ob g (CS.setIfInBounds j v) (w.setCell ⟨g, j, none⟩ v) := by
  constructor
  have e0 := h.out
  simp only [World.setCell, Array.getElem?_modify, if_true, e0, Option.map_some]
  rfl
abbrev bOp (k : Int) (aq rl : Bool) : Array Value := #[.int .i64 k, .int .i64 0, .int .u32 0, .int .u32 0, .int .u32 0, .bool false, .bool aq, .bool rl, .int .i64 0, .int .i64 0, .slice none 0 0, .slice none 0 0, .slice none 0 0]
abbrev Oc (n : Nat) (op : Int) (aq rl dn : Bool) (w' : World) : Prop := w'.cell? ⟨n, 0, none⟩ = some (.int .i64 op) ∧ w'.cell? ⟨n, 6, none⟩ = some (.bool aq) ∧ w'.cell? ⟨n, 7, none⟩ = some (.bool rl) ∧ w'.cell? ⟨n + 1, 4, none⟩ = some (.bool dn)
theorem Oc.alloc {n : Nat} {op : Int} {aq rl dn : Bool} {w : World} (h : Oc n op aq rl dn w) (o : Obj) : Oc n op aq rl dn (w.alloc o) := ⟨Lib.cell?_alloc_some o h.1, Lib.cell?_alloc_some o h.2.1, Lib.cell?_alloc_some o h.2.2.1, Lib.cell?_alloc_some o h.2.2.2⟩

attribute [local go_sem ↓] ldO_eq stO_eq
set_option maxRecDepth 100000 in
set_option maxHeartbeats 800000 in
theorem oper_0 (i : W.I) (x : W.It) (w : World) (hk : W.okind i.op x.dn = 0) : Calls Try.prog 18 #[inV i, .agg (itC x)] w fun e w' => e = .returned (.agg (opC W.Opr.no W.Sl.nil W.Sl.nil W.Sl.nil)) ∧ Below w.heap.size w w' := by
  have hK := fun w => kindOf_any i.op x.dn w
  rw [hk] at hK
  obtain ⟨op, rd, rs1, rs2, csr, imm, aq, rl⟩ := i
  obtain ⟨wd, pa, ld, vl, dn, tr⟩ := x
  dsimp only at *
  unfold opC W.Sl.nil
  dsimp only
  have HK : Hid _ := hK
  clear hK
  unfold inV itC
  dsimp only
  have c0 : ∀ o1 o2 (o3 : Obj), (((w.alloc o1).alloc o2).alloc o3).heap[w.heap.size]? = some o1 := fun o1 o2 o3 => (((Below.refl ((w.alloc o1).alloc o2).heap.size _).alloc (Nat.le_refl _) o3).block w.heap.size (by simp; omega)).trans (two_first w o1 o2)
  have c1 : ∀ o1 o2 (o3 : Obj), (((w.alloc o1).alloc o2).alloc o3).heap[w.heap.size + 1]? = some o2 := fun o1 o2 o3 => (((Below.refl ((w.alloc o1).alloc o2).heap.size _).alloc (Nat.le_refl _) o3).block (w.heap.size + 1) (by simp)).trans (two_last w o1 o2)
  have c2 : ∀ o1 o2 (o3 : Obj), (((w.alloc o1).alloc o2).alloc o3).heap[w.heap.size + 1 + 1]? = some o3 := fun o1 o2 o3 => by simpa using two_last (w.alloc o1) o2 o3
  have bW : ∀ o1 o2 (o3 : Obj), Below w.heap.size w (((w.alloc o1).alloc o2).alloc o3) := fun o1 o2 o3 => (((Below.refl _ _).alloc (Nat.le_refl _) _).alloc (by simp) _).alloc (by simp; omega) _
  have d0 := c0 (.cells #[.int .i64 op, .int .i64 rd, .int .i64 rs1, .int .i64 rs2, .int .i64 csr, .int .u32 imm, .bool aq, .bool rl] 47) (.cells #[.int .u32 wd, .int .u32 pa, .int .u32 ld, .int .u32 vl, .bool dn, .bool tr] 37) (.cells #[.int .i64 0, .int .i64 0, .int .u32 0, .int .u32 0, .int .u32 0, .bool false, .bool false, .bool false, .int .i64 0, .int .i64 0, .slice none 0 0, .slice none 0 0, .slice none 0 0] 32)
  have d1 := c1 (.cells #[.int .i64 op, .int .i64 rd, .int .i64 rs1, .int .i64 rs2, .int .i64 csr, .int .u32 imm, .bool aq, .bool rl] 47) (.cells #[.int .u32 wd, .int .u32 pa, .int .u32 ld, .int .u32 vl, .bool dn, .bool tr] 37) (.cells #[.int .i64 0, .int .i64 0, .int .u32 0, .int .u32 0, .int .u32 0, .bool false, .bool false, .bool false, .int .i64 0, .int .i64 0, .slice none 0 0, .slice none 0 0, .slice none 0 0] 32)
  have d2 := c2 (.cells #[.int .i64 op, .int .i64 rd, .int .i64 rs1, .int .i64 rs2, .int .i64 csr, .int .u32 imm, .bool aq, .bool rl] 47) (.cells #[.int .u32 wd, .int .u32 pa, .int .u32 ld, .int .u32 vl, .bool dn, .bool tr] 37) (.cells #[.int .i64 0, .int .i64 0, .int .u32 0, .int .u32 0, .int .u32 0, .bool false, .bool false, .bool false, .int .i64 0, .int .i64 0, .slice none 0 0, .slice none 0 0, .slice none 0 0] 32)
  have b0 := bW (.cells #[.int .i64 op, .int .i64 rd, .int .i64 rs1, .int .i64 rs2, .int .i64 csr, .int .u32 imm, .bool aq, .bool rl] 47) (.cells #[.int .u32 wd, .int .u32 pa, .int .u32 ld, .int .u32 vl, .bool dn, .bool tr] 37) (.cells #[.int .i64 0, .int .i64 0, .int .u32 0, .int .u32 0, .int .u32 0, .bool false, .bool false, .bool false, .int .i64 0, .int .i64 0, .slice none 0 0, .slice none 0 0, .slice none 0 0] 32)
  clear c0 c1 c2 bW
  have hnew : ∀ W : World, (stO ⟨W.heap.size, 0, none⟩ (.agg #[.int .i64 0, .int .i64 0, .int .u32 0, .int .u32 0, .int .u32 0, .bool false, .bool aq, .bool rl, .int .i64 0, .int .i64 0, .slice none 0 0, .slice none 0 0, .slice none 0 0])).run Try.prog (W.alloc (.cells #[.int .i64 0, .int .i64 0, .int .u32 0, .int .u32 0, .int .u32 0, .bool false, .bool false, .bool false, .int .i64 0, .int .i64 0, .slice none 0 0, .slice none 0 0, .slice none 0 0] 32)).drew = .ok () (W.alloc (.cells #[.int .i64 0, .int .i64 0, .int .u32 0, .int .u32 0, .int .u32 0, .bool false, .bool aq, .bool rl, .int .i64 0, .int .i64 0, .slice none 0 0, .slice none 0 0, .slice none 0 0] 32)).drew := fun W => stO_new W.drew _ _ rfl rfl (by simp [Value.oneCell'])
  go_enter Try.func18, Try.ntmps18
  go_wp2_with (fail)
  generalize World.alloc (World.alloc (World.alloc w _) _) _ = W0 at *
  have S0 : Oc w.heap.size op aq rl dn W0.drew := ⟨by show W0.cell? _ = _; simp [World.cell?, d0], by show W0.cell? _ = _; simp [World.cell?, d0], by show W0.cell? _ = _; simp [World.cell?, d0], by show W0.cell? _ = _; simp [World.cell?, d1]⟩
  have HS : Hid _ := S0
  have HD : Hid (_ ∧ _ ∧ _) := ⟨d0, d1, d2⟩
  clear S0 d0 d1 d2
  go_region_held3 (fun w' => w'.cell? ⟨w.heap.size, 0, none⟩ = some (.int .i64 op) ∧ w'.cell? ⟨w.heap.size, 6, none⟩ = some (.bool aq) ∧ w'.cell? ⟨w.heap.size, 7, none⟩ = some (.bool rl) ∧ w'.cell? ⟨w.heap.size + 1, 4, none⟩ = some (.bool dn))
    (first
      | exact HS.out
      | (refine Oc.alloc ?_ _; assumption)
      | with_reducible assumption)
    ((go_at_call 22; refine (HK.out _).mono ?_; rintro e w' ⟨rfl, rfl⟩))
  all_goals
    have bA : Below W0.heap.size W0 (W0.alloc (.cells #[.int .i64 0, .int .i64 0, .int .u32 0, .int .u32 0, .int .u32 0, .bool false, .bool aq, .bool rl, .int .i64 0, .int .i64 0, .slice none 0 0, .slice none 0 0, .slice none 0 0] 32)).drew := ((Below.refl _ _).alloc (Nat.le_refl _) _).drew
    have l0 := (Array.getElem?_eq_some_iff.1 HD.out.2.2).1
    have e0 := (bA.block w.heap.size (by omega)).trans HD.out.1
    have e1 := (bA.block (w.heap.size + 1) (by omega)).trans HD.out.2.1
    have eR := (bA.block (w.heap.size + 1 + 1) l0).trans HD.out.2.2
    have eO : Ob W0.heap.size #[.int .i64 0, .int .i64 0, .int .u32 0, .int .u32 0, .int .u32 0, .bool false, .bool aq, .bool rl, .int .i64 0, .int .i64 0, .slice none 0 0, .slice none 0 0, .slice none 0 0] (W0.alloc (.cells #[.int .i64 0, .int .i64 0, .int .u32 0, .int .u32 0, .int .u32 0, .bool false, .bool aq, .bool rl, .int .i64 0, .int .i64 0, .slice none 0 0, .slice none 0 0, .slice none 0 0] 32)).drew := ⟨heap_alloc_last W0 _⟩
    have B1 : Below w.heap.size w (W0.alloc (.cells #[.int .i64 0, .int .i64 0, .int .u32 0, .int .u32 0, .int .u32 0, .bool false, .bool aq, .bool rl, .int .i64 0, .int .i64 0, .slice none 0 0, .slice none 0 0, .slice none 0 0] 32)).drew := b0.trans (bA.mono b0.size)
    clear bA HD HS hnew b0
    have lR : w.heap.size + 1 + 1 < W0.heap.size := l0
    generalize World.drew (World.alloc W0 _) = W1 at *
    generalize W0.heap.size = o at *
    have i0 : W1.cell? ⟨w.heap.size, 0, none⟩ = some (.int .i64 op) := by simp [World.cell?, e0]
    have i5 : W1.cell? ⟨w.heap.size, 5, none⟩ = some (.int .u32 imm) := by simp [World.cell?, e0]
    have x1 : W1.cell? ⟨w.heap.size + 1, 1, none⟩ = some (.int .u32 pa) := by simp [World.cell?, e1]
    have x2 : W1.cell? ⟨w.heap.size + 1, 2, none⟩ = some (.int .u32 ld) := by simp [World.cell?, e1]
    have x3 : W1.cell? ⟨w.heap.size + 1, 3, none⟩ = some (.int .u32 vl) := by simp [World.cell?, e1]
    have f := eO.f
    have o0 := eO.c 0 rfl
    have o1 := eO.c 1 rfl
    have o2 := eO.c 2 rfl
    have o3 := eO.c 3 rfl
    have o4 := eO.c 4 rfl
    have o5 := eO.c 5 rfl
    have o8 := eO.c 8 rfl
    have o9 := eO.c 9 rfl
    have lo := eO.lt
    have HE : Hid (_ ∧ _) := ⟨eO, eR⟩
    clear eO eR e0 e1
    have F1 := stO_at (CS := #[.int .i64 0, .int .i64 0, .int .u32 0, .int .u32 0, .int .u32 0, .bool false, .bool false, .bool false, .int .i64 0, .int .i64 0, .slice none 0 0, .slice none 0 0, .slice none 0 0]) HE.out.2 rfl rfl (by simp [Value.oneCell'])
    have F2 := ldO_at (setRow_heap W1 (w.heap.size + 1 + 1) _ #[.int .i64 0, .int .i64 0, .int .u32 0, .int .u32 0, .int .u32 0, .bool false, .bool false, .bool false, .int .i64 0, .int .i64 0, .slice none 0 0, .slice none 0 0, .slice none 0 0] _ _ HE.out.2) rfl
    go_wp2
    refine bodyPost_ret (v := .agg #[.int .i64 0, .int .i64 0, .int .u32 0, .int .u32 0, .int .u32 0, .bool false, .bool false, .bool false, .int .i64 0, .int .i64 0, .slice none 0 0, .slice none 0 0, .slice none 0 0]) (by simp [results, Try.results18, asAddr, ldO_eq, F2]) rfl ⟨rfl, below_over B1 (gsetRow _ _ _) (by omega) B1.size⟩

end Go.Proofs.Ytopehmpjfndgjaa
