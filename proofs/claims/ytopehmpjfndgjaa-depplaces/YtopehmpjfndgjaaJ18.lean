/- Texts in one: DepD2. -/
import Derived.Test.YtopehmpjfndgjaaJ16
/- operation: stores. -/
namespace Go.Proofs.Ytopehmpjfndgjaa
open Go.ChangeShapes Go.WideShapes Go.ChangeAt Go.RowKit
set_option linter.unusedVariables false
set_option linter.unusedSimpArgs false

attribute [local go_sem ↓] ldO_eq stO_eq
set_option maxRecDepth 100000 in
set_option maxHeartbeats 800000 in
theorem oper_2 (i : W.I) (x : W.It) (w : World) (hk : W.okind i.op x.dn = 2) : Calls Try.prog 18 #[inV i, .agg (itC x)] w fun e w' => e = .returned (.agg (opC ⟨2, W.sz i.op, x.pa, W.cut i.op x.vl, 0, (i.op == 59) || (i.op == 60), i.aq, i.rl, 0, 0⟩ W.Sl.nil W.Sl.nil W.Sl.nil)) ∧ Below w.heap.size w w' := by
  have hK := fun w => kindOf_any i.op x.dn w
  rw [hk] at hK
  have hZ := fun w => size_any i.op w
  generalize hsz : W.sz i.op = sz at *
  clear hsz
  have hC := fun w => cut_any i.op x.vl w
  generalize hct : W.cut i.op x.vl = ct at *
  clear hct
  obtain ⟨op, rd, rs1, rs2, csr, imm, aq, rl⟩ := i
  obtain ⟨wd, pa, ld, vl, dn, tr⟩ := x
  dsimp only at *
  unfold opC W.Sl.nil
  dsimp only
  have HK : Hid _ := hK
  clear hK
  unfold inV itC
  dsimp only
  have c0 : ∀ o1 o2 (o3 : Obj), (((w.alloc o1).alloc o2).alloc o3).heap[w.heap.size]? = some o1 := fun o1 o2 o3 => (((Below.refl ((w.alloc o1).alloc o2).heap.size _).alloc (Nat.le_refl _) o3).block w.heap.size (by simp; omega)).trans (two_first w o1 o2)
  have c1 : ∀ o1 o2 (o3 : Obj), (((w.alloc o1).alloc o2).alloc o3).heap[w.heap.size + 1]? = some o2 := fun o1 o2 o3 => (((Below.refl ((w.alloc o1).alloc o2).heap.size _).alloc (Nat.le_refl _) o3).block (w.heap.size + 1) (by simp)).trans (two_last w o1 o2)
  have c2 : ∀ o1 o2 (o3 : Obj), (((w.alloc o1).alloc o2).alloc o3).heap[w.heap.size + 1 + 1]? = some o3 := fun o1 o2 o3 => by simpa using two_last (w.alloc o1) o2 o3
  have bW : ∀ o1 o2 (o3 : Obj), Below w.heap.size w (((w.alloc o1).alloc o2).alloc o3) := fun o1 o2 o3 => (((Below.refl _ _).alloc (Nat.le_refl _) _).alloc (by simp) _).alloc (by simp; omega) _
  have d0 := c0 (.cells #[.int .i64 op, .int .i64 rd, .int .i64 rs1, .int .i64 rs2, .int .i64 csr, .int .u32 imm, .bool aq, .bool rl] 47) (.cells #[.int .u32 wd, .int .u32 pa, .int .u32 ld, .int .u32 vl, .bool dn, .bool tr] 37) (.cells #[.int .i64 0, .int .i64 0, .int .u32 0, .int .u32 0, .int .u32 0, .bool false, .bool false, .bool false, .int .i64 0, .int .i64 0, .slice none 0 0, .slice none 0 0, .slice none 0 0] 32)
  have d1 := c1 (.cells #[.int .i64 op, .int .i64 rd, .int .i64 rs1, .int .i64 rs2, .int .i64 csr, .int .u32 imm, .bool aq, .bool rl] 47) (.cells #[.int .u32 wd, .int .u32 pa, .int .u32 ld, .int .u32 vl, .bool dn, .bool tr] 37) (.cells #[.int .i64 0, .int .i64 0, .int .u32 0, .int .u32 0, .int .u32 0, .bool false, .bool false, .bool false, .int .i64 0, .int .i64 0, .slice none 0 0, .slice none 0 0, .slice none 0 0] 32)
  have d2 := c2 (.cells #[.int .i64 op, .int .i64 rd, .int .i64 rs1, .int .i64 rs2, .int .i64 csr, .int .u32 imm, .bool aq, .bool rl] 47) (.cells #[.int .u32 wd, .int .u32 pa, .int .u32 ld, .int .u32 vl, .bool dn, .bool tr] 37) (.cells #[.int .i64 0, .int .i64 0, .int .u32 0, .int .u32 0, .int .u32 0, .bool false, .bool false, .bool false, .int .i64 0, .int .i64 0, .slice none 0 0, .slice none 0 0, .slice none 0 0] 32)
  have b0 := bW (.cells #[.int .i64 op, .int .i64 rd, .int .i64 rs1, .int .i64 rs2, .int .i64 csr, .int .u32 imm, .bool aq, .bool rl] 47) (.cells #[.int .u32 wd, .int .u32 pa, .int .u32 ld, .int .u32 vl, .bool dn, .bool tr] 37) (.cells #[.int .i64 0, .int .i64 0, .int .u32 0, .int .u32 0, .int .u32 0, .bool false, .bool false, .bool false, .int .i64 0, .int .i64 0, .slice none 0 0, .slice none 0 0, .slice none 0 0] 32)
  clear c0 c1 c2 bW
  have hnew : ∀ W : World, (stO ⟨W.heap.size, 0, none⟩ (.agg #[.int .i64 2, .int .i64 0, .int .u32 0, .int .u32 0, .int .u32 0, .bool false, .bool aq, .bool rl, .int .i64 0, .int .i64 0, .slice none 0 0, .slice none 0 0, .slice none 0 0])).run Try.prog (W.alloc (.cells #[.int .i64 0, .int .i64 0, .int .u32 0, .int .u32 0, .int .u32 0, .bool false, .bool false, .bool false, .int .i64 0, .int .i64 0, .slice none 0 0, .slice none 0 0, .slice none 0 0] 32)).drew = .ok () (W.alloc (.cells #[.int .i64 2, .int .i64 0, .int .u32 0, .int .u32 0, .int .u32 0, .bool false, .bool aq, .bool rl, .int .i64 0, .int .i64 0, .slice none 0 0, .slice none 0 0, .slice none 0 0] 32)).drew := fun W => stO_new W.drew _ _ rfl rfl (by simp [Value.oneCell'])
  go_enter Try.func18, Try.ntmps18
  go_wp2_with (fail)
  generalize World.alloc (World.alloc (World.alloc w _) _) _ = W0 at *
  have S0 : Oc w.heap.size op aq rl dn W0.drew := ⟨by show W0.cell? _ = _; simp [World.cell?, d0], by show W0.cell? _ = _; simp [World.cell?, d0], by show W0.cell? _ = _; simp [World.cell?, d0], by show W0.cell? _ = _; simp [World.cell?, d1]⟩
  have HS : Hid _ := S0
  have HD : Hid (_ ∧ _ ∧ _) := ⟨d0, d1, d2⟩
  clear S0 d0 d1 d2
  go_region_held3 (fun w' => w'.cell? ⟨w.heap.size, 0, none⟩ = some (.int .i64 op) ∧ w'.cell? ⟨w.heap.size, 6, none⟩ = some (.bool aq) ∧ w'.cell? ⟨w.heap.size, 7, none⟩ = some (.bool rl) ∧ w'.cell? ⟨w.heap.size + 1, 4, none⟩ = some (.bool dn))
    (first
      | exact HS.out
      | (refine Oc.alloc ?_ _; assumption)
      | with_reducible assumption)
    ((go_at_call 22; refine (HK.out _).mono ?_; rintro e w' ⟨rfl, rfl⟩))
  all_goals
    have bA : Below W0.heap.size W0 (W0.alloc (.cells #[.int .i64 2, .int .i64 0, .int .u32 0, .int .u32 0, .int .u32 0, .bool false, .bool aq, .bool rl, .int .i64 0, .int .i64 0, .slice none 0 0, .slice none 0 0, .slice none 0 0] 32)).drew := ((Below.refl _ _).alloc (Nat.le_refl _) _).drew
    have l0 := (Array.getElem?_eq_some_iff.1 HD.out.2.2).1
    have e0 := (bA.block w.heap.size (by omega)).trans HD.out.1
    have e1 := (bA.block (w.heap.size + 1) (by omega)).trans HD.out.2.1
    have eR := (bA.block (w.heap.size + 1 + 1) l0).trans HD.out.2.2
    have eO : Ob W0.heap.size #[.int .i64 2, .int .i64 0, .int .u32 0, .int .u32 0, .int .u32 0, .bool false, .bool aq, .bool rl, .int .i64 0, .int .i64 0, .slice none 0 0, .slice none 0 0, .slice none 0 0] (W0.alloc (.cells #[.int .i64 2, .int .i64 0, .int .u32 0, .int .u32 0, .int .u32 0, .bool false, .bool aq, .bool rl, .int .i64 0, .int .i64 0, .slice none 0 0, .slice none 0 0, .slice none 0 0] 32)).drew := ⟨heap_alloc_last W0 _⟩
    have B1 : Below w.heap.size w (W0.alloc (.cells #[.int .i64 2, .int .i64 0, .int .u32 0, .int .u32 0, .int .u32 0, .bool false, .bool aq, .bool rl, .int .i64 0, .int .i64 0, .slice none 0 0, .slice none 0 0, .slice none 0 0] 32)).drew := b0.trans (bA.mono b0.size)
    clear bA HD HS hnew b0
    have lR : w.heap.size + 1 + 1 < W0.heap.size := l0
    generalize World.drew (World.alloc W0 _) = W1 at *
    generalize W0.heap.size = o at *
    have i0 : W1.cell? ⟨w.heap.size, 0, none⟩ = some (.int .i64 op) := by simp [World.cell?, e0]
    have i5 : W1.cell? ⟨w.heap.size, 5, none⟩ = some (.int .u32 imm) := by simp [World.cell?, e0]
    have x1 : W1.cell? ⟨w.heap.size + 1, 1, none⟩ = some (.int .u32 pa) := by simp [World.cell?, e1]
    have x2 : W1.cell? ⟨w.heap.size + 1, 2, none⟩ = some (.int .u32 ld) := by simp [World.cell?, e1]
    have x3 : W1.cell? ⟨w.heap.size + 1, 3, none⟩ = some (.int .u32 vl) := by simp [World.cell?, e1]
    have f := eO.f
    have o0 := eO.c 0 rfl
    have o1 := eO.c 1 rfl
    have o2 := eO.c 2 rfl
    have o3 := eO.c 3 rfl
    have o4 := eO.c 4 rfl
    have o5 := eO.c 5 rfl
    have o8 := eO.c 8 rfl
    have o9 := eO.c 9 rfl
    have lo := eO.lt
    have HE : Hid (_ ∧ _) := ⟨eO, eR⟩
    clear eO eR e0 e1
    have HZ : Hid _ := hZ
    have HC : Hid _ := hC
    clear hZ hC
    have ho : w.heap.size + 1 + 1 < o := lR
    go_wp2_with (fail)
    refine (HC.out _).mono ?_
    rintro e w2 ⟨rfl, b2⟩
    have q : ∀ g j, g < o → w2.cell? ⟨g, j, none⟩ = W1.cell? ⟨g, j, none⟩ := fun g j hg => b2.cell (p := ⟨g, j, none⟩) (by show g < W1.heap.size; omega)
    have eO2 := HE.out.1.below b2
    have eR2 := (b2.block (w.heap.size + 1 + 1) (by omega)).trans HE.out.2
    have B2 := B1.trans (b2.mono (by omega))
    have i0' := (q w.heap.size 0 (by omega)).trans i0
    have x1' := (q (w.heap.size + 1) 1 (by omega)).trans x1
    clear i0 i5 x1 x2 x3 f o0 o1 o2 o3 o4 o5 o8 o9 HE B1 b2 q HC
    have i0 := i0'
    have x1 := x1'
    have B1 := B2
    have f := eO2.f
    have o1 := eO2.c 1 rfl
    have o2 := eO2.c 2 rfl
    have o3 := eO2.c 3 rfl
    have lo := eO2.lt
    have HE : Hid (_ ∧ _) := ⟨eO2, eR2⟩
    clear eO2 eR2 i0' x1' B2
    go_wp2_with (fail)
    go_region_with (go_at_call 30; refine (HZ.out _).mono ?_; rintro e w' ⟨rfl, rfl⟩)
    all_goals
      have oS : Ob o #[.int .i64 2, .int .i64 sz, .int .u32 pa, .int .u32 ct, .int .u32 0, .bool false, .bool aq, .bool rl, .int .i64 0, .int .i64 0, .slice none 0 0, .slice none 0 0, .slice none 0 0] (((w2.setCell ⟨o, 3, none⟩ (.int .u32 ct)).setCell ⟨o, 2, none⟩ (.int .u32 pa)).setCell ⟨o, 1, none⟩ (.int .i64 sz)).drew := ⟨(((HE.out.1.set 3 (.int .u32 ct)).set 2 (.int .u32 pa)).set 1 (.int .i64 sz)).out⟩
      have rS : (((w2.setCell ⟨o, 3, none⟩ (.int .u32 ct)).setCell ⟨o, 2, none⟩ (.int .u32 pa)).setCell ⟨o, 1, none⟩ (.int .i64 sz)).drew.heap[w.heap.size + 1 + 1]? = _ := (setCell_block ((setCell_block ((setCell_block (HE.out.2) _ (by show w.heap.size + 1 + 1 ≠ o; omega))) _ (by show w.heap.size + 1 + 1 ≠ o; omega))) _ (by show w.heap.size + 1 + 1 ≠ o; omega))
      have iS : (((w2.setCell ⟨o, 3, none⟩ (.int .u32 ct)).setCell ⟨o, 2, none⟩ (.int .u32 pa)).setCell ⟨o, 1, none⟩ (.int .i64 sz)).drew.cell? ⟨w.heap.size, 0, none⟩ = some (.int .i64 op) := ((World.cell?_setCell_other _ _ _ _ (by first | (simp; done) | (simp; omega))).trans (((World.cell?_setCell_other _ _ _ _ (by first | (simp; done) | (simp; omega))).trans (((World.cell?_setCell_other _ _ _ _ (by first | (simp; done) | (simp; omega))).trans (i0))))))
      have bS : Below w.heap.size w (((w2.setCell ⟨o, 3, none⟩ (.int .u32 ct)).setCell ⟨o, 2, none⟩ (.int .u32 pa)).setCell ⟨o, 1, none⟩ (.int .i64 sz)).drew := (((B1.setCell (by show w.heap.size ≤ o; omega) _).setCell (by show w.heap.size ≤ o; omega) _).setCell (by show w.heap.size ≤ o; omega) _).drew
      clear HE x1 f o1 o2 o3 i0 B1 HZ HK
      generalize World.drew (((w2.setCell ⟨o, 3, none⟩ (.int .u32 ct)).setCell ⟨o, 2, none⟩ (.int .u32 pa)).setCell ⟨o, 1, none⟩ (.int .i64 sz)) = W2 at *
      have f := oS.f
      have o5 := oS.c 5 rfl
      have L1 : ∀ b : Bool, (ldO ⟨o, 0, none⟩).run Try.prog (W2.setCell ⟨o, 5, none⟩ (.bool b)) = .ok (.agg #[.int .i64 2, .int .i64 sz, .int .u32 pa, .int .u32 ct, .int .u32 0, .bool b, .bool aq, .bool rl, .int .i64 0, .int .i64 0, .slice none 0 0, .slice none 0 0, .slice none 0 0]) (W2.setCell ⟨o, 5, none⟩ (.bool b)) := fun b => ldO_at (oS.set 5 (.bool b)).out rfl
      have rT : ∀ b : Bool, (W2.setCell ⟨o, 5, none⟩ (.bool b)).heap[w.heap.size + 1 + 1]? = _ := fun b => setCell_block rS _ (by show w.heap.size + 1 + 1 ≠ o; omega)
      have L2 : ∀ b : Bool, (stO ⟨w.heap.size + 1 + 1, 0, none⟩ (.agg #[.int .i64 2, .int .i64 sz, .int .u32 pa, .int .u32 ct, .int .u32 0, .bool b, .bool aq, .bool rl, .int .i64 0, .int .i64 0, .slice none 0 0, .slice none 0 0, .slice none 0 0])).run Try.prog (W2.setCell ⟨o, 5, none⟩ (.bool b)) = .ok () ((W2.setCell ⟨o, 5, none⟩ (.bool b)).setRow (w.heap.size + 1 + 1) #[.int .i64 2, .int .i64 sz, .int .u32 pa, .int .u32 ct, .int .u32 0, .bool b, .bool aq, .bool rl, .int .i64 0, .int .i64 0, .slice none 0 0, .slice none 0 0, .slice none 0 0]) := fun b => stO_at (rT b) rfl rfl (by simp [Value.oneCell'])
      have L3 : ∀ b : Bool, (ldO ⟨w.heap.size + 1 + 1, 0, none⟩).run Try.prog ((W2.setCell ⟨o, 5, none⟩ (.bool b)).setRow (w.heap.size + 1 + 1) #[.int .i64 2, .int .i64 sz, .int .u32 pa, .int .u32 ct, .int .u32 0, .bool b, .bool aq, .bool rl, .int .i64 0, .int .i64 0, .slice none 0 0, .slice none 0 0, .slice none 0 0]) = .ok (.agg #[.int .i64 2, .int .i64 sz, .int .u32 pa, .int .u32 ct, .int .u32 0, .bool b, .bool aq, .bool rl, .int .i64 0, .int .i64 0, .slice none 0 0, .slice none 0 0, .slice none 0 0]) ((W2.setCell ⟨o, 5, none⟩ (.bool b)).setRow (w.heap.size + 1 + 1) #[.int .i64 2, .int .i64 sz, .int .u32 pa, .int .u32 ct, .int .u32 0, .bool b, .bool aq, .bool rl, .int .i64 0, .int .i64 0, .slice none 0 0, .slice none 0 0, .slice none 0 0]) := fun b => ldO_at (setRow_heap _ _ _ _ _ _ (rT b)) rfl
      have bT : ∀ b : Bool, Below w.heap.size w ((W2.setCell ⟨o, 5, none⟩ (.bool b)).setRow (w.heap.size + 1 + 1) #[.int .i64 2, .int .i64 sz, .int .u32 pa, .int .u32 ct, .int .u32 0, .bool b, .bool aq, .bool rl, .int .i64 0, .int .i64 0, .slice none 0 0, .slice none 0 0, .slice none 0 0]) := fun b => below_over (bS.setCell (by show w.heap.size ≤ o; omega) _) (gsetRow _ _ _) (by omega) (by have := bS.size; simpa using this)
      clear oS rS rT
      have F := L3 true
      have F' := L3 false
      clear L3
      cases h59 : (op == 59)
      · cases h60 : (op == 60)
        · go_wp2
          refine bodyPost_ret (v := .agg #[.int .i64 2, .int .i64 sz, .int .u32 pa, .int .u32 ct, .int .u32 0, .bool false, .bool aq, .bool rl, .int .i64 0, .int .i64 0, .slice none 0 0, .slice none 0 0, .slice none 0 0]) (by simp [results, Try.results18, asAddr, ldO_eq, F']) rfl ⟨by rw [h59, h60]; rfl, bT false⟩
        · go_wp2
          refine bodyPost_ret (v := .agg #[.int .i64 2, .int .i64 sz, .int .u32 pa, .int .u32 ct, .int .u32 0, .bool true, .bool aq, .bool rl, .int .i64 0, .int .i64 0, .slice none 0 0, .slice none 0 0, .slice none 0 0]) (by simp [results, Try.results18, asAddr, ldO_eq, F]) rfl ⟨by rw [h59, h60]; rfl, bT true⟩
      · go_wp2
        refine bodyPost_ret (v := .agg #[.int .i64 2, .int .i64 sz, .int .u32 pa, .int .u32 ct, .int .u32 0, .bool true, .bool aq, .bool rl, .int .i64 0, .int .i64 0, .slice none 0 0, .slice none 0 0, .slice none 0 0]) (by simp [results, Try.results18, asAddr, ldO_eq, F]) rfl ⟨by rw [h59]; rfl, bT true⟩

end Go.Proofs.Ytopehmpjfndgjaa
