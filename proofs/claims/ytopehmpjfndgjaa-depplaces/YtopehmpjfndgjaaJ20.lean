/- Texts in one: DepD4, DepE, DepF, DepG. -/
import Derived.Test.YtopehmpjfndgjaaJ16
import Derived.Test.YtopehmpjfndgjaaJ17
import Derived.Test.YtopehmpjfndgjaaJ18
import Derived.Test.YtopehmpjfndgjaaJ19
/- operation: barriers. -/
namespace Go.Proofs.Ytopehmpjfndgjaa
open Go.ChangeShapes Go.WideShapes Go.ChangeAt Go.RowKit
set_option linter.unusedVariables false
set_option linter.unusedSimpArgs false

attribute [local go_sem ↓] ldO_eq stO_eq
set_option maxRecDepth 100000 in
set_option maxHeartbeats 800000 in
theorem oper_4 (i : W.I) (x : W.It) (w : World) (hk : W.okind i.op x.dn = 4) : Calls Try.prog 18 #[inV i, .agg (itC x)] w fun e w' => e = .returned (.agg (opC ⟨4, 0, 0, 0, 0, false, i.aq, i.rl, W.srt (i.imm / 16), W.srt i.imm⟩ W.Sl.nil W.Sl.nil W.Sl.nil)) ∧ Below w.heap.size w w' := by
  have hK := fun w => kindOf_any i.op x.dn w
  rw [hk] at hK
  obtain ⟨op, rd, rs1, rs2, csr, imm, aq, rl⟩ := i
  obtain ⟨wd, pa, ld, vl, dn, tr⟩ := x
  dsimp only at *
  unfold opC W.Sl.nil
  dsimp only
  have HK : Hid _ := hK
  clear hK
  unfold inV itC
  dsimp only
  have c0 : ∀ o1 o2 (o3 : Obj), (((w.alloc o1).alloc o2).alloc o3).heap[w.heap.size]? = some o1 := fun o1 o2 o3 => (((Below.refl ((w.alloc o1).alloc o2).heap.size _).alloc (Nat.le_refl _) o3).block w.heap.size (by simp; omega)).trans (two_first w o1 o2)
  have c1 : ∀ o1 o2 (o3 : Obj), (((w.alloc o1).alloc o2).alloc o3).heap[w.heap.size + 1]? = some o2 := fun o1 o2 o3 => (((Below.refl ((w.alloc o1).alloc o2).heap.size _).alloc (Nat.le_refl _) o3).block (w.heap.size + 1) (by simp)).trans (two_last w o1 o2)
  have c2 : ∀ o1 o2 (o3 : Obj), (((w.alloc o1).alloc o2).alloc o3).heap[w.heap.size + 1 + 1]? = some o3 := fun o1 o2 o3 => by simpa using two_last (w.alloc o1) o2 o3
  have bW : ∀ o1 o2 (o3 : Obj), Below w.heap.size w (((w.alloc o1).alloc o2).alloc o3) := fun o1 o2 o3 => (((Below.refl _ _).alloc (Nat.le_refl _) _).alloc (by simp) _).alloc (by simp; omega) _
  have d0 := c0 (.cells #[.int .i64 op, .int .i64 rd, .int .i64 rs1, .int .i64 rs2, .int .i64 csr, .int .u32 imm, .bool aq, .bool rl] 47) (.cells #[.int .u32 wd, .int .u32 pa, .int .u32 ld, .int .u32 vl, .bool dn, .bool tr] 37) (.cells #[.int .i64 0, .int .i64 0, .int .u32 0, .int .u32 0, .int .u32 0, .bool false, .bool false, .bool false, .int .i64 0, .int .i64 0, .slice none 0 0, .slice none 0 0, .slice none 0 0] 32)
  have d1 := c1 (.cells #[.int .i64 op, .int .i64 rd, .int .i64 rs1, .int .i64 rs2, .int .i64 csr, .int .u32 imm, .bool aq, .bool rl] 47) (.cells #[.int .u32 wd, .int .u32 pa, .int .u32 ld, .int .u32 vl, .bool dn, .bool tr] 37) (.cells #[.int .i64 0, .int .i64 0, .int .u32 0, .int .u32 0, .int .u32 0, .bool false, .bool false, .bool false, .int .i64 0, .int .i64 0, .slice none 0 0, .slice none 0 0, .slice none 0 0] 32)
  have d2 := c2 (.cells #[.int .i64 op, .int .i64 rd, .int .i64 rs1, .int .i64 rs2, .int .i64 csr, .int .u32 imm, .bool aq, .bool rl] 47) (.cells #[.int .u32 wd, .int .u32 pa, .int .u32 ld, .int .u32 vl, .bool dn, .bool tr] 37) (.cells #[.int .i64 0, .int .i64 0, .int .u32 0, .int .u32 0, .int .u32 0, .bool false, .bool false, .bool false, .int .i64 0, .int .i64 0, .slice none 0 0, .slice none 0 0, .slice none 0 0] 32)
  have b0 := bW (.cells #[.int .i64 op, .int .i64 rd, .int .i64 rs1, .int .i64 rs2, .int .i64 csr, .int .u32 imm, .bool aq, .bool rl] 47) (.cells #[.int .u32 wd, .int .u32 pa, .int .u32 ld, .int .u32 vl, .bool dn, .bool tr] 37) (.cells #[.int .i64 0, .int .i64 0, .int .u32 0, .int .u32 0, .int .u32 0, .bool false, .bool false, .bool false, .int .i64 0, .int .i64 0, .slice none 0 0, .slice none 0 0, .slice none 0 0] 32)
  clear c0 c1 c2 bW
  have hnew : ∀ W : World, (stO ⟨W.heap.size, 0, none⟩ (.agg #[.int .i64 4, .int .i64 0, .int .u32 0, .int .u32 0, .int .u32 0, .bool false, .bool aq, .bool rl, .int .i64 0, .int .i64 0, .slice none 0 0, .slice none 0 0, .slice none 0 0])).run Try.prog (W.alloc (.cells #[.int .i64 0, .int .i64 0, .int .u32 0, .int .u32 0, .int .u32 0, .bool false, .bool false, .bool false, .int .i64 0, .int .i64 0, .slice none 0 0, .slice none 0 0, .slice none 0 0] 32)).drew = .ok () (W.alloc (.cells #[.int .i64 4, .int .i64 0, .int .u32 0, .int .u32 0, .int .u32 0, .bool false, .bool aq, .bool rl, .int .i64 0, .int .i64 0, .slice none 0 0, .slice none 0 0, .slice none 0 0] 32)).drew := fun W => stO_new W.drew _ _ rfl rfl (by simp [Value.oneCell'])
  go_enter Try.func18, Try.ntmps18
  go_wp2_with (fail)
  generalize World.alloc (World.alloc (World.alloc w _) _) _ = W0 at *
  have S0 : Oc w.heap.size op aq rl dn W0.drew := ⟨by show W0.cell? _ = _; simp [World.cell?, d0], by show W0.cell? _ = _; simp [World.cell?, d0], by show W0.cell? _ = _; simp [World.cell?, d0], by show W0.cell? _ = _; simp [World.cell?, d1]⟩
  have HS : Hid _ := S0
  have HD : Hid (_ ∧ _ ∧ _) := ⟨d0, d1, d2⟩
  clear S0 d0 d1 d2
  go_region_held3 (fun w' => w'.cell? ⟨w.heap.size, 0, none⟩ = some (.int .i64 op) ∧ w'.cell? ⟨w.heap.size, 6, none⟩ = some (.bool aq) ∧ w'.cell? ⟨w.heap.size, 7, none⟩ = some (.bool rl) ∧ w'.cell? ⟨w.heap.size + 1, 4, none⟩ = some (.bool dn))
    (first
      | exact HS.out
      | (refine Oc.alloc ?_ _; assumption)
      | with_reducible assumption)
    ((go_at_call 22; refine (HK.out _).mono ?_; rintro e w' ⟨rfl, rfl⟩))
  all_goals
    have bA : Below W0.heap.size W0 (W0.alloc (.cells #[.int .i64 4, .int .i64 0, .int .u32 0, .int .u32 0, .int .u32 0, .bool false, .bool aq, .bool rl, .int .i64 0, .int .i64 0, .slice none 0 0, .slice none 0 0, .slice none 0 0] 32)).drew := ((Below.refl _ _).alloc (Nat.le_refl _) _).drew
    have l0 := (Array.getElem?_eq_some_iff.1 HD.out.2.2).1
    have e0 := (bA.block w.heap.size (by omega)).trans HD.out.1
    have e1 := (bA.block (w.heap.size + 1) (by omega)).trans HD.out.2.1
    have eR := (bA.block (w.heap.size + 1 + 1) l0).trans HD.out.2.2
    have eO : Ob W0.heap.size #[.int .i64 4, .int .i64 0, .int .u32 0, .int .u32 0, .int .u32 0, .bool false, .bool aq, .bool rl, .int .i64 0, .int .i64 0, .slice none 0 0, .slice none 0 0, .slice none 0 0] (W0.alloc (.cells #[.int .i64 4, .int .i64 0, .int .u32 0, .int .u32 0, .int .u32 0, .bool false, .bool aq, .bool rl, .int .i64 0, .int .i64 0, .slice none 0 0, .slice none 0 0, .slice none 0 0] 32)).drew := ⟨heap_alloc_last W0 _⟩
    have B1 : Below w.heap.size w (W0.alloc (.cells #[.int .i64 4, .int .i64 0, .int .u32 0, .int .u32 0, .int .u32 0, .bool false, .bool aq, .bool rl, .int .i64 0, .int .i64 0, .slice none 0 0, .slice none 0 0, .slice none 0 0] 32)).drew := b0.trans (bA.mono b0.size)
    clear bA HD HS hnew b0
    have lR : w.heap.size + 1 + 1 < W0.heap.size := l0
    generalize World.drew (World.alloc W0 _) = W1 at *
    generalize W0.heap.size = o at *
    have i0 : W1.cell? ⟨w.heap.size, 0, none⟩ = some (.int .i64 op) := by simp [World.cell?, e0]
    have i5 : W1.cell? ⟨w.heap.size, 5, none⟩ = some (.int .u32 imm) := by simp [World.cell?, e0]
    have x1 : W1.cell? ⟨w.heap.size + 1, 1, none⟩ = some (.int .u32 pa) := by simp [World.cell?, e1]
    have x2 : W1.cell? ⟨w.heap.size + 1, 2, none⟩ = some (.int .u32 ld) := by simp [World.cell?, e1]
    have x3 : W1.cell? ⟨w.heap.size + 1, 3, none⟩ = some (.int .u32 vl) := by simp [World.cell?, e1]
    have f := eO.f
    have o0 := eO.c 0 rfl
    have o1 := eO.c 1 rfl
    have o2 := eO.c 2 rfl
    have o3 := eO.c 3 rfl
    have o4 := eO.c 4 rfl
    have o5 := eO.c 5 rfl
    have o8 := eO.c 8 rfl
    have o9 := eO.c 9 rfl
    have lo := eO.lt
    have HE : Hid (_ ∧ _) := ⟨eO, eR⟩
    clear eO eR e0 e1
    have ho : w.heap.size + 1 + 1 < o := lR
    go_wp2_with (fail)
    go_region_with (go_at_call 28; refine (sorts_any _ _).mono ?_; rintro e w' ⟨rfl, rfl⟩)
    all_goals
      have oS : Ob o #[.int .i64 4, .int .i64 0, .int .u32 0, .int .u32 0, .int .u32 0, .bool false, .bool aq, .bool rl, .int .i64 (W.srt (imm / 16)), .int .i64 (W.srt imm), .slice none 0 0, .slice none 0 0, .slice none 0 0] ((W1.setCell ⟨o, 8, none⟩ (.int .i64 (W.srt (imm / 16)))).setCell ⟨o, 9, none⟩ (.int .i64 (W.srt imm))).drew := ⟨((HE.out.1.set 8 (.int .i64 (W.srt (imm / 16)))).set 9 (.int .i64 (W.srt imm))).out⟩
      have rS : ((W1.setCell ⟨o, 8, none⟩ (.int .i64 (W.srt (imm / 16)))).setCell ⟨o, 9, none⟩ (.int .i64 (W.srt imm))).drew.heap[w.heap.size + 1 + 1]? = _ := (setCell_block (setCell_block HE.out.2 _ (by show w.heap.size + 1 + 1 ≠ o; omega)) _ (by show w.heap.size + 1 + 1 ≠ o; omega))
      have bS : Below w.heap.size w ((W1.setCell ⟨o, 8, none⟩ (.int .i64 (W.srt (imm / 16)))).setCell ⟨o, 9, none⟩ (.int .i64 (W.srt imm))).drew := ((B1.setCell (by show w.heap.size ≤ o; omega) _).setCell (by show w.heap.size ≤ o; omega) _).drew
      clear HE x1 x2 x3 f o0 o1 o2 o3 o4 o5 o8 o9 i0 i5 B1 HK
      generalize World.drew ((W1.setCell ⟨o, 8, none⟩ (.int .i64 (W.srt (imm / 16)))).setCell ⟨o, 9, none⟩ (.int .i64 (W.srt imm))) = W2 at *
      have L1 := ldO_at oS.out rfl
      have L2 := stO_at (CS := #[.int .i64 4, .int .i64 0, .int .u32 0, .int .u32 0, .int .u32 0, .bool false, .bool aq, .bool rl, .int .i64 (W.srt (imm / 16)), .int .i64 (W.srt imm), .slice none 0 0, .slice none 0 0, .slice none 0 0]) rS rfl rfl (by simp [Value.oneCell'])
      have L3 := ldO_at (setRow_heap W2 (w.heap.size + 1 + 1) _ #[.int .i64 4, .int .i64 0, .int .u32 0, .int .u32 0, .int .u32 0, .bool false, .bool aq, .bool rl, .int .i64 (W.srt (imm / 16)), .int .i64 (W.srt imm), .slice none 0 0, .slice none 0 0, .slice none 0 0] _ _ rS) rfl
      have bT := below_over bS (gsetRow W2 (w.heap.size + 1 + 1) #[.int .i64 4, .int .i64 0, .int .u32 0, .int .u32 0, .int .u32 0, .bool false, .bool aq, .bool rl, .int .i64 (W.srt (imm / 16)), .int .i64 (W.srt imm), .slice none 0 0, .slice none 0 0, .slice none 0 0]) (by omega) bS.size
      clear oS rS
      go_wp2
      refine bodyPost_ret (v := .agg #[.int .i64 4, .int .i64 0, .int .u32 0, .int .u32 0, .int .u32 0, .bool false, .bool aq, .bool rl, .int .i64 (W.srt (imm / 16)), .int .i64 (W.srt imm), .slice none 0 0, .slice none 0 0, .slice none 0 0]) (by simp [results, Try.results18, asAddr, ldO_eq, L3]) rfl ⟨rfl, bT⟩

end Go.Proofs.Ytopehmpjfndgjaa

/- operation, whole; the flow in memory; result. -/
namespace Go.Proofs.Ytopehmpjfndgjaa
open Go.ChangeShapes Go.WideShapes Go.ChangeAt Go.RowKit
set_option linter.unusedVariables false
set_option linter.unusedSimpArgs false

theorem oper_any (i : W.I) (x : W.It) (w : World) : Calls Try.prog 18 #[inV i, .agg (itC x)] w fun e w' => e = .returned (.agg (opC (W.oper i x) W.Sl.nil W.Sl.nil W.Sl.nil)) ∧ Below w.heap.size w w' := by
  unfold W.oper
  rcases okind_cases i.op x.dn with h | h | h | h | h
  · have := oper_0 i x w h
    rw [h]
    exact this
  · have := oper_4 i x w h
    rw [h]
    exact this
  · have := oper_1 i x w h
    rw [h]
    exact this
  · have := oper_2 i x w h
    rw [h]
    exact this
  · have := oper_3 i x w h
    rw [h]
    exact this
theorem oper_k (i : W.I) (x : W.It) : (W.oper i x).k = W.okind i.op x.dn := by
  unfold W.oper
  rcases okind_cases i.op x.dn with h | h | h | h | h <;> rw [h] <;> rfl

/-- union of any two rising lists: one of the two, or new memory. -/
theorem union_any (s t : W.Sl) (A B : List Int) (w : World) (hs : Li s A w) (ht : Li t B w) (hA : A.Pairwise (· < ·)) (hB : B.Pairwise (· < ·)) (hz : A.length + B.length ≤ 4096) : Calls Try.prog 27 #[slV s, slV t] w fun e w' => (∃ u, e = .returned (slV u) ∧ Li u (W.uni A B) w' ∧ (u = s ∨ u = t ∨ (0 < u.n → ∃ b, u.a = some ⟨b, 0, none⟩ ∧ w.heap.size ≤ b))) ∧ Below w.heap.size w w' := by
  cases A with
  | nil => exact (union_l s t w hs).mono fun e w' ⟨h1, h2⟩ => ⟨⟨t, h1, ht.below h2, Or.inr (Or.inl rfl)⟩, h2⟩
  | cons x A =>
    cases B with
    | nil =>
      refine (union_r s t x A w hs ht).mono fun e w' ⟨h1, h2⟩ => ⟨⟨s, h1, ?_, Or.inl rfl⟩, h2⟩
      rw [W.uni_nil_r hA]
      exact hs.below h2
    | cons y B => exact (union_m s t (x :: A) (y :: B) w hs ht hA hB (by simp) (by simp) hz).mono fun e w' ⟨⟨u, h1, h2, h3⟩, h4⟩ => ⟨⟨u, h1, h2, Or.inr (Or.inr h3)⟩, h4⟩
end Go.Proofs.Ytopehmpjfndgjaa

/- The flow in memory; result. -/
namespace Go.Proofs.Ytopehmpjfndgjaa
open Go.ChangeShapes Go.WideShapes Go.ChangeAt Go.RowKit
set_option linter.unusedVariables false
set_option linter.unusedSimpArgs false

/-- The flow's block: what each register, and control, hang on; the operations. -/
structure Fb (fb : Nat) (R : Nat → W.Sl) (C O : W.Sl) (w : World) : Prop where
  lt : fb < w.heap.size
  rg : ∀ k, k < 32 → w.cell? ⟨fb, k, none⟩ = some (slV (R k))
  ct : w.cell? ⟨fb, 32, none⟩ = some (slV C)
  op : w.cell? ⟨fb, 33, none⟩ = some (slV O)
  fz : ∀ j, w.frozen? ⟨fb, j, none⟩ = false
theorem Fb.below {fb : Nat} {R : Nat → W.Sl} {C O : W.Sl} {w w' : World} (h : Fb fb R C O w) (hb : Below w.heap.size w w') : Fb fb R C O w' :=
  ⟨Nat.lt_of_lt_of_le h.lt hb.size, fun k hk => (hb.cell (p := ⟨fb, k, none⟩) h.lt).trans (h.rg k hk), (hb.cell (p := ⟨fb, 32, none⟩) h.lt).trans h.ct, (hb.cell (p := ⟨fb, 33, none⟩) h.lt).trans h.op, fun j => (hb.frozen (p := ⟨fb, j, none⟩) h.lt).trans (h.fz j)⟩
def W.upd (R : Nat → W.Sl) (k : Nat) (s : W.Sl) : Nat → W.Sl := fun j => if j = k then s else R j
theorem Fb.setR {fb : Nat} {R : Nat → W.Sl} {C O : W.Sl} {w : World} (h : Fb fb R C O w) (k : Nat) (hk : k < 32) (s : W.Sl) : Fb fb (W.upd R k s) C O (w.setCell ⟨fb, k, none⟩ (slV s)) :=
  ⟨by simpa [World.setCell] using h.lt, fun j hj => by
    unfold W.upd
    by_cases e : j = k
    · subst e
      rw [if_pos rfl]
      exact World.cell?_setCell_same _ _ _ (h.rg j hj)
    · rw [if_neg e]
      exact (World.cell?_setCell_other _ _ _ _ (by simp [e])).trans (h.rg j hj), (World.cell?_setCell_other _ _ _ _ (by first | (simp; done) | (simp; omega))).trans h.ct, (World.cell?_setCell_other _ _ _ _ (by first | (simp; done) | (simp; omega))).trans h.op, fun j => (World.frozen?_setCell _ _ _ _).trans (h.fz j)⟩
theorem Fb.setC {fb : Nat} {R : Nat → W.Sl} {C O : W.Sl} {w : World} (h : Fb fb R C O w) (s : W.Sl) : Fb fb R s O (w.setCell ⟨fb, 32, none⟩ (slV s)) :=
  ⟨by simpa [World.setCell] using h.lt, fun j hj => (World.cell?_setCell_other _ _ _ _ (by first | (simp; done) | (simp; omega))).trans (h.rg j hj), World.cell?_setCell_same _ _ _ h.ct, (World.cell?_setCell_other _ _ _ _ (by simp)).trans h.op, fun j => (World.frozen?_setCell _ _ _ _).trans (h.fz j)⟩
theorem Fb.setO {fb : Nat} {R : Nat → W.Sl} {C O : W.Sl} {w : World} (h : Fb fb R C O w) (s : W.Sl) : Fb fb R C s (w.setCell ⟨fb, 33, none⟩ (slV s)) :=
  ⟨by simpa [World.setCell] using h.lt, fun j hj => (World.cell?_setCell_other _ _ _ _ (by first | (simp; done) | (simp; omega))).trans (h.rg j hj), (World.cell?_setCell_other _ _ _ _ (by simp)).trans h.ct, World.cell?_setCell_same _ _ _ h.op, fun j => (World.frozen?_setCell _ _ _ _).trans (h.fz j)⟩

/-- What a register hangs on behind an instruction. -/
def W.resL (n : Nat) (op k : Int) (A B : List Int) : List Int := bif k != 0 then [(n : Int)] else bif W.kind op == 1 then W.uni A B else []
set_option maxHeartbeats 800000 in
theorem result_any (fb : Nat) (R : Nat → W.Sl) (C O : W.Sl) (op k : Int) (s t : W.Sl) (A B : List Int) (w : World) (hF : Fb fb R C O w) (hs : Li s A w) (ht : Li t B w) (hA : A.Pairwise (· < ·)) (hB : B.Pairwise (· < ·)) (hz : A.length + B.length ≤ 4096) :
    Calls Try.prog 24 #[.pointer (some ⟨fb, 0, none⟩), .int .i64 op, .int .i64 k, slV s, slV t] w fun e w' => (∃ u, e = .returned (slV u) ∧ Li u (W.resL O.n op k A B) w' ∧ (u = s ∨ u = t ∨ (0 < u.n → ∃ b, u.a = some ⟨b, 0, none⟩ ∧ w.heap.size ≤ b))) ∧ Below w.heap.size w w' := by
  have hU := union_any s t A B w hs ht hA hB hz
  have hK := fun w => kind_any op w
  have hop := hF.op
  have hlt := hF.lt
  clear hF hs ht
  obtain ⟨oa, on, oc⟩ := O
  unfold W.resL
  dsimp only
  generalize W.kind op = K at *
  have HH : Hid (_ ∧ _) := ⟨hU, hK⟩
  clear hU hK
  unfold slV at *
  cases h0 : (k != 0)
  · cases h1 : (K == 1)
    · go_enter Try.func24, Try.ntmps24
      go_wp2_with (fail)
      refine (HH.out.2 _).mono ?_
      rintro e w' ⟨rfl, rfl⟩
      go_wp2
      go_ret
      exact ⟨⟨W.Sl.nil, rfl, li_nil _, Or.inr (Or.inr (fun h => absurd h (by decide)))⟩, Below.refl _ _⟩
    · go_enter Try.func24, Try.ntmps24
      go_wp2_with (fail)
      refine (HH.out.2 _).mono ?_
      rintro e w' ⟨rfl, rfl⟩
      go_wp2_with (fail)
      refine HH.out.1.mono ?_
      rintro e w2 ⟨⟨u, rfl, hu⟩, b2⟩
      go_wp2
      go_ret
      exact ⟨⟨u, rfl, hu⟩, b2⟩
  · go_enter Try.func24, Try.ntmps24
    go_wp2
    go_ret
    refine ⟨⟨⟨some ⟨w.heap.size, 0, none⟩, 1, 1⟩, rfl, li_some rfl (by decide) (Nat.le_refl _) (by simp) (fun j x hx => ?_), Or.inr (Or.inr (fun _ => ⟨_, rfl, Nat.le_refl _⟩))⟩, (Below.refl _ _).alloc (Nat.le_refl _) _⟩
    match j, hx with
    | 0, hx => simp at hx; subst hx; simp [go_sem]
end Go.Proofs.Ytopehmpjfndgjaa

/- What take has in memory. -/
namespace Go.Proofs.Ytopehmpjfndgjaa
open Go.ChangeShapes Go.WideShapes Go.ChangeAt Go.RowKit
set_option linter.unusedVariables false
set_option linter.unusedSimpArgs false

def stL (a : Addr) (v : Value) : Sem Unit := storeVar 30 a v
theorem stL_eq (a : Addr) (v : Value) : storeVar 30 a v = stL a v := rfl
def stP (a : Addr) (v : Value) : Sem Unit := storeVar 25 a v
theorem stP_eq (a : Addr) (v : Value) : storeVar 25 a v = stP a v := rfl
theorem stL_at {g j : Nat} {w : World} {v : Value} (h : w.cell? ⟨g, j, none⟩ = some v) (hf : w.frozen? ⟨g, j, none⟩ = false) (a : Option Addr) (n c : Nat) : (stL ⟨g, j, none⟩ (.slice a n c)).run Try.prog w = .ok () (w.setCell ⟨g, j, none⟩ (.slice a n c)) := by
  unfold stL
  simp [go_sem, h, hf]
theorem stP_at {g j : Nat} {w : World} {v : Value} (h : w.cell? ⟨g, j, none⟩ = some v) (hf : w.frozen? ⟨g, j, none⟩ = false) (a : Option Addr) (n c : Nat) : (stP ⟨g, j, none⟩ (.slice a n c)).run Try.prog w = .ok () (w.setCell ⟨g, j, none⟩ (.slice a n c)) := by
  unfold stP
  simp [go_sem, h, hf]
/-- The instruction, the operation, the flow. -/
structure Tk (n fb : Nat) (i : W.I) (CS : Array Value) (R : Nat → W.Sl) (C O : W.Sl) (w : World) : Prop where
  i0 : w.cell? ⟨n, 0, none⟩ = some (.int .i64 i.op)
  i1 : w.cell? ⟨n, 1, none⟩ = some (.int .i64 i.rd)
  i2 : w.cell? ⟨n, 2, none⟩ = some (.int .i64 i.rs1)
  i3 : w.cell? ⟨n, 3, none⟩ = some (.int .i64 i.rs2)
  il : n < w.heap.size
  o : Ob (n + 1) CS w
  f : Fb fb R C O w
  lt : fb < n
theorem Tk.below {n fb : Nat} {i : W.I} {CS : Array Value} {R : Nat → W.Sl} {C O : W.Sl} {w w' : World} (h : Tk n fb i CS R C O w) (hb : Below w.heap.size w w') : Tk n fb i CS R C O w' :=
  ⟨(hb.cell (p := ⟨n, 0, none⟩) h.il).trans h.i0, (hb.cell (p := ⟨n, 1, none⟩) h.il).trans h.i1, (hb.cell (p := ⟨n, 2, none⟩) h.il).trans h.i2, (hb.cell (p := ⟨n, 3, none⟩) h.il).trans h.i3, Nat.lt_of_lt_of_le h.il hb.size, h.o.below hb, h.f.below hb, h.lt⟩
theorem other {w : World} {g b : Nat} {j k : Nat} {v x : Value} (h : w.cell? ⟨g, j, none⟩ = some x) (hne : g ≠ b) : (w.setCell ⟨b, k, none⟩ v).cell? ⟨g, j, none⟩ = some x := (World.cell?_setCell_other _ _ _ _ (by simp [hne])).trans h
theorem Tk.setR {n fb : Nat} {i : W.I} {CS : Array Value} {R : Nat → W.Sl} {C O : W.Sl} {w : World} (h : Tk n fb i CS R C O w) (k : Nat) (hk : k < 32) (s : W.Sl) : Tk n fb i CS (W.upd R k s) C O (w.setCell ⟨fb, k, none⟩ (slV s)) :=
  have hl := h.lt
  ⟨other h.i0 (by omega), other h.i1 (by omega), other h.i2 (by omega), other h.i3 (by omega), by simpa [World.setCell] using h.il, ⟨setCell_block h.o.out _ (by show n + 1 ≠ fb; omega)⟩, h.f.setR k hk s, h.lt⟩
theorem Tk.setC {n fb : Nat} {i : W.I} {CS : Array Value} {R : Nat → W.Sl} {C O : W.Sl} {w : World} (h : Tk n fb i CS R C O w) (s : W.Sl) : Tk n fb i CS R s O (w.setCell ⟨fb, 32, none⟩ (slV s)) :=
  have hl := h.lt
  ⟨other h.i0 (by omega), other h.i1 (by omega), other h.i2 (by omega), other h.i3 (by omega), by simpa [World.setCell] using h.il, ⟨setCell_block h.o.out _ (by show n + 1 ≠ fb; omega)⟩, h.f.setC s, h.lt⟩
theorem Tk.setO {n fb : Nat} {i : W.I} {CS : Array Value} {R : Nat → W.Sl} {C O : W.Sl} {w : World} (h : Tk n fb i CS R C O w) (s : W.Sl) : Tk n fb i CS R C s (w.setCell ⟨fb, 33, none⟩ (slV s)) :=
  have hl := h.lt
  ⟨other h.i0 (by omega), other h.i1 (by omega), other h.i2 (by omega), other h.i3 (by omega), by simpa [World.setCell] using h.il, ⟨setCell_block h.o.out _ (by show n + 1 ≠ fb; omega)⟩, h.f.setO s, h.lt⟩
theorem Fb.other {fb b k : Nat} {R : Nat → W.Sl} {C O : W.Sl} {w : World} {v : Value} (h : Fb fb R C O w) (hne : fb ≠ b) : Fb fb R C O (w.setCell ⟨b, k, none⟩ v) :=
  ⟨by simpa [World.setCell] using h.lt, fun j hj => Go.Proofs.Ytopehmpjfndgjaa.other (h.rg j hj) hne, Go.Proofs.Ytopehmpjfndgjaa.other h.ct hne, Go.Proofs.Ytopehmpjfndgjaa.other h.op hne, fun j => (World.frozen?_setCell _ _ _ _).trans (h.fz j)⟩
theorem Tk.setOp {n fb : Nat} {i : W.I} {CS : Array Value} {R : Nat → W.Sl} {C O : W.Sl} {w : World} (h : Tk n fb i CS R C O w) (j : Nat) (v : Value) : Tk n fb i (CS.setIfInBounds j v) R C O (w.setCell ⟨n + 1, j, none⟩ v) :=
  have hl := h.lt
  ⟨other h.i0 (by omega), other h.i1 (by omega), other h.i2 (by omega), other h.i3 (by omega), by simpa [World.setCell] using h.il, h.o.set j v, h.f.other (by omega), h.lt⟩
theorem Tk.start (w : World) (fb : Nat) (i : W.I) (CS : Array Value) (R : Nat → W.Sl) (C O : W.Sl) (h : Fb fb R C O w) : Tk w.heap.size fb i CS R C O ((w.alloc (.cells #[.int .i64 i.op, .int .i64 i.rd, .int .i64 i.rs1, .int .i64 i.rs2, .int .i64 i.csr, .int .u32 i.imm, .bool i.aq, .bool i.rl] 47)).alloc (.cells CS 32)) := by
  have d0 := two_first w (.cells #[.int .i64 i.op, .int .i64 i.rd, .int .i64 i.rs1, .int .i64 i.rs2, .int .i64 i.csr, .int .u32 i.imm, .bool i.aq, .bool i.rl] 47) (.cells CS 32)
  refine ⟨by simp [World.cell?, d0], by simp [World.cell?, d0], by simp [World.cell?, d0], by simp [World.cell?, d0], by simp; omega, ⟨two_last w _ _⟩, h.below (((Below.refl _ _).alloc (Nat.le_refl _) _).alloc (by simp) _), h.lt⟩
abbrev S3 (n fb rd : Nat) (op k : Int) (w' : World) : Prop := w'.cell? ⟨n, 1, none⟩ = some (.int .i64 (rd : Int)) ∧ w'.cell? ⟨n, 0, none⟩ = some (.int .i64 op) ∧ w'.cell? ⟨n + 1, 0, none⟩ = some (.int .i64 k) ∧ ∀ u : W.Sl, (stL ⟨fb, rd, none⟩ (slV u)).run Try.prog w' = .ok () (w'.setCell ⟨fb, rd, none⟩ (slV u))
theorem Tk.s3 {n fb rd : Nat} {op r1 r2 csr imm k : Int} {aq rl : Bool} {CS : Array Value} {R : Nat → W.Sl} {C O : W.Sl} {w : World} (h : Tk n fb ⟨op, (rd : Int), r1, r2, csr, imm, aq, rl⟩ CS R C O w) (hd : rd < 32) (hk : CS[0]? = some (.int .i64 k)) : S3 n fb rd op k w :=
  ⟨h.i1, h.i0, h.o.c 0 hk, fun u => stL_at (h.f.rg rd hd) (h.f.fz rd) u.a u.n u.c⟩
end Go.Proofs.Ytopehmpjfndgjaa
