/- Texts in one: HartP5, HartL8. -/
import Derived.Test.YtpgegcboaicnaaaGreatDoorK01
/- Branches; without any Go. -/
namespace Go.Proofs.YtpgegcboaicnaaaGreatDoor.W
open Go.RowKit
set_option linter.unusedVariables false
set_option linter.unusedSimpArgs false

def offs (t : Nat) : Int := (2 * (t : Int) - 16) % 4294967296
theorem offs_all : ((List.range 64).all fun t => layB 66 (offs t)) = true := by decide +kernel
theorem offs_lay (t : Nat) (ht : t < 64) : layB 66 (offs t) = true := List.all_eq_true.1 offs_all t (List.mem_range.2 ht)
theorem offs_lt (t : Nat) : Rg (offs t) := by unfold offs Rg; omega
theorem offs_sum (t : Nat) (ht : t < 64) : (16 + offs t) % 4294967296 = 2 * (t : Int) := by unfold offs; omega
def okB (x : Int) : Bool := known x && (!(shp x).rd && ((shp x).rs1 && ((shp x).rs2 && (!(shp x).csr && (((shp x).fmt == 66) && (((shp x).size == 0) && (decide (1 ≤ kind x) && (decide (kind x ≤ 3) && (!(x == 3) && !(x == 4))))))))))
theorem okB_all : [(5 : Int), 6, 7, 8, 9, 10].all okB = true := by decide +kernel
theorem okB_at (j : Int) (j0 : 0 ≤ j) (j1 : j < 6) : okB (5 + j) = true := by
  have h := List.all_eq_true.1 okB_all (5 + j)
  apply h
  simp
  omega
theorem reck_B (x : Int) (h : okB x = true) (t : Nat) (ht : t < 64) : encE (in5 x 0 1 2 (offs t)) = 0 ∧ (decide (1 ≤ kind x) && decide (kind x ≤ 3)) = true ∧ ∀ pc a b, nextV x (offs t) pc a b = bif takV x a b then (pc + offs t) % 4294967296 else (pc + 4) % 4294967296 := by
  simp only [okB, Bool.and_eq_true, Bool.not_eq_true', beq_iff_eq] at h
  obtain ⟨h1, h2, h3, h4, h5, h6, h7, h8, h9, h10, h11⟩ := h
  have hf := layIB_f (s := shp x) (fm := 66) (Or.inr (Or.inr (Or.inl rfl))) h6 h7
  refine ⟨enc_in5 h1 ?_ (range_in5 (by decide) (by decide) (by decide)) ?_, ?_, fun pc a b => ?_⟩
  · rw [hf.2.1]; exact offs_lay t ht
  · simp [same, only, in5, h2, h3, h4, h5, hf.1]
  · rw [h8, h9]; rfl
  · have e3 : (x == 3) = false := by simpa using h10
    have e4 : (x == 4) = false := by simpa using h11
    simp only [nextV, e3, e4, cond_false]
theorem rrun_bent (H : Ht) (ev : Ev) (i : I) (nx : Int) (m3 : H.G.m = 3) (p4 : H.pc % 4 = 0) (hb : H.pc + 4 ≤ H.by_) (k3 : (ev.k == 3) = false) (hd : decB ev.wd = true) (hi : decI ev.wd = i) (hk : (decide (1 ≤ kind i.op) && decide (kind i.op ≤ 3)) = true) (hn : nextV i.op i.imm H.pc (xget H i.rs1) (xget H i.rs2) = nx) (n4 : nx % 4 ≠ 0) (B U : Nat → Int) (n : Nat) (A V : Nat → Int) :
    rrun H ev 0 B U n A V = ⟨{ H with G := trap H.G 0 nx H.pc, pc := H.G.tvec }, ev, { wd0 H ev with k := 2, ca := 0, tv := nx }, Ef.no⟩ := by
  rw [rrun_dec H ev m3 p4 hb k3 hd B U n A V, hi, sdo_bent H ev i n A V hk nx hn n4]
  rfl
end Go.Proofs.YtpgegcboaicnaaaGreatDoor.W

/- The hart with two registers put; a branch that traps. -/
namespace Go.Proofs.YtpgegcboaicnaaaGreatDoor
open Go.ChangeShapes Go.WideShapes Go.ChangeAt Go.RowKit
set_option linter.unusedVariables false
set_option linter.unusedSimpArgs false

/-- The hart with two registers put. -/
def W.KB (a b : Int) : W.Ht := W.lu2 (W.lu2 (W.H0 0 4096) 1 a) 2 b
theorem KB_ready (a b : Int) (a0 : 0 ≤ a) (a1 : a < 4294967296) (b0 : 0 ≤ b) (b1 : b < 4294967296) : Ready (W.KB a b) 16 :=
  (Ready.lu2 (⟨H0_ok 0 4096, rfl, rfl, rfl⟩ : Ready (W.H0 0 4096) 0) 1 a a0 a1 (by decide) (by decide)).lu2 2 b b0 b1 (by decide) (by decide)
theorem KB_get (a b i : Int) (i0 : 0 ≤ i) (i1 : i < 32) : W.xget (W.KB a b) i = if i = 2 then b else if i = 1 then a else 0 := by
  unfold W.KB
  rw [lu_get _ 2 b i (by decide) i0 i1, lu_get _ 1 a i (by decide) i0 i1]
  have : W.xget (W.H0 0 4096) i = 0 := by
    unfold W.xget W.H0
    cases decide (i < 0) <;> cases decide (32 ≤ i) <;> rfl
  rw [this]
theorem lu2_G (H : W.Ht) (rd a : Int) : (W.lu2 H rd a).G = H.G := by
  show (W.hput (W.lu1 H rd a) rd a).G = H.G
  rw [W.hput_G]
  show (W.hput H rd (W.hi a)).G = H.G
  rw [W.hput_G]
theorem KB_G (a b : Int) : (W.KB a b).G = W.fnew 0 := by
  unfold W.KB
  rw [lu2_G, lu2_G]
  rfl
/-- An event that traps. -/
def W.evt (p x c t pa : Int) : W.Ev := ⟨2, p, x, p, pa, 0, W.Sl.nil, W.Sl.nil, c, t, false, 0, 0⟩
theorem replay_bent (c : Nat) (H : W.Ht) (i : W.I) (x p nx : Int) (E : Addr) (hH : W.HOk H) (m3 : H.G.m = 3) (hp : H.pc = p) (p4 : p % 4 = 0) (hb : p + 4 ≤ H.by_) (hE : W.encE i = 0) (hx : W.encV i = x) (hk : (decide (1 ≤ W.kind i.op) && decide (W.kind i.op ≤ 3)) = true) (hn : W.nextV i.op i.imm p (W.xget H i.rs1) (W.xget H i.rs2) = nx) (n4 : nx % 4 ≠ 0) (w : World) (k : HAt c H w) (t : Tr E w) :
    Calls Tryz.prog 14 #[.pointer (some ⟨c, 0, none⟩), .agg #[.int .i64 2, .int .u32 p, .int .u32 x, .int .u32 p, .int .u32 0, .int .u32 0, .slice none 0 0, .slice none 0 0, .int .u32 0, .int .u32 nx, .bool false, .int .i64 0, .int .i64 0]] w fun z w' => z = .returned (.tuple #[.agg #[.int .i64 0, .int .u32 0, .int .i64 0, .int .u32 0, .bool false, .bool false, .bool false], .nilIface]) ∧ HAt c { H with G := W.trap H.G 0 nx H.pc, pc := H.G.tvec } w' ∧ w.grownBy w' (some c) := by
  obtain ⟨d1, d2, d3, d4⟩ := W.word_of hE
  rw [hx] at d1 d2 d3
  clear hE hx d4
  subst hp
  have hrr := fun B U A V => W.rrun_bent H (W.evt H.pc x 0 nx 0) i nx m3 p4 hb rfl d1 d2 hk hn n4 B U 0 A V
  have hs := W.same_plain H (W.evt H.pc x 0 nx 0) 0 nx 0 0 2 false rfl rfl rfl rfl rfl rfl rfl rfl rfl (by decide)
  clear hn hk n4 d1 d2
  have := replay_y c H _ (W.evt H.pc x 0 nx 0) W.Ef.no E hH d3 rfl rfl _ hrr rfl rfl hs w k t
  simp only [evCells, efCells, W.evt, W.Ef.no, W.Sl.nil] at this
  exact this
end Go.Proofs.YtpgegcboaicnaaaGreatDoor
