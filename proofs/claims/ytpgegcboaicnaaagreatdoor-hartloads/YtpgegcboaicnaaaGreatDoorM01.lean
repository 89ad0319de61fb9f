/- Texts in one: HartP6, HartL9, HartLoads0, HartLoadsLB, HartLoadsLF, HartLoadsLO, HartLoadsSB, HartLoadsSF, HartLoadsSO, HartLoadsWalk. -/
import Derived.Deep.RegionWith
import Derived.Test.YtpgegcboaicnaaaGreatDoorJ11
import Derived.Test.YtpgegcboaicnaaaGreatDoorK01
import Derived.Test.YtpgegcboaicnaaaGreatDoorL01
/- Loads and stores in Machine; without any Go. -/
namespace Go.Proofs.YtpgegcboaicnaaaGreatDoor.W
open Go.RowKit
set_option linter.unusedVariables false
set_option linter.unusedSimpArgs false

theorem sdo_acc (H : Ht) (ev : Ev) (i : I) (n : Nat) (A V : Nat → Int) (hk : kind i.op = 4 ∨ kind i.op = 5) : sdo (fetd H ev) i n A V = sacc (fetd H ev) i (xget H i.rs1) (xget H i.rs2) n A V := by
  have h1 : (decide (1 ≤ kind i.op) && decide (kind i.op ≤ 3)) = false := by
    rcases hk with h | h <;> rw [h] <;> rfl
  have h2 : (decide (4 ≤ kind i.op) && decide (kind i.op ≤ 6)) = true := by
    rcases hk with h | h <;> rw [h] <;> rfl
  simp only [sdo, h1, h2, cond_false, cond_true]
  rfl
/-- Which causes there are. -/
def cB (x : Int) : Int := bif kind x == 4 then 4 else 6
def cF (x : Int) : Int := bif kind x == 4 then 5 else 7
theorem acc_bent (S : St) (i : I) (a b : Int) (n : Nat) (A V : Nat → Int) (ad : Int) (ha : (a + i.imm) % 4294967296 = ad) (h : ad % sz i.op ≠ 0) : sacc S i a b n A V = strap S (cB i.op) ad := by
  have h4 : (ad % sz i.op != 0) = true := by simp [h]
  simp only [sacc, ha, h4, cond_true]
  rfl
theorem acc_in (S : St) (m3 : S.h.G.m = 3) (i : I) (a b : Int) (A V : Nat → Int) (ad : Int) (ha : (a + i.imm) % 4294967296 = ad) (h : ad % sz i.op = 0) : sacc S i a b 0 A V = sacc2 { S with w := { S.w with wk := S.r.wk } } i b ad (bif kind i.op == 4 then 2 else 3) ad := by
  have h4 : (ad % sz i.op != 0) = false := by simp [h]
  have hw := walk_here S.h m3 ad (bif kind i.op == 4 then 2 else 3) A V
  simp only [sacc, ha, h4, cond_false, sacc1, hw, hereS, cond_true, beq_self_eq_true]
theorem no_ring (op pa : Int) (h : pa < 1073741824) : rings op pa = false := by
  have : ¬ 1073741824 ≤ pa := by omega
  simp [rings, this]
theorem rrun_mbent (H : Ht) (ev : Ev) (i : I) (a b ad : Int) (m3 : H.G.m = 3) (p4 : H.pc % 4 = 0) (hb : H.pc + 4 ≤ H.by_) (k3 : (ev.k == 3) = false) (hd : decB ev.wd = true) (hi : decI ev.wd = i) (hk : kind i.op = 4 ∨ kind i.op = 5) (ea : xget H i.rs1 = a) (ha : (a + i.imm) % 4294967296 = ad) (h : ad % sz i.op ≠ 0) (B U A V : Nat → Int) :
    rrun H ev 0 B U 0 A V = ⟨{ H with G := trap H.G (cB i.op) ad H.pc, pc := H.G.tvec }, ev, { wd0 H ev with k := 2, ca := cB i.op, tv := ad }, Ef.no⟩ := by
  rw [rrun_dec H ev m3 p4 hb k3 hd B U 0 A V, hi, sdo_acc H ev i 0 A V hk, ea, acc_bent (fetd H ev) i a _ 0 A V ad ha h]
  rfl
theorem rrun_mfar (H : Ht) (ev : Ev) (i : I) (a b ad : Int) (m3 : H.G.m = 3) (p4 : H.pc % 4 = 0) (hb : H.pc + 4 ≤ H.by_) (k3 : (ev.k == 3) = false) (hd : decB ev.wd = true) (hi : decI ev.wd = i) (hk : kind i.op = 4 ∨ kind i.op = 5) (ea : xget H i.rs1 = a) (ha : (a + i.imm) % 4294967296 = ad) (h : ad % sz i.op = 0) (hf : ¬ ad + sz i.op ≤ H.by_) (hl : ad < 1073741824) (hw : ev.wk = Sl.nil) (B U A V : Nat → Int) :
    rrun H ev 0 B U 0 A V = ⟨{ H with G := trap H.G (cF i.op) ad H.pc, pc := H.G.tvec }, ev, { wd0 H ev with k := 2, pa := ad, ca := cF i.op, tv := ad }, Ef.no⟩ := by
  rw [rrun_dec H ev m3 p4 hb k3 hd B U 0 A V, hi, sdo_acc H ev i 0 A V hk, ea, acc_in (fetd H ev) m3 i a _ A V ad ha h]
  have hh : hhas H ad (sz i.op) = false := by simp [hhas, hf]
  have hr := no_ring i.op ad hl
  simp only [sacc2, fetd, hh, hr, Bool.not_false, Bool.and_self, cond_true, hw]
  have hc : cause (bif kind i.op == 4 then 2 else 3) false = cF i.op := by
    rcases hk with h | h <;> unfold cF <;> rw [h] <;> rfl
  rw [hc]
  rfl
theorem rrun_store (H : Ht) (ev : Ev) (i : I) (a b ad : Int) (m3 : H.G.m = 3) (p4 : H.pc % 4 = 0) (hb : H.pc + 4 ≤ H.by_) (k3 : (ev.k == 3) = false) (hd : decB ev.wd = true) (hi : decI ev.wd = i) (hk : kind i.op = 5) (ea : xget H i.rs1 = a) (eb : xget H i.rs2 = b) (ha : (a + i.imm) % 4294967296 = ad) (h : ad % sz i.op = 0) (hf : ad + sz i.op ≤ H.by_) (hw : ev.wk = Sl.nil) (B U A V : Nat → Int) :
    rrun H ev 0 B U 0 A V = ⟨{ H with pc := (H.pc + 4) % 4294967296 }, ev, { wd0 H ev with k := 1, pa := ad }, { Ef.no with k := 2, ad := ad, sz := sz i.op, vl := cut i.op b }⟩ := by
  rw [rrun_dec H ev m3 p4 hb k3 hd B U 0 A V, hi, sdo_acc H ev i 0 A V (Or.inr hk), ea, eb, acc_in (fetd H ev) m3 i a _ A V ad ha h]
  have hh : hhas H ad (sz i.op) = true := by simp [hhas, hf]
  have q4 : (kind i.op == 4) = false := by rw [hk]; rfl
  have q5 : (kind i.op == 5) = true := by rw [hk]; rfl
  simp only [sacc2, fetd, hh, Bool.not_true, Bool.false_and, cond_false, hw, smove, q4, q5, cond_true]
  rfl
theorem rrun_load (H : Ht) (ev : Ev) (i : I) (a ad : Int) (m3 : H.G.m = 3) (p4 : H.pc % 4 = 0) (hb : H.pc + 4 ≤ H.by_) (k3 : (ev.k == 3) = false) (hd : decB ev.wd = true) (hi : decI ev.wd = i) (hk : kind i.op = 4) (ea : xget H i.rs1 = a) (ha : (a + i.imm) % 4294967296 = ad) (h : ad % sz i.op = 0) (hf : ad + sz i.op ≤ H.by_) (hw : ev.wk = Sl.nil) (hld : bitsOf ev.ld 0 (8 * sz i.op) = ev.ld) (B U A V : Nat → Int) :
    rrun H ev 0 B U 0 A V = ⟨{ hput H i.rd (ext i.op ev.ld) with pc := ((hput H i.rd (ext i.op ev.ld)).pc + 4) % 4294967296 }, ev, { wd0 H ev with k := 1, pa := ad, ld := ev.ld }, { Ef.no with k := 1, ad := ad, sz := sz i.op }⟩ := by
  rw [rrun_dec H ev m3 p4 hb k3 hd B U 0 A V, hi, sdo_acc H ev i 0 A V (Or.inl hk), ea, acc_in (fetd H ev) m3 i a _ A V ad ha h]
  have hh : hhas H ad (sz i.op) = true := by simp [hhas, hf]
  have q4 : (kind i.op == 4) = true := by rw [hk]; rfl
  simp only [sacc2, fetd, hh, Bool.not_true, Bool.false_and, cond_false, hw, smove, q4, cond_true, hld, sload]
  rfl
theorem hput_pc (H : Ht) (rd v : Int) : (hput H rd v).pc = H.pc := by unfold hput; cases (rd != 0) <;> rfl
theorem bits_twice (v z : Int) (v0 : 0 ≤ v) (v1 : v < 4294967296) (hz : z = 1 ∨ z = 2 ∨ z = 4) : bitsOf (bitsOf v 0 (8 * z)) 0 (8 * z) = bitsOf v 0 (8 * z) := by
  have hl := bitsOf_lt v 0 (8 * z)
  rcases hz with rfl | rfl | rfl
  · rw [bitsOf_eq _ 0 (8 * 1) hl.1 hl.2 (by decide) (by decide) (by decide), bitsOf_eq v 0 (8 * 1) v0 v1 (by decide) (by decide) (by decide)]
    show v / 1 % 256 / 1 % 256 = v / 1 % 256
    omega
  · rw [bitsOf_eq _ 0 (8 * 2) hl.1 hl.2 (by decide) (by decide) (by decide), bitsOf_eq v 0 (8 * 2) v0 v1 (by decide) (by decide) (by decide)]
    show v / 1 % 65536 / 1 % 65536 = v / 1 % 65536
    omega
  · rw [bitsOf_eq _ 0 (8 * 4) hl.1 hl.2 (by decide) (by decide) (by decide), bitsOf_eq v 0 (8 * 4) v0 v1 (by decide) (by decide) (by decide)]
    show v / 1 % 4294967296 / 1 % 4294967296 = v / 1 % 4294967296
    omega
/-- A load, or a store, of so many bytes. -/
structure Ldx (x z : Int) : Prop where
  kd : kind x = 4
  e : encE (in5 x 3 1 0 0) = 0
  s : sz x = z
  z3 : z = 1 ∨ z = 2 ∨ z = 4
structure Stx (x z : Int) : Prop where
  kd : kind x = 5
  e : encE (in5 x 0 1 2 0) = 0
  e3 : encE (in5 x 3 1 0 0) = 3
  s : sz x = z
  c : ∀ v, cut x v = bitsOf v 0 (8 * z)
  z3 : z = 1 ∨ z = 2 ∨ z = 4
theorem ldx_at (j : Int) (j0 : 0 ≤ j) (j1 : j < 5) : ∃ z, Ldx (11 + j) z := by
  rcases (by omega : j = 0 ∨ j = 1 ∨ j = 2 ∨ j = 3 ∨ j = 4) with rfl | rfl | rfl | rfl | rfl
  · exact ⟨1, by decide +kernel, by decide +kernel, by decide +kernel, by decide⟩
  · exact ⟨2, by decide +kernel, by decide +kernel, by decide +kernel, by decide⟩
  · exact ⟨4, by decide +kernel, by decide +kernel, by decide +kernel, by decide⟩
  · exact ⟨1, by decide +kernel, by decide +kernel, by decide +kernel, by decide⟩
  · exact ⟨2, by decide +kernel, by decide +kernel, by decide +kernel, by decide⟩
theorem stx_at (j : Int) (j0 : 0 ≤ j) (j1 : j < 3) : ∃ z, Stx (16 + j) z := by
  rcases (by omega : j = 0 ∨ j = 1 ∨ j = 2) with rfl | rfl | rfl
  · exact ⟨1, by decide +kernel, by decide +kernel, by decide +kernel, by decide +kernel, fun _ => rfl, by decide⟩
  · exact ⟨2, by decide +kernel, by decide +kernel, by decide +kernel, by decide +kernel, fun _ => rfl, by decide⟩
  · exact ⟨4, by decide +kernel, by decide +kernel, by decide +kernel, by decide +kernel, fun _ => rfl, by decide⟩
end Go.Proofs.YtpgegcboaicnaaaGreatDoor.W

/- Loads and stores of the hart with two registers put. -/
namespace Go.Proofs.YtpgegcboaicnaaaGreatDoor
open Go.ChangeShapes Go.WideShapes Go.ChangeAt Go.RowKit
set_option linter.unusedVariables false
set_option linter.unusedSimpArgs false

theorem cword_none (op rd rs1 rs2 imm : Int) (m0 : 0 ≤ imm) (m1 : imm < 4294967296) (he : W.encE (W.in5 op rd rs1 rs2 imm) = 3) (w : World) : Calls Tryz.prog 23 #[.int .i64 op, .int .i64 rd, .int .i64 rs1, .int .i64 rs2, .int .u32 imm] w fun z w' => z = .returned (.int .u32 0) ∧ Below w.heap.size w w' := by
  have hr := renc_any (W.in5 op rd rs1 rs2 imm) w m0 m1
  rw [W.encV_none (by rw [he]; decide), he] at hr
  unfold inV W.in5 at hr
  dsimp only [num] at hr
  have HR : Hid (Calls _ _ _ _ _) := hr
  clear hr he
  go_enter Tryz.func23, Tryz.ntmps23
  go_wp2_with (fail)
  refine HR.out.mono ?_
  rintro e w1 ⟨rfl, hb⟩
  go_wp2
  go_ret
  exact ⟨rfl, hb⟩

/-- An event of a place, a word, an address, and what was loaded. -/
def W.evm (p x pa ld : Int) : W.Ev := ⟨1, p, x, p, pa, ld, W.Sl.nil, W.Sl.nil, 0, 0, false, 0, 0⟩
/-- The hart behind a trap. -/
def W.tp (H : W.Ht) (c t : Int) : W.Ht := { H with G := W.trap H.G c t H.pc, pc := H.G.tvec }
theorem replay_mbent (c : Nat) (H : W.Ht) (i : W.I) (x a : Int) (E : Addr) (hH : Ready H 16) (hE : W.encE i = 0) (hx : W.encV i = x) (hk : W.kind i.op = 4 ∨ W.kind i.op = 5) (hm : i.imm = 0) (ea : W.xget H i.rs1 = a) (a0 : 0 ≤ a) (a1 : a < 5000) (h : a % W.sz i.op ≠ 0) (cb : Int) (hc : W.cB i.op = cb) (w : World) (k : HAt c H w) (t : Tr E w) :
    Calls Tryz.prog 14 #[.pointer (some ⟨c, 0, none⟩), .agg #[.int .i64 2, .int .u32 16, .int .u32 x, .int .u32 16, .int .u32 0, .int .u32 0, .slice none 0 0, .slice none 0 0, .int .u32 cb, .int .u32 a, .bool false, .int .i64 0, .int .i64 0]] w fun z w' => z = .returned (.tuple #[.agg #[.int .i64 0, .int .u32 0, .int .i64 0, .int .u32 0, .bool false, .bool false, .bool false], .nilIface]) ∧ HAt c (W.tp H cb a) w' ∧ w.grownBy w' (some c) := by
  obtain ⟨d1, d2, d3, d4⟩ := W.word_of hE
  rw [hx] at d1 d2 d3
  have hp := hH.pc
  have hrr := fun B U A V => W.rrun_mbent H (W.evt 16 x cb a 0) i a 0 a hH.m (by rw [hp]; decide) (by rw [hp, hH.by_]; decide) rfl d1 d2 hk ea (by rw [hm]; omega) h B U A V
  have hs := W.same_plain H (W.evt 16 x cb a 0) cb a 0 0 2 false rfl hp.symm hp.symm rfl rfl rfl rfl rfl rfl (by decide)
  rw [hc] at hrr
  have := replay_y c H (W.tp H cb a) (W.evt 16 x cb a 0) W.Ef.no E hH.ok d3 rfl rfl _ hrr rfl rfl hs w k t
  simp only [evCells, efCells, W.evt, W.Ef.no, W.Sl.nil] at this
  exact this
theorem replay_mfar (c : Nat) (H : W.Ht) (i : W.I) (x a : Int) (E : Addr) (hH : Ready H 16) (hE : W.encE i = 0) (hx : W.encV i = x) (hk : W.kind i.op = 4 ∨ W.kind i.op = 5) (hm : i.imm = 0) (ea : W.xget H i.rs1 = a) (a0 : 0 ≤ a) (a1 : a < 5000) (h : a % W.sz i.op = 0) (hf : ¬ a + W.sz i.op ≤ 4096) (cf : Int) (hc : W.cF i.op = cf) (w : World) (k : HAt c H w) (t : Tr E w) :
    Calls Tryz.prog 14 #[.pointer (some ⟨c, 0, none⟩), .agg #[.int .i64 2, .int .u32 16, .int .u32 x, .int .u32 16, .int .u32 a, .int .u32 0, .slice none 0 0, .slice none 0 0, .int .u32 cf, .int .u32 a, .bool false, .int .i64 0, .int .i64 0]] w fun z w' => z = .returned (.tuple #[.agg #[.int .i64 0, .int .u32 0, .int .i64 0, .int .u32 0, .bool false, .bool false, .bool false], .nilIface]) ∧ HAt c (W.tp H cf a) w' ∧ w.grownBy w' (some c) := by
  obtain ⟨d1, d2, d3, d4⟩ := W.word_of hE
  rw [hx] at d1 d2 d3
  have hp := hH.pc
  have hrr := fun B U A V => W.rrun_mfar H (W.evt 16 x cf a a) i a 0 a hH.m (by rw [hp]; decide) (by rw [hp, hH.by_]; decide) rfl d1 d2 hk ea (by rw [hm]; omega) h (by rw [hH.by_]; exact hf) (by omega) rfl B U A V
  have hs := W.same_plain H (W.evt 16 x cf a a) cf a a 0 2 false rfl hp.symm hp.symm rfl rfl rfl rfl rfl rfl (by decide)
  rw [hc] at hrr
  have := replay_y c H (W.tp H cf a) (W.evt 16 x cf a a) W.Ef.no E hH.ok d3 rfl rfl _ hrr rfl rfl hs w k t
  simp only [evCells, efCells, W.evt, W.Ef.no, W.Sl.nil] at this
  exact this
theorem replay_store (c : Nat) (H : W.Ht) (i : W.I) (x a b z vl : Int) (E : Addr) (hH : Ready H 16) (hE : W.encE i = 0) (hx : W.encV i = x) (hk : W.kind i.op = 5) (hm : i.imm = 0) (ea : W.xget H i.rs1 = a) (eb : W.xget H i.rs2 = b) (a0 : 0 ≤ a) (a1 : a < 5000) (hz : W.sz i.op = z) (h : a % z = 0) (hf : a + z ≤ 4096) (hc : W.cut i.op b = vl) (w : World) (k : HAt c H w) (t : Tr E w) :
    Calls Tryz.prog 14 #[.pointer (some ⟨c, 0, none⟩), .agg #[.int .i64 1, .int .u32 16, .int .u32 x, .int .u32 16, .int .u32 a, .int .u32 0, .slice none 0 0, .slice none 0 0, .int .u32 0, .int .u32 0, .bool false, .int .i64 0, .int .i64 0]] w fun e w' => e = .returned (.tuple #[.agg #[.int .i64 2, .int .u32 a, .int .i64 z, .int .u32 vl, .bool false, .bool false, .bool false], .nilIface]) ∧ HAt c { H with pc := (H.pc + 4) % 4294967296 } w' ∧ w.grownBy w' (some c) := by
  obtain ⟨d1, d2, d3, d4⟩ := W.word_of hE
  rw [hx] at d1 d2 d3
  have hp := hH.pc
  have hrr := fun B U A V => W.rrun_store H (W.evm 16 x a 0) i a b a hH.m (by rw [hp]; decide) (by rw [hp, hH.by_]; decide) rfl d1 d2 hk ea eb (by rw [hm]; omega) (by rw [hz]; exact h) (by rw [hz, hH.by_]; exact hf) rfl B U A V
  have hs := W.same_plain H (W.evm 16 x a 0) 0 0 a 0 1 false rfl hp.symm hp.symm rfl rfl rfl rfl rfl rfl (by decide)
  rw [hc, hz] at hrr
  have := replay_y c H _ (W.evm 16 x a 0) _ E hH.ok d3 rfl rfl _ hrr rfl rfl hs w k t
  simp only [evCells, efCells, W.evm, W.Ef.no, W.Sl.nil] at this
  exact this
theorem replay_load (c : Nat) (H : W.Ht) (i : W.I) (x a z ld : Int) (E : Addr) (hH : Ready H 16) (hE : W.encE i = 0) (hx : W.encV i = x) (hk : W.kind i.op = 4) (hm : i.imm = 0) (hrd : i.rd = 3) (ea : W.xget H i.rs1 = a) (a0 : 0 ≤ a) (a1 : a < 5000) (hz : W.sz i.op = z) (h : a % z = 0) (hf : a + z ≤ 4096) (hl : W.bitsOf ld 0 (8 * z) = ld) (v : Int) (hv : W.ext i.op ld = v) (w : World) (k : HAt c H w) (t : Tr E w) :
    Calls Tryz.prog 14 #[.pointer (some ⟨c, 0, none⟩), .agg #[.int .i64 1, .int .u32 16, .int .u32 x, .int .u32 16, .int .u32 a, .int .u32 ld, .slice none 0 0, .slice none 0 0, .int .u32 0, .int .u32 0, .bool false, .int .i64 0, .int .i64 0]] w fun e w' => e = .returned (.tuple #[.agg #[.int .i64 1, .int .u32 a, .int .i64 z, .int .u32 0, .bool false, .bool false, .bool false], .nilIface]) ∧ HAt c { W.hput H 3 v with pc := 20 } w' ∧ w.grownBy w' (some c) := by
  obtain ⟨d1, d2, d3, d4⟩ := W.word_of hE
  rw [hx] at d1 d2 d3
  have hp := hH.pc
  have hrr := fun B U A V => W.rrun_load H (W.evm 16 x a ld) i a a hH.m (by rw [hp]; decide) (by rw [hp, hH.by_]; decide) rfl d1 d2 hk ea (by rw [hm]; omega) (by rw [hz]; exact h) (by rw [hz, hH.by_]; exact hf) rfl (by rw [hz]; exact hl) B U A V
  have hs := W.same_plain H (W.evm 16 x a ld) 0 0 a ld 1 false rfl hp.symm hp.symm rfl rfl rfl rfl rfl rfl (by decide)
  rw [show W.ext i.op (W.evm 16 x a ld).ld = v from hv, hz, hrd, W.hput_pc, hp] at hrr
  have := replay_y c H _ (W.evm 16 x a ld) _ E hH.ok d3 rfl rfl _ hrr rfl rfl hs w k t
  simp only [evCells, efCells, W.evm, W.Ef.no, W.Sl.nil] at this
  exact this
end Go.Proofs.YtpgegcboaicnaaaGreatDoor

/- HartLoads, walked: what it calls. -/
namespace Go.Proofs.YtpgegcboaicnaaaGreatDoor
open Go.ChangeShapes Go.WideShapes Go.ChangeAt Go.RowKit
set_option linter.unusedVariables false
set_option linter.unusedSimpArgs false

theorem rlow_any (v z : Int) (v0 : 0 ≤ v) (v1 : v < 4294967296) (z1 : 1 ≤ z) (z4 : z ≤ 4) (w : World) : Calls Tryz.prog 30 #[.int .u32 v, .int .i64 z] w fun e w' => e = .returned (.int .u32 (W.bitsOf v 0 (8 * z))) ∧ w = w' := by
  go_enter Tryz.func30, Tryz.ntmps30
  go_wp2_with (go_at_call 69; refine (rbits_any _ _ _ _ v0 v1).mono ?_; rintro e w' ⟨rfl, rfl⟩)
  go_ret
  exact ⟨rfl, rfl⟩
theorem tp_get (H : W.Ht) (cc t : Int) (c : Nat) (w : World) (k : HAt c (W.tp H cc t) w) : (Calls Tryz.prog 28 #[.pointer (some ⟨c, 0, none⟩), .int .i64 834] w fun z w' => ∃ g, z = .returned (.tuple #[.int .u32 cc, .bool g]) ∧ w = w') ∧ Calls Tryz.prog 28 #[.pointer (some ⟨c, 0, none⟩), .int .i64 835] w fun z w' => ∃ g, z = .returned (.tuple #[.int .u32 t, .bool g]) ∧ w = w' :=
  ⟨(get_any _ c _ 834 w k).mono fun z w' ⟨h1, h2⟩ => ⟨_, h1, h2⟩, (get_any _ c _ 835 w k).mono fun z w' ⟨h1, h2⟩ => ⟨_, h1, h2⟩⟩
end Go.Proofs.YtpgegcboaicnaaaGreatDoor

/- HartLoads, walked: a way. -/
namespace Go.Proofs.YtpgegcboaicnaaaGreatDoor
open Go.ChangeShapes Go.WideShapes Go.ChangeAt Go.RowKit
set_option linter.unusedVariables false
set_option linter.unusedSimpArgs false

set_option maxRecDepth 100000 in
set_option maxHeartbeats 3200000 in
theorem hl_l_b (E : Addr) (op a v A z j : Int) (a0 : 0 ≤ a) (a1 : a < 4294967296) (v0 : 0 ≤ v) (v1 : v < 4294967296) (hA : a.tmod 5000 = A) (A0 : 0 ≤ A) (A1 : A < 5000) (j0 : 0 ≤ j) (j1 : j < 5) (hx : W.Ldx (11 + j) z)
    (hn1 : ∀ w, Calls Tryz.prog 19 #[.int .i64 op, .int .i64 5] w fun z w' => z = .returned (.int .i64 j) ∧ w = w')
    (r : Int) (hmod : A.tmod z = r) (hr : A % z ≠ 0) (hr2 : ¬ r = 0) (w : World) (hE : Tr E w) :
    Calls Tryz.prog 8 #[.int .i64 op, .int .u32 a, .int .u32 v, .bool false] w fun e w' => e = .returned (.bool true) ∧ Below w.heap.size w w' := by
  have z1 : 1 ≤ z := by rcases hx.z3 with h | h | h <;> omega
  have z4 : z ≤ 4 := by rcases hx.z3 with h | h | h <;> omega
  have hz0 : ¬ z = 0 := by omega
  have hsz := fun w => size_any (11 + j) w
  rw [hx.s] at hsz
  have hwd := fun w => cword_any (11 + j) 3 1 0 0 (by decide) (by decide) _ hx.e rfl w
  have hR := KB_ready A v A0 (by omega) v0 v1
  have e1 := KB_get A v 1 (by decide) (by decide)
  have e2 := KB_get A v 2 (by decide) (by decide)
  have e3 := KB_get A v 3 (by decide) (by decide)
  rw [if_neg (by decide), if_pos rfl] at e1
  rw [if_pos rfl] at e2
  rw [if_neg (by decide), if_neg (by decide)] at e3
  have hput := fun c w k t c0 => putl_any E c A v A0 (by omega) v0 v1 w k t c0
  rw [show W.lu2 (W.lu2 (W.H0 0 4096) 1 A) 2 v = W.KB A v from rfl] at hput
  have hN := hnew_any 0 4096
  have hF := first10_any E w hE
  have hr1 := fun c w1 => replay_mbent c (W.KB A v) (W.in5 (11 + j) 3 1 0 0) _ A E hR hx.e rfl (Or.inl hx.kd) rfl e1 A0 A1 (by show A % W.sz (11 + j) ≠ 0; rw [hx.s]; exact hr) 4 (by show W.cB (11 + j) = 4; unfold W.cB; rw [hx.kd]; rfl) w1
  have hg := fun c w1 k => tp_get (W.KB A v) 4 A c w1 k
  have hx3 : ∀ c w1, HAt c (W.tp (W.KB A v) 4 A) w1 → Calls Tryz.prog 20 #[.pointer (some ⟨c, 0, none⟩), .int .i64 3] w1 fun z w' => z = .returned (.int .u32 0) ∧ w1 = w' := fun c w1 k => x_g c (W.KB A v) 3 0 e3 w1 k.xh
  clear hR e1 e2 e3 hx
  generalize W.encV (W.in5 (11 + j) 3 1 0 0) = y at *
  generalize (W.tp (W.KB A v) 4 A : W.Ht) = h2 at *
  generalize W.KB A v = h1 at *
  generalize W.H0 0 4096 = h0 at *
  have HH : Hid (_ ∧ _ ∧ _ ∧ _ ∧ _ ∧ _ ∧ _) := ⟨hF, hn1, hsz, hN, hput, hwd, hr1⟩
  have HG : Hid (_ ∧ _) := ⟨hg, hx3⟩
  have hw0 := hE.lt
  have HE : Hid (Tr E w) := hE
  clear hE hF hn1 hsz hN hput hwd hr1 hg hx3 hr
  go_enter Tryz.func8, Tryz.ntmps8
  go_wp2_with (fail)
  refine HH.out.1.mono ?_
  rintro e w1 ⟨rfl, B1⟩
  go_wp2_with (fail)
  refine (HH.out.2.1 _).mono ?_
  rintro e w' ⟨rfl, rfl⟩
  go_wp2_with (fail)
  refine (HH.out.2.2.1 _).mono ?_
  rintro e w' ⟨rfl, rfl⟩
  go_wp2_with (fail)
  refine (HH.out.2.2.2.1 _).mono ?_
  rintro e w2 ⟨c, hc, rfl, k2, b2⟩
  have S2 := Hb.new (HE.out.below B1) hc k2 b2
  clear k2 b2
  have c0 : 0 < c := by have := S2.n0; omega
  go_wp2_with (fail)
  refine (HH.out.2.2.2.2.1 c _ S2.k S2.t c0).mono ?_
  rintro e w3 ⟨rfl, k3, g3⟩
  have S3 := S2.step k3 g3
  clear S2 k3 g3
  go_wp2_with (fail)
  refine (HH.out.2.2.2.2.2.1 _).mono ?_
  rintro e w4 ⟨rfl, b4⟩
  have S4 := S3.below b4
  clear S3 b4
  go_wp2_with (fail)
  refine (HH.out.2.2.2.2.2.2 c _ (S4.alloc _).k (S4.alloc _).t).mono ?_
  rintro e w5 ⟨rfl, k5, g5⟩
  have S5 := (S4.alloc _).step k5 g5
  have ev5 := (g5.block w4.heap.size (by simp) (by have := S4.k.lt; simp; omega)).trans (heap_alloc_last w4 _)
  have ll : w4.heap.size < w5.heap.size := (Array.getElem?_eq_some_iff.1 ev5).1
  have ek : w5.cell? ⟨w4.heap.size, 0, none⟩ = some (.int .i64 2) := by simp [World.cell?, ev5]
  have ec : w5.cell? ⟨w4.heap.size, 8, none⟩ = some (.int .u32 4) := by simp [World.cell?, ev5]
  have el : w5.cell? ⟨w4.heap.size, 5, none⟩ = some (.int .u32 0) := by simp [World.cell?, ev5]
  clear k5 g5 ev5 S4
  have hl5 := S5.k.lt
  generalize w4.heap.size = l4 at *
  go_wp2_with (fail)
  refine (HG.out.1 c _ (S5.alloc _).k).1.mono ?_
  rintro e w' ⟨g, rfl, rfl⟩
  go_wp2_with (fail)
  refine (HG.out.1 c _ (S5.alloc _).k).2.mono ?_
  rintro e w' ⟨g', rfl, rfl⟩
  go_wp2_with (fail)
  refine (HG.out.2 c _ (S5.alloc _).k).mono ?_
  rintro e w' ⟨rfl, rfl⟩
  go_wp2
  go_ret
  exact ⟨rfl, B1.trans ((S5.alloc _).b.mono B1.size)⟩
end Go.Proofs.YtpgegcboaicnaaaGreatDoor

/- HartLoads, walked: a way. -/
namespace Go.Proofs.YtpgegcboaicnaaaGreatDoor
open Go.ChangeShapes Go.WideShapes Go.ChangeAt Go.RowKit
set_option linter.unusedVariables false
set_option linter.unusedSimpArgs false

set_option maxRecDepth 100000 in
set_option maxHeartbeats 3200000 in
theorem hl_l_f (E : Addr) (op a v A z j : Int) (a0 : 0 ≤ a) (a1 : a < 4294967296) (v0 : 0 ≤ v) (v1 : v < 4294967296) (hA : a.tmod 5000 = A) (A0 : 0 ≤ A) (A1 : A < 5000) (j0 : 0 ≤ j) (j1 : j < 5) (hx : W.Ldx (11 + j) z)
    (hn1 : ∀ w, Calls Tryz.prog 19 #[.int .i64 op, .int .i64 5] w fun z w' => z = .returned (.int .i64 j) ∧ w = w')
    (hmod : A.tmod z = 0) (hr : A % z = 0) (hlt : 4096 < A + z) (w : World) (hE : Tr E w) :
    Calls Tryz.prog 8 #[.int .i64 op, .int .u32 a, .int .u32 v, .bool false] w fun e w' => e = .returned (.bool true) ∧ Below w.heap.size w w' := by
  have z1 : 1 ≤ z := by rcases hx.z3 with h | h | h <;> omega
  have z4 : z ≤ 4 := by rcases hx.z3 with h | h | h <;> omega
  have hz0 : ¬ z = 0 := by omega
  have hsz := fun w => size_any (11 + j) w
  rw [hx.s] at hsz
  have hwd := fun w => cword_any (11 + j) 3 1 0 0 (by decide) (by decide) _ hx.e rfl w
  have hR := KB_ready A v A0 (by omega) v0 v1
  have e1 := KB_get A v 1 (by decide) (by decide)
  have e2 := KB_get A v 2 (by decide) (by decide)
  have e3 := KB_get A v 3 (by decide) (by decide)
  rw [if_neg (by decide), if_pos rfl] at e1
  rw [if_pos rfl] at e2
  rw [if_neg (by decide), if_neg (by decide)] at e3
  have hput := fun c w k t c0 => putl_any E c A v A0 (by omega) v0 v1 w k t c0
  rw [show W.lu2 (W.lu2 (W.H0 0 4096) 1 A) 2 v = W.KB A v from rfl] at hput
  have hN := hnew_any 0 4096
  have hF := first10_any E w hE
  have hr1 := fun c w1 => replay_mfar c (W.KB A v) (W.in5 (11 + j) 3 1 0 0) _ A E hR hx.e rfl (Or.inl hx.kd) rfl e1 A0 A1 (by show A % W.sz (11 + j) = 0; rw [hx.s]; exact hr) (by show ¬ A + W.sz (11 + j) ≤ 4096; rw [hx.s]; omega) 5 (by show W.cF (11 + j) = 5; unfold W.cF; rw [hx.kd]; rfl) w1
  have hg := fun c w1 k => tp_get (W.KB A v) 5 A c w1 k
  have hx3 : ∀ c w1, HAt c (W.tp (W.KB A v) 5 A) w1 → Calls Tryz.prog 20 #[.pointer (some ⟨c, 0, none⟩), .int .i64 3] w1 fun z w' => z = .returned (.int .u32 0) ∧ w1 = w' := fun c w1 k => x_g c (W.KB A v) 3 0 e3 w1 k.xh
  clear hR e1 e2 e3 hx
  generalize W.encV (W.in5 (11 + j) 3 1 0 0) = y at *
  generalize (W.tp (W.KB A v) 5 A : W.Ht) = h2 at *
  generalize W.KB A v = h1 at *
  generalize W.H0 0 4096 = h0 at *
  have HH : Hid (_ ∧ _ ∧ _ ∧ _ ∧ _ ∧ _ ∧ _) := ⟨hF, hn1, hsz, hN, hput, hwd, hr1⟩
  have HG : Hid (_ ∧ _) := ⟨hg, hx3⟩
  have hw0 := hE.lt
  have HE : Hid (Tr E w) := hE
  clear hE hF hn1 hsz hN hput hwd hr1 hg hx3 hr
  go_enter Tryz.func8, Tryz.ntmps8
  go_wp2_with (fail)
  refine HH.out.1.mono ?_
  rintro e w1 ⟨rfl, B1⟩
  go_wp2_with (fail)
  refine (HH.out.2.1 _).mono ?_
  rintro e w' ⟨rfl, rfl⟩
  go_wp2_with (fail)
  refine (HH.out.2.2.1 _).mono ?_
  rintro e w' ⟨rfl, rfl⟩
  go_wp2_with (fail)
  refine (HH.out.2.2.2.1 _).mono ?_
  rintro e w2 ⟨c, hc, rfl, k2, b2⟩
  have S2 := Hb.new (HE.out.below B1) hc k2 b2
  clear k2 b2
  have c0 : 0 < c := by have := S2.n0; omega
  go_wp2_with (fail)
  refine (HH.out.2.2.2.2.1 c _ S2.k S2.t c0).mono ?_
  rintro e w3 ⟨rfl, k3, g3⟩
  have S3 := S2.step k3 g3
  clear S2 k3 g3
  go_wp2_with (fail)
  refine (HH.out.2.2.2.2.2.1 _).mono ?_
  rintro e w4 ⟨rfl, b4⟩
  have S4 := S3.below b4
  clear S3 b4
  go_wp2_with (fail)
  refine (HH.out.2.2.2.2.2.2 c _ (S4.alloc _).k (S4.alloc _).t).mono ?_
  rintro e w5 ⟨rfl, k5, g5⟩
  have S5 := (S4.alloc _).step k5 g5
  have ev5 := (g5.block w4.heap.size (by simp) (by have := S4.k.lt; simp; omega)).trans (heap_alloc_last w4 _)
  have ll : w4.heap.size < w5.heap.size := (Array.getElem?_eq_some_iff.1 ev5).1
  have ek : w5.cell? ⟨w4.heap.size, 0, none⟩ = some (.int .i64 2) := by simp [World.cell?, ev5]
  have ec : w5.cell? ⟨w4.heap.size, 8, none⟩ = some (.int .u32 5) := by simp [World.cell?, ev5]
  have el : w5.cell? ⟨w4.heap.size, 5, none⟩ = some (.int .u32 0) := by simp [World.cell?, ev5]
  clear k5 g5 ev5 S4
  have hl5 := S5.k.lt
  generalize w4.heap.size = l4 at *
  go_wp2_with (fail)
  refine (HG.out.1 c _ (S5.alloc _).k).1.mono ?_
  rintro e w' ⟨g, rfl, rfl⟩
  go_wp2_with (fail)
  refine (HG.out.1 c _ (S5.alloc _).k).2.mono ?_
  rintro e w' ⟨g', rfl, rfl⟩
  go_wp2_with (fail)
  refine (HG.out.2 c _ (S5.alloc _).k).mono ?_
  rintro e w' ⟨rfl, rfl⟩
  go_wp2
  go_ret
  exact ⟨rfl, B1.trans ((S5.alloc _).b.mono B1.size)⟩
end Go.Proofs.YtpgegcboaicnaaaGreatDoor

/- HartLoads, walked: a way. -/
namespace Go.Proofs.YtpgegcboaicnaaaGreatDoor
open Go.ChangeShapes Go.WideShapes Go.ChangeAt Go.RowKit
set_option linter.unusedVariables false
set_option linter.unusedSimpArgs false

set_option maxRecDepth 100000 in
set_option maxHeartbeats 3200000 in
theorem hl_l_o (E : Addr) (op a v A z j : Int) (a0 : 0 ≤ a) (a1 : a < 4294967296) (v0 : 0 ≤ v) (v1 : v < 4294967296) (hA : a.tmod 5000 = A) (A0 : 0 ≤ A) (A1 : A < 5000) (j0 : 0 ≤ j) (j1 : j < 5) (hx : W.Ldx (11 + j) z)
    (hn1 : ∀ w, Calls Tryz.prog 19 #[.int .i64 op, .int .i64 5] w fun z w' => z = .returned (.int .i64 j) ∧ w = w')
    (hmod : A.tmod z = 0) (hr : A % z = 0) (hge : A + z ≤ 4096) (w : World) (hE : Tr E w) :
    Calls Tryz.prog 8 #[.int .i64 op, .int .u32 a, .int .u32 v, .bool false] w fun e w' => e = .returned (.bool true) ∧ Below w.heap.size w w' := by
  have z1 : 1 ≤ z := by rcases hx.z3 with h | h | h <;> omega
  have z4 : z ≤ 4 := by rcases hx.z3 with h | h | h <;> omega
  have hz0 : ¬ z = 0 := by omega
  have hsz := fun w => size_any (11 + j) w
  rw [hx.s] at hsz
  have hwd := fun w => cword_any (11 + j) 3 1 0 0 (by decide) (by decide) _ hx.e rfl w
  have hR := KB_ready A v A0 (by omega) v0 v1
  have e1 := KB_get A v 1 (by decide) (by decide)
  have e2 := KB_get A v 2 (by decide) (by decide)
  have e3 := KB_get A v 3 (by decide) (by decide)
  rw [if_neg (by decide), if_pos rfl] at e1
  rw [if_pos rfl] at e2
  rw [if_neg (by decide), if_neg (by decide)] at e3
  have hput := fun c w k t c0 => putl_any E c A v A0 (by omega) v0 v1 w k t c0
  rw [show W.lu2 (W.lu2 (W.H0 0 4096) 1 A) 2 v = W.KB A v from rfl] at hput
  have hN := hnew_any 0 4096
  have hF := first10_any E w hE
  have hr1 := fun c w1 => replay_load c (W.KB A v) (W.in5 (11 + j) 3 1 0 0) _ A z (W.bitsOf v 0 (8 * z)) E hR hx.e rfl hx.kd rfl rfl e1 A0 A1 hx.s hr hge (W.bits_twice v z v0 v1 hx.z3) _ rfl w1
  rw [show ((W.in5 (11 + j) 3 1 0 0)).op = 11 + j from rfl] at hr1
  have hext := fun w => ext_any (11 + j) (W.bitsOf v 0 (8 * z)) w
  have hlow := fun w => rlow_any v z v0 v1 z1 z4 w
  have x3 := W.xget_put (W.KB A v) 3 (W.ext (11 + j) (W.bitsOf v 0 (8 * z))) 20 3 (by decide) (by decide)
  rw [if_pos (by decide)] at x3
  have hx3 : ∀ c w1, HAt c { W.hput (W.KB A v) 3 (W.ext (11 + j) (W.bitsOf v 0 (8 * z))) with pc := 20 } w1 → Calls Tryz.prog 20 #[.pointer (some ⟨c, 0, none⟩), .int .i64 3] w1 fun e w' => e = .returned (.int .u32 (W.ext (11 + j) (W.bitsOf v 0 (8 * z)))) ∧ w1 = w' := fun c w1 k => x_g c _ 3 _ x3 w1 k.xh
  clear x3
  clear hR e1 e2 e3 hx
  generalize W.encV (W.in5 (11 + j) 3 1 0 0) = y at *
  generalize ({ W.hput (W.KB A v) 3 (W.ext (11 + j) (W.bitsOf v 0 (8 * z))) with pc := 20 } : W.Ht) = h2 at *
  generalize W.ext (11 + j) (W.bitsOf v 0 (8 * z)) = xv at *
  generalize W.bitsOf v 0 (8 * z) = lv at *
  generalize W.KB A v = h1 at *
  generalize W.H0 0 4096 = h0 at *
  have HH : Hid (_ ∧ _ ∧ _ ∧ _ ∧ _ ∧ _ ∧ _) := ⟨hF, hn1, hsz, hN, hput, hwd, hr1⟩
  have HG : Hid (_ ∧ _ ∧ _) := ⟨hlow, hx3, hext⟩
  have hw0 := hE.lt
  have HE : Hid (Tr E w) := hE
  clear hE hF hn1 hsz hN hput hwd hr1 hlow hx3 hext hr
  go_enter Tryz.func8, Tryz.ntmps8
  go_wp2_with (fail)
  refine HH.out.1.mono ?_
  rintro e w1 ⟨rfl, B1⟩
  go_wp2_with (fail)
  refine (HH.out.2.1 _).mono ?_
  rintro e w' ⟨rfl, rfl⟩
  go_wp2_with (fail)
  refine (HH.out.2.2.1 _).mono ?_
  rintro e w' ⟨rfl, rfl⟩
  go_wp2_with (fail)
  refine (HH.out.2.2.2.1 _).mono ?_
  rintro e w2 ⟨c, hc, rfl, k2, b2⟩
  have S2 := Hb.new (HE.out.below B1) hc k2 b2
  clear k2 b2
  have c0 : 0 < c := by have := S2.n0; omega
  go_wp2_with (fail)
  refine (HH.out.2.2.2.2.1 c _ S2.k S2.t c0).mono ?_
  rintro e w3 ⟨rfl, k3, g3⟩
  have S3 := S2.step k3 g3
  clear S2 k3 g3
  go_wp2_with (fail)
  refine (HH.out.2.2.2.2.2.1 _).mono ?_
  rintro e w4 ⟨rfl, b4⟩
  have S4 := S3.below b4
  clear S3 b4
  go_wp2_with (fail)
  refine (HG.out.1 _).mono ?_
  rintro e w' ⟨rfl, rfl⟩
  go_wp2_with (fail)
  refine (HH.out.2.2.2.2.2.2 c _ (S4.alloc _).k (S4.alloc _).t).mono ?_
  rintro e w5 ⟨rfl, k5, g5⟩
  have S5 := (S4.alloc _).step k5 g5
  have ev5 := (g5.block w4.heap.size (by simp) (by have := S4.k.lt; simp; omega)).trans (heap_alloc_last w4 _)
  have ll : w4.heap.size < w5.heap.size := (Array.getElem?_eq_some_iff.1 ev5).1
  have ek : w5.cell? ⟨w4.heap.size, 0, none⟩ = some (.int .i64 1) := by simp [World.cell?, ev5]
  have ec : w5.cell? ⟨w4.heap.size, 8, none⟩ = some (.int .u32 0) := by simp [World.cell?, ev5]
  have el : w5.cell? ⟨w4.heap.size, 5, none⟩ = some (.int .u32 lv) := by simp [World.cell?, ev5]
  clear k5 g5 ev5 S4
  have hl5 := S5.k.lt
  generalize w4.heap.size = l4 at *
  go_wp2_with (fail)
  go_region_with (first | (go_at_call 20; refine (HG.out.2.1 c _ (S5.alloc _).drew.k).mono ?_; rintro e w' ⟨rfl, rfl⟩) | (go_at_call 31; refine (HG.out.2.2 _).mono ?_; rintro e w6 ⟨rfl, b6⟩))
  all_goals (go_wp2; go_ret; exact ⟨rfl, B1.trans (((S5.alloc _).drew.below b6).b.mono B1.size)⟩)
end Go.Proofs.YtpgegcboaicnaaaGreatDoor

/- HartLoads, walked: a way. -/
namespace Go.Proofs.YtpgegcboaicnaaaGreatDoor
open Go.ChangeShapes Go.WideShapes Go.ChangeAt Go.RowKit
set_option linter.unusedVariables false
set_option linter.unusedSimpArgs false

set_option maxRecDepth 100000 in
set_option maxHeartbeats 3200000 in
theorem hl_s_b (E : Addr) (op a v A z j jj : Int) (J0 : 0 ≤ jj) (J1 : jj < 5) (a0 : 0 ≤ a) (a1 : a < 4294967296) (v0 : 0 ≤ v) (v1 : v < 4294967296) (hA : a.tmod 5000 = A) (A0 : 0 ≤ A) (A1 : A < 5000) (j0 : 0 ≤ j) (j1 : j < 3) (hx : W.Stx (16 + j) z)
    (hn1 : ∀ w, Calls Tryz.prog 19 #[.int .i64 op, .int .i64 5] w fun z w' => z = .returned (.int .i64 jj) ∧ w = w') (hn2 : ∀ w, Calls Tryz.prog 19 #[.int .i64 op, .int .i64 3] w fun z w' => z = .returned (.int .i64 j) ∧ w = w')
    (r : Int) (hmod : A.tmod z = r) (hr : A % z ≠ 0) (hr2 : ¬ r = 0) (w : World) (hE : Tr E w) :
    Calls Tryz.prog 8 #[.int .i64 op, .int .u32 a, .int .u32 v, .bool true] w fun e w' => e = .returned (.bool true) ∧ Below w.heap.size w w' := by
  have z1 : 1 ≤ z := by rcases hx.z3 with h | h | h <;> omega
  have z4 : z ≤ 4 := by rcases hx.z3 with h | h | h <;> omega
  have hz0 : ¬ z = 0 := by omega
  have hsz := fun w => size_any (16 + j) w
  rw [hx.s] at hsz
  have hw3 := fun w => cword_none (16 + j) 3 1 0 0 (by decide) (by decide) hx.e3 w
  have hwd := fun w => cword_any (16 + j) 0 1 2 0 (by decide) (by decide) _ hx.e rfl w
  have hR := KB_ready A v A0 (by omega) v0 v1
  have e1 := KB_get A v 1 (by decide) (by decide)
  have e2 := KB_get A v 2 (by decide) (by decide)
  have e3 := KB_get A v 3 (by decide) (by decide)
  rw [if_neg (by decide), if_pos rfl] at e1
  rw [if_pos rfl] at e2
  rw [if_neg (by decide), if_neg (by decide)] at e3
  have hput := fun c w k t c0 => putl_any E c A v A0 (by omega) v0 v1 w k t c0
  rw [show W.lu2 (W.lu2 (W.H0 0 4096) 1 A) 2 v = W.KB A v from rfl] at hput
  have hN := hnew_any 0 4096
  have hF := first10_any E w hE
  have hr1 := fun c w1 => replay_mbent c (W.KB A v) (W.in5 (16 + j) 0 1 2 0) _ A E hR hx.e rfl (Or.inr hx.kd) rfl e1 A0 A1 (by show A % W.sz (16 + j) ≠ 0; rw [hx.s]; exact hr) 6 (by show W.cB (16 + j) = 6; unfold W.cB; rw [hx.kd]; rfl) w1
  have hg := fun c w1 k => tp_get (W.KB A v) 6 A c w1 k
  have hx3 : ∀ c w1, HAt c (W.tp (W.KB A v) 6 A) w1 → Calls Tryz.prog 20 #[.pointer (some ⟨c, 0, none⟩), .int .i64 3] w1 fun z w' => z = .returned (.int .u32 0) ∧ w1 = w' := fun c w1 k => x_g c (W.KB A v) 3 0 e3 w1 k.xh
  clear hR e1 e2 e3 hx
  generalize W.encV (W.in5 (16 + j) 0 1 2 0) = y at *
  generalize (W.tp (W.KB A v) 6 A : W.Ht) = h2 at *
  generalize W.KB A v = h1 at *
  generalize W.H0 0 4096 = h0 at *
  have HH : Hid (_ ∧ _ ∧ _ ∧ _ ∧ _ ∧ _ ∧ _) := ⟨hF, hn1, hsz, hN, hput, hwd, hr1⟩
  have HS : Hid (_ ∧ _) := ⟨hn2, hw3⟩
  have HG : Hid (_ ∧ _) := ⟨hg, hx3⟩
  have hw0 := hE.lt
  have HE : Hid (Tr E w) := hE
  clear hE hF hn1 hsz hN hput hwd hr1 hn2 hw3 hg hx3 hr
  go_enter Tryz.func8, Tryz.ntmps8
  go_wp2_with (fail)
  refine HH.out.1.mono ?_
  rintro e w1 ⟨rfl, B1⟩
  go_wp2_with (fail)
  refine (HH.out.2.1 _).mono ?_
  rintro e w' ⟨rfl, rfl⟩
  go_wp2_with (fail)
  refine (HS.out.1 _).mono ?_
  rintro e w' ⟨rfl, rfl⟩
  go_wp2_with (fail)
  refine (HH.out.2.2.1 _).mono ?_
  rintro e w' ⟨rfl, rfl⟩
  go_wp2_with (fail)
  refine (HH.out.2.2.2.1 _).mono ?_
  rintro e w2 ⟨c, hc, rfl, k2, b2⟩
  have S2 := Hb.new (HE.out.below B1) hc k2 b2
  clear k2 b2
  have c0 : 0 < c := by have := S2.n0; omega
  go_wp2_with (fail)
  refine (HH.out.2.2.2.2.1 c _ S2.k S2.t c0).mono ?_
  rintro e w3 ⟨rfl, k3, g3⟩
  have S3 := S2.step k3 g3
  clear S2 k3 g3
  go_wp2_with (fail)
  refine (HS.out.2 _).mono ?_
  rintro e w3b ⟨rfl, b3⟩
  have S3b := S3.below b3
  clear S3 b3
  go_wp2_with (fail)
  refine (HH.out.2.2.2.2.2.1 _).mono ?_
  rintro e w4 ⟨rfl, b4⟩
  have S4 := S3b.below b4
  clear S3b b4
  go_wp2_with (fail)
  refine (HH.out.2.2.2.2.2.2 c _ (S4.alloc _).k (S4.alloc _).t).mono ?_
  rintro e w5 ⟨rfl, k5, g5⟩
  have S5 := (S4.alloc _).step k5 g5
  have ev5 := (g5.block w4.heap.size (by simp) (by have := S4.k.lt; simp; omega)).trans (heap_alloc_last w4 _)
  have ll : w4.heap.size < w5.heap.size := (Array.getElem?_eq_some_iff.1 ev5).1
  have ek : w5.cell? ⟨w4.heap.size, 0, none⟩ = some (.int .i64 2) := by simp [World.cell?, ev5]
  have ec : w5.cell? ⟨w4.heap.size, 8, none⟩ = some (.int .u32 6) := by simp [World.cell?, ev5]
  have el : w5.cell? ⟨w4.heap.size, 5, none⟩ = some (.int .u32 0) := by simp [World.cell?, ev5]
  clear k5 g5 ev5 S4
  have hl5 := S5.k.lt
  generalize w4.heap.size = l4 at *
  go_wp2_with (fail)
  refine (HG.out.1 c _ (S5.alloc _).k).1.mono ?_
  rintro e w' ⟨g, rfl, rfl⟩
  go_wp2_with (fail)
  refine (HG.out.1 c _ (S5.alloc _).k).2.mono ?_
  rintro e w' ⟨g', rfl, rfl⟩
  go_wp2_with (fail)
  refine (HG.out.2 c _ (S5.alloc _).k).mono ?_
  rintro e w' ⟨rfl, rfl⟩
  go_wp2
  go_ret
  exact ⟨rfl, B1.trans ((S5.alloc _).b.mono B1.size)⟩
end Go.Proofs.YtpgegcboaicnaaaGreatDoor

/- HartLoads, walked: a way. -/
namespace Go.Proofs.YtpgegcboaicnaaaGreatDoor
open Go.ChangeShapes Go.WideShapes Go.ChangeAt Go.RowKit
set_option linter.unusedVariables false
set_option linter.unusedSimpArgs false

set_option maxRecDepth 100000 in
set_option maxHeartbeats 3200000 in
theorem hl_s_f (E : Addr) (op a v A z j jj : Int) (J0 : 0 ≤ jj) (J1 : jj < 5) (a0 : 0 ≤ a) (a1 : a < 4294967296) (v0 : 0 ≤ v) (v1 : v < 4294967296) (hA : a.tmod 5000 = A) (A0 : 0 ≤ A) (A1 : A < 5000) (j0 : 0 ≤ j) (j1 : j < 3) (hx : W.Stx (16 + j) z)
    (hn1 : ∀ w, Calls Tryz.prog 19 #[.int .i64 op, .int .i64 5] w fun z w' => z = .returned (.int .i64 jj) ∧ w = w') (hn2 : ∀ w, Calls Tryz.prog 19 #[.int .i64 op, .int .i64 3] w fun z w' => z = .returned (.int .i64 j) ∧ w = w')
    (hmod : A.tmod z = 0) (hr : A % z = 0) (hlt : 4096 < A + z) (w : World) (hE : Tr E w) :
    Calls Tryz.prog 8 #[.int .i64 op, .int .u32 a, .int .u32 v, .bool true] w fun e w' => e = .returned (.bool true) ∧ Below w.heap.size w w' := by
  have z1 : 1 ≤ z := by rcases hx.z3 with h | h | h <;> omega
  have z4 : z ≤ 4 := by rcases hx.z3 with h | h | h <;> omega
  have hz0 : ¬ z = 0 := by omega
  have hsz := fun w => size_any (16 + j) w
  rw [hx.s] at hsz
  have hw3 := fun w => cword_none (16 + j) 3 1 0 0 (by decide) (by decide) hx.e3 w
  have hwd := fun w => cword_any (16 + j) 0 1 2 0 (by decide) (by decide) _ hx.e rfl w
  have hR := KB_ready A v A0 (by omega) v0 v1
  have e1 := KB_get A v 1 (by decide) (by decide)
  have e2 := KB_get A v 2 (by decide) (by decide)
  have e3 := KB_get A v 3 (by decide) (by decide)
  rw [if_neg (by decide), if_pos rfl] at e1
  rw [if_pos rfl] at e2
  rw [if_neg (by decide), if_neg (by decide)] at e3
  have hput := fun c w k t c0 => putl_any E c A v A0 (by omega) v0 v1 w k t c0
  rw [show W.lu2 (W.lu2 (W.H0 0 4096) 1 A) 2 v = W.KB A v from rfl] at hput
  have hN := hnew_any 0 4096
  have hF := first10_any E w hE
  have hr1 := fun c w1 => replay_mfar c (W.KB A v) (W.in5 (16 + j) 0 1 2 0) _ A E hR hx.e rfl (Or.inr hx.kd) rfl e1 A0 A1 (by show A % W.sz (16 + j) = 0; rw [hx.s]; exact hr) (by show ¬ A + W.sz (16 + j) ≤ 4096; rw [hx.s]; omega) 7 (by show W.cF (16 + j) = 7; unfold W.cF; rw [hx.kd]; rfl) w1
  have hg := fun c w1 k => tp_get (W.KB A v) 7 A c w1 k
  have hx3 : ∀ c w1, HAt c (W.tp (W.KB A v) 7 A) w1 → Calls Tryz.prog 20 #[.pointer (some ⟨c, 0, none⟩), .int .i64 3] w1 fun z w' => z = .returned (.int .u32 0) ∧ w1 = w' := fun c w1 k => x_g c (W.KB A v) 3 0 e3 w1 k.xh
  clear hR e1 e2 e3 hx
  generalize W.encV (W.in5 (16 + j) 0 1 2 0) = y at *
  generalize (W.tp (W.KB A v) 7 A : W.Ht) = h2 at *
  generalize W.KB A v = h1 at *
  generalize W.H0 0 4096 = h0 at *
  have HH : Hid (_ ∧ _ ∧ _ ∧ _ ∧ _ ∧ _ ∧ _) := ⟨hF, hn1, hsz, hN, hput, hwd, hr1⟩
  have HS : Hid (_ ∧ _) := ⟨hn2, hw3⟩
  have HG : Hid (_ ∧ _) := ⟨hg, hx3⟩
  have hw0 := hE.lt
  have HE : Hid (Tr E w) := hE
  clear hE hF hn1 hsz hN hput hwd hr1 hn2 hw3 hg hx3 hr
  go_enter Tryz.func8, Tryz.ntmps8
  go_wp2_with (fail)
  refine HH.out.1.mono ?_
  rintro e w1 ⟨rfl, B1⟩
  go_wp2_with (fail)
  refine (HH.out.2.1 _).mono ?_
  rintro e w' ⟨rfl, rfl⟩
  go_wp2_with (fail)
  refine (HS.out.1 _).mono ?_
  rintro e w' ⟨rfl, rfl⟩
  go_wp2_with (fail)
  refine (HH.out.2.2.1 _).mono ?_
  rintro e w' ⟨rfl, rfl⟩
  go_wp2_with (fail)
  refine (HH.out.2.2.2.1 _).mono ?_
  rintro e w2 ⟨c, hc, rfl, k2, b2⟩
  have S2 := Hb.new (HE.out.below B1) hc k2 b2
  clear k2 b2
  have c0 : 0 < c := by have := S2.n0; omega
  go_wp2_with (fail)
  refine (HH.out.2.2.2.2.1 c _ S2.k S2.t c0).mono ?_
  rintro e w3 ⟨rfl, k3, g3⟩
  have S3 := S2.step k3 g3
  clear S2 k3 g3
  go_wp2_with (fail)
  refine (HS.out.2 _).mono ?_
  rintro e w3b ⟨rfl, b3⟩
  have S3b := S3.below b3
  clear S3 b3
  go_wp2_with (fail)
  refine (HH.out.2.2.2.2.2.1 _).mono ?_
  rintro e w4 ⟨rfl, b4⟩
  have S4 := S3b.below b4
  clear S3b b4
  go_wp2_with (fail)
  refine (HH.out.2.2.2.2.2.2 c _ (S4.alloc _).k (S4.alloc _).t).mono ?_
  rintro e w5 ⟨rfl, k5, g5⟩
  have S5 := (S4.alloc _).step k5 g5
  have ev5 := (g5.block w4.heap.size (by simp) (by have := S4.k.lt; simp; omega)).trans (heap_alloc_last w4 _)
  have ll : w4.heap.size < w5.heap.size := (Array.getElem?_eq_some_iff.1 ev5).1
  have ek : w5.cell? ⟨w4.heap.size, 0, none⟩ = some (.int .i64 2) := by simp [World.cell?, ev5]
  have ec : w5.cell? ⟨w4.heap.size, 8, none⟩ = some (.int .u32 7) := by simp [World.cell?, ev5]
  have el : w5.cell? ⟨w4.heap.size, 5, none⟩ = some (.int .u32 0) := by simp [World.cell?, ev5]
  clear k5 g5 ev5 S4
  have hl5 := S5.k.lt
  generalize w4.heap.size = l4 at *
  go_wp2_with (fail)
  refine (HG.out.1 c _ (S5.alloc _).k).1.mono ?_
  rintro e w' ⟨g, rfl, rfl⟩
  go_wp2_with (fail)
  refine (HG.out.1 c _ (S5.alloc _).k).2.mono ?_
  rintro e w' ⟨g', rfl, rfl⟩
  go_wp2_with (fail)
  refine (HG.out.2 c _ (S5.alloc _).k).mono ?_
  rintro e w' ⟨rfl, rfl⟩
  go_wp2
  go_ret
  exact ⟨rfl, B1.trans ((S5.alloc _).b.mono B1.size)⟩
end Go.Proofs.YtpgegcboaicnaaaGreatDoor

/- HartLoads, walked: a way. -/
namespace Go.Proofs.YtpgegcboaicnaaaGreatDoor
open Go.ChangeShapes Go.WideShapes Go.ChangeAt Go.RowKit
set_option linter.unusedVariables false
set_option linter.unusedSimpArgs false

set_option maxRecDepth 100000 in
set_option maxHeartbeats 3200000 in
theorem hl_s_o (E : Addr) (op a v A z j jj : Int) (J0 : 0 ≤ jj) (J1 : jj < 5) (a0 : 0 ≤ a) (a1 : a < 4294967296) (v0 : 0 ≤ v) (v1 : v < 4294967296) (hA : a.tmod 5000 = A) (A0 : 0 ≤ A) (A1 : A < 5000) (j0 : 0 ≤ j) (j1 : j < 3) (hx : W.Stx (16 + j) z)
    (hn1 : ∀ w, Calls Tryz.prog 19 #[.int .i64 op, .int .i64 5] w fun z w' => z = .returned (.int .i64 jj) ∧ w = w') (hn2 : ∀ w, Calls Tryz.prog 19 #[.int .i64 op, .int .i64 3] w fun z w' => z = .returned (.int .i64 j) ∧ w = w')
    (hmod : A.tmod z = 0) (hr : A % z = 0) (hge : A + z ≤ 4096) (w : World) (hE : Tr E w) :
    Calls Tryz.prog 8 #[.int .i64 op, .int .u32 a, .int .u32 v, .bool true] w fun e w' => e = .returned (.bool true) ∧ Below w.heap.size w w' := by
  have z1 : 1 ≤ z := by rcases hx.z3 with h | h | h <;> omega
  have z4 : z ≤ 4 := by rcases hx.z3 with h | h | h <;> omega
  have hz0 : ¬ z = 0 := by omega
  have hsz := fun w => size_any (16 + j) w
  rw [hx.s] at hsz
  have hw3 := fun w => cword_none (16 + j) 3 1 0 0 (by decide) (by decide) hx.e3 w
  have hwd := fun w => cword_any (16 + j) 0 1 2 0 (by decide) (by decide) _ hx.e rfl w
  have hR := KB_ready A v A0 (by omega) v0 v1
  have e1 := KB_get A v 1 (by decide) (by decide)
  have e2 := KB_get A v 2 (by decide) (by decide)
  have e3 := KB_get A v 3 (by decide) (by decide)
  rw [if_neg (by decide), if_pos rfl] at e1
  rw [if_pos rfl] at e2
  rw [if_neg (by decide), if_neg (by decide)] at e3
  have hput := fun c w k t c0 => putl_any E c A v A0 (by omega) v0 v1 w k t c0
  rw [show W.lu2 (W.lu2 (W.H0 0 4096) 1 A) 2 v = W.KB A v from rfl] at hput
  have hN := hnew_any 0 4096
  have hF := first10_any E w hE
  have hr1 := fun c w1 => replay_store c (W.KB A v) (W.in5 (16 + j) 0 1 2 0) _ A v z _ E hR hx.e rfl hx.kd rfl e1 e2 A0 A1 hx.s hr hge rfl w1
  rw [show ((W.in5 (16 + j) 0 1 2 0)).op = 16 + j from rfl, hx.c v] at hr1
  have hlow := fun w => rlow_any v z v0 v1 z1 z4 w
  clear hR e1 e2 e3 hx
  generalize W.encV (W.in5 (16 + j) 0 1 2 0) = y at *
  generalize ({ W.KB A v with pc := ((W.KB A v).pc + 4) % 4294967296 } : W.Ht) = h2 at *
  generalize W.bitsOf v 0 (8 * z) = lv at *
  generalize W.KB A v = h1 at *
  generalize W.H0 0 4096 = h0 at *
  have HH : Hid (_ ∧ _ ∧ _ ∧ _ ∧ _ ∧ _ ∧ _) := ⟨hF, hn1, hsz, hN, hput, hwd, hr1⟩
  have HS : Hid (_ ∧ _) := ⟨hn2, hw3⟩
  have HG : Hid (∀ w, _) := hlow
  have hw0 := hE.lt
  have HE : Hid (Tr E w) := hE
  clear hE hF hn1 hsz hN hput hwd hr1 hn2 hw3 hlow hr
  go_enter Tryz.func8, Tryz.ntmps8
  go_wp2_with (fail)
  refine HH.out.1.mono ?_
  rintro e w1 ⟨rfl, B1⟩
  go_wp2_with (fail)
  refine (HH.out.2.1 _).mono ?_
  rintro e w' ⟨rfl, rfl⟩
  go_wp2_with (fail)
  refine (HS.out.1 _).mono ?_
  rintro e w' ⟨rfl, rfl⟩
  go_wp2_with (fail)
  refine (HH.out.2.2.1 _).mono ?_
  rintro e w' ⟨rfl, rfl⟩
  go_wp2_with (fail)
  refine (HH.out.2.2.2.1 _).mono ?_
  rintro e w2 ⟨c, hc, rfl, k2, b2⟩
  have S2 := Hb.new (HE.out.below B1) hc k2 b2
  clear k2 b2
  have c0 : 0 < c := by have := S2.n0; omega
  go_wp2_with (fail)
  refine (HH.out.2.2.2.2.1 c _ S2.k S2.t c0).mono ?_
  rintro e w3 ⟨rfl, k3, g3⟩
  have S3 := S2.step k3 g3
  clear S2 k3 g3
  go_wp2_with (fail)
  refine (HS.out.2 _).mono ?_
  rintro e w3b ⟨rfl, b3⟩
  have S3b := S3.below b3
  clear S3 b3
  go_wp2_with (fail)
  refine (HH.out.2.2.2.2.2.1 _).mono ?_
  rintro e w4 ⟨rfl, b4⟩
  have S4 := S3b.below b4
  clear S3b b4
  go_wp2_with (fail)
  refine (HH.out.2.2.2.2.2.2 c _ (S4.alloc _).k (S4.alloc _).t).mono ?_
  rintro e w5 ⟨rfl, k5, g5⟩
  have S5 := (S4.alloc _).step k5 g5
  have ev5 := (g5.block w4.heap.size (by simp) (by have := S4.k.lt; simp; omega)).trans (heap_alloc_last w4 _)
  have ll : w4.heap.size < w5.heap.size := (Array.getElem?_eq_some_iff.1 ev5).1
  have ek : w5.cell? ⟨w4.heap.size, 0, none⟩ = some (.int .i64 1) := by simp [World.cell?, ev5]
  have ec : w5.cell? ⟨w4.heap.size, 8, none⟩ = some (.int .u32 0) := by simp [World.cell?, ev5]
  have el : w5.cell? ⟨w4.heap.size, 5, none⟩ = some (.int .u32 0) := by simp [World.cell?, ev5]
  clear k5 g5 ev5 S4
  have hl5 := S5.k.lt
  generalize w4.heap.size = l4 at *
  go_wp2_with (fail)
  have hzw : IntKind.i64.wrap z = z := IntWalk.i64_in z ⟨by omega, by omega⟩
  go_quiet ((go_at_call 30; exact Calls.quiet_of_same ((HG.out _).mono fun _ _ ⟨a, b⟩ => ⟨a, b.symm⟩)))
  go_wp2
  go_ret
  exact ⟨rfl, B1.trans ((Go.below_drewN (S5.alloc _).b _).mono B1.size)⟩
end Go.Proofs.YtpgegcboaicnaaaGreatDoor

/- HartLoads, walked: it returns true, whatever the op and the words. -/
namespace Go.Proofs.YtpgegcboaicnaaaGreatDoor
open Go.ChangeShapes Go.WideShapes Go.ChangeAt Go.RowKit
set_option linter.unusedVariables false
set_option linter.unusedSimpArgs false

theorem hartloads_walk (E : Addr) (op a v : Int) (store : Bool) (o0 : -9223372036854775808 ≤ op) (o1 : op ≤ 9223372036854775807) (a0 : 0 ≤ a) (a1 : a < 4294967296) (v0 : 0 ≤ v) (v1 : v < 4294967296) (w : World) (hE : Tr E w) :
    Calls Tryz.prog 8 #[.int .i64 op, .int .u32 a, .int .u32 v, .bool store] w fun e w' => e = .returned (.bool true) ∧ Below w.heap.size w w' := by
  have hA : a.tmod 5000 = a % 5000 := Int.tmod_eq_emod_of_nonneg a0
  have A0 : 0 ≤ a % 5000 := by omega
  have A1 : a % 5000 < 5000 := by omega
  have hn1 := fun w => number_any op 5 o0 o1 (by decide) (by decide) w
  have hn2 := fun w => number_any op 3 o0 o1 (by decide) (by decide) w
  have j0 : 0 ≤ op % 5 := by omega
  have j1 : op % 5 < 5 := by omega
  have k0 : 0 ≤ op % 3 := by omega
  have k1 : op % 3 < 3 := by omega
  generalize a % 5000 = A at *
  generalize op % 5 = j at *
  generalize op % 3 = k at *
  cases store
  · obtain ⟨z, hx⟩ := W.ldx_at j j0 j1
    have hm : A.tmod z = A % z := Int.tmod_eq_emod_of_nonneg A0
    by_cases hr : A % z = 0
    · by_cases hl : 4096 < A + z
      · exact hl_l_f E op a v A z j a0 a1 v0 v1 hA A0 A1 j0 j1 hx hn1 (hm.trans hr) hr hl w hE
      · exact hl_l_o E op a v A z j a0 a1 v0 v1 hA A0 A1 j0 j1 hx hn1 (hm.trans hr) hr (by omega) w hE
    · exact hl_l_b E op a v A z j a0 a1 v0 v1 hA A0 A1 j0 j1 hx hn1 _ hm hr hr w hE
  · obtain ⟨z, hx⟩ := W.stx_at k k0 k1
    have hm : A.tmod z = A % z := Int.tmod_eq_emod_of_nonneg A0
    by_cases hr : A % z = 0
    · by_cases hl : 4096 < A + z
      · exact hl_s_f E op a v A z k j j0 j1 a0 a1 v0 v1 hA A0 A1 k0 k1 hx hn1 hn2 (hm.trans hr) hr hl w hE
      · exact hl_s_o E op a v A z k j j0 j1 a0 a1 v0 v1 hA A0 A1 k0 k1 hx hn1 hn2 (hm.trans hr) hr (by omega) w hE
    · exact hl_s_b E op a v A z k j j0 j1 a0 a1 v0 v1 hA A0 A1 k0 k1 hx hn1 hn2 _ hm hr hr w hE
end Go.Proofs.YtpgegcboaicnaaaGreatDoor
