/- Texts in one: HartP3, HartP6, HartQ1, HartQ3, HartW0, HartWrongWalk. -/
import Derived.Test.YteilpehekabccabGreatDoorJ13
import Derived.Test.YteilpehekabccabGreatDoorJ33
import Derived.Test.YteilpehekabccabGreatDoorJ34
import Derived.Test.YteilpehekabccabGreatDoorJ46
/- What is put into registers by Lui and Addi; without any Go. -/
namespace Go.Proofs.YteilpehekabccabGreatDoor.W
open Go.RowKit
set_option linter.unusedVariables false
set_option linter.unusedSimpArgs false

theorem rrun_reck (H : Ht) (ev : Ev) (i : I) (nx v : Int) (m3 : H.G.m = 3) (p4 : H.pc % 4 = 0) (hb : H.pc + 4 ≤ H.by_) (k3 : (ev.k == 3) = false) (hd : decB ev.wd = true) (hi : decI ev.wd = i) (hk : (decide (1 ≤ kind i.op) && decide (kind i.op ≤ 3)) = true) (hn : nextV i.op i.imm H.pc (xget H i.rs1) (xget H i.rs2) = nx) (hv : resV i.op i.imm H.pc (xget H i.rs1) (xget H i.rs2) = v) (n4 : nx % 4 = 0) (B U : Nat → Int) (n : Nat) (A V : Nat → Int) :
    rrun H ev 0 B U n A V = ⟨{ hput H i.rd v with pc := nx }, ev, { wd0 H ev with k := 1 }, Ef.no⟩ := by
  rw [rrun_dec H ev m3 p4 hb k3 hd B U n A V, hi]
  exact sdo_reck H ev i n A V hk nx v hn hv n4
/-- The low twelve bits with their sign, and what is left. -/
def lo (a : Int) : Int := sgn a 12
def hi (a : Int) : Int := (a - lo a) % 4294967296
theorem lo_eq (a : Int) (a0 : 0 ≤ a) (a1 : a < 4294967296) : lo a = if a % 4096 < 2048 then a % 4096 else a % 4096 + 4294963200 := by
  unfold lo sgn
  rw [if_neg (by decide), if_neg (by decide)]
  show wrap32 (a * 1048576 % 4294967296) / 1048576 % 4294967296 = _
  unfold wrap32
  split <;> omega
theorem lo_lt (a : Int) (a0 : 0 ≤ a) (a1 : a < 4294967296) : Rg (lo a) := by
  rw [lo_eq a a0 a1]
  unfold Rg
  split <;> omega
theorem hi_lt (a : Int) : Rg (hi a) := by unfold hi Rg; omega
theorem hi_page (a : Int) (a0 : 0 ≤ a) (a1 : a < 4294967296) : hi a = hi a / 4096 * 4096 := by
  unfold hi
  rw [lo_eq a a0 a1]
  split <;> omega
theorem hi_lo (a : Int) (a0 : 0 ≤ a) (a1 : a < 4294967296) : (hi a + lo a) % 4294967296 = a := by unfold hi; omega
theorem imm_lo (a : Int) (a0 : 0 ≤ a) (a1 : a < 4294967296) : imm 73 (a % 4096 * 1048576) = lo a := by
  rw [← imm_I _ (by omega) (by omega), bitsOf_eq _ 20 12 (by omega) (by omega) (by decide) (by decide) (by decide)]
  show lo (a % 4096 * 1048576 / 1048576 % 4096) = lo a
  rw [lo_eq a a0 a1, lo_eq _ (by omega) (by omega)]
  split <;> split <;> omega
theorem enc_I (op rd rs1 v x : Int) (ho : (shp op).rd = true ∧ (shp op).rs1 = true ∧ (shp op).rs2 = false ∧ (shp op).csr = false ∧ (shp op).fmt = 73 ∧ (shp op).size = 0) (hk : known op = true) (r0 : 0 ≤ rd ∧ rd < 32) (s0 : 0 ≤ rs1 ∧ rs1 < 32) (x0 : 0 ≤ x) (x1 : x < 4294967296) (hv : imm 73 x = v) : encE (in5 op rd rs1 0 v) = 0 := by
  obtain ⟨h1, h2, h3, h4, h5, h6⟩ := ho
  have hf := layIB_f (s := shp op) (fm := 73) (Or.inl rfl) h5 h6
  have hB : layIB (shp op) v = true := by
    rw [hf.2.1 v, ← hv]
    exact lay_back 73 x (Or.inl rfl) x0 x1
  refine enc_in5 hk hB (range_in5 r0 s0 (by decide)) ?_
  simp [same, only, in5, h1, h2, h3, h4, hf.1]
theorem enc_addi (rd rs1 a : Int) (r0 : 0 ≤ rd ∧ rd < 32) (s0 : 0 ≤ rs1 ∧ rs1 < 32) (a0 : 0 ≤ a) (a1 : a < 4294967296) : encE (in5 19 rd rs1 0 (lo a)) = 0 :=
  enc_I 19 rd rs1 (lo a) (a % 4096 * 1048576) ⟨rfl, rfl, rfl, rfl, rfl, rfl⟩ (by decide) r0 s0 (by omega) (by omega) (imm_lo a a0 a1)
theorem next_addi (imm pc a b : Int) : nextV 19 imm pc a b = (pc + 4) % 4294967296 ∧ resV 19 imm pc a b = (a + imm) % 4294967296 := ⟨rfl, rfl⟩
end Go.Proofs.YteilpehekabccabGreatDoor.W

/- Loads and stores in Machine; without any Go. -/
namespace Go.Proofs.YteilpehekabccabGreatDoor.W
open Go.RowKit
set_option linter.unusedVariables false
set_option linter.unusedSimpArgs false

theorem sdo_acc (H : Ht) (ev : Ev) (i : I) (n : Nat) (A V : Nat → Int) (hk : kind i.op = 4 ∨ kind i.op = 5) : sdo (fetd H ev) i n A V = sacc (fetd H ev) i (xget H i.rs1) (xget H i.rs2) n A V := by
  have h1 : (decide (1 ≤ kind i.op) && decide (kind i.op ≤ 3)) = false := by
    rcases hk with h | h <;> rw [h] <;> rfl
  have h2 : (decide (4 ≤ kind i.op) && decide (kind i.op ≤ 6)) = true := by
    rcases hk with h | h <;> rw [h] <;> rfl
  simp only [sdo, h1, h2, cond_false, cond_true]
  rfl
/-- Which causes there are. -/
def cB (x : Int) : Int := bif kind x == 4 then 4 else 6
def cF (x : Int) : Int := bif kind x == 4 then 5 else 7
theorem acc_bent (S : St) (i : I) (a b : Int) (n : Nat) (A V : Nat → Int) (ad : Int) (ha : (a + i.imm) % 4294967296 = ad) (h : ad % sz i.op ≠ 0) : sacc S i a b n A V = strap S (cB i.op) ad := by
  have h4 : (ad % sz i.op != 0) = true := by simp [h]
  simp only [sacc, ha, h4, cond_true]
  rfl
theorem acc_in (S : St) (m3 : S.h.G.m = 3) (i : I) (a b : Int) (A V : Nat → Int) (ad : Int) (ha : (a + i.imm) % 4294967296 = ad) (h : ad % sz i.op = 0) : sacc S i a b 0 A V = sacc2 { S with w := { S.w with wk := S.r.wk } } i b ad (bif kind i.op == 4 then 2 else 3) ad := by
  have h4 : (ad % sz i.op != 0) = false := by simp [h]
  have hw := walk_here S.h m3 ad (bif kind i.op == 4 then 2 else 3) A V
  simp only [sacc, ha, h4, cond_false, sacc1, hw, hereS, cond_true, beq_self_eq_true]
theorem no_ring (op pa : Int) (h : pa < 1073741824) : rings op pa = false := by
  have : ¬ 1073741824 ≤ pa := by omega
  simp [rings, this]
theorem rrun_mbent (H : Ht) (ev : Ev) (i : I) (a b ad : Int) (m3 : H.G.m = 3) (p4 : H.pc % 4 = 0) (hb : H.pc + 4 ≤ H.by_) (k3 : (ev.k == 3) = false) (hd : decB ev.wd = true) (hi : decI ev.wd = i) (hk : kind i.op = 4 ∨ kind i.op = 5) (ea : xget H i.rs1 = a) (ha : (a + i.imm) % 4294967296 = ad) (h : ad % sz i.op ≠ 0) (B U A V : Nat → Int) :
    rrun H ev 0 B U 0 A V = ⟨{ H with G := trap H.G (cB i.op) ad H.pc, pc := H.G.tvec }, ev, { wd0 H ev with k := 2, ca := cB i.op, tv := ad }, Ef.no⟩ := by
  rw [rrun_dec H ev m3 p4 hb k3 hd B U 0 A V, hi, sdo_acc H ev i 0 A V hk, ea, acc_bent (fetd H ev) i a _ 0 A V ad ha h]
  rfl
theorem rrun_mfar (H : Ht) (ev : Ev) (i : I) (a b ad : Int) (m3 : H.G.m = 3) (p4 : H.pc % 4 = 0) (hb : H.pc + 4 ≤ H.by_) (k3 : (ev.k == 3) = false) (hd : decB ev.wd = true) (hi : decI ev.wd = i) (hk : kind i.op = 4 ∨ kind i.op = 5) (ea : xget H i.rs1 = a) (ha : (a + i.imm) % 4294967296 = ad) (h : ad % sz i.op = 0) (hf : ¬ ad + sz i.op ≤ H.by_) (hl : ad < 1073741824) (hw : ev.wk = Sl.nil) (B U A V : Nat → Int) :
    rrun H ev 0 B U 0 A V = ⟨{ H with G := trap H.G (cF i.op) ad H.pc, pc := H.G.tvec }, ev, { wd0 H ev with k := 2, pa := ad, ca := cF i.op, tv := ad }, Ef.no⟩ := by
  rw [rrun_dec H ev m3 p4 hb k3 hd B U 0 A V, hi, sdo_acc H ev i 0 A V hk, ea, acc_in (fetd H ev) m3 i a _ A V ad ha h]
  have hh : hhas H ad (sz i.op) = false := by simp [hhas, hf]
  have hr := no_ring i.op ad hl
  simp only [sacc2, fetd, hh, hr, Bool.not_false, Bool.and_self, cond_true, hw]
  have hc : cause (bif kind i.op == 4 then 2 else 3) false = cF i.op := by
    rcases hk with h | h <;> unfold cF <;> rw [h] <;> rfl
  rw [hc]
  rfl
theorem rrun_store (H : Ht) (ev : Ev) (i : I) (a b ad : Int) (m3 : H.G.m = 3) (p4 : H.pc % 4 = 0) (hb : H.pc + 4 ≤ H.by_) (k3 : (ev.k == 3) = false) (hd : decB ev.wd = true) (hi : decI ev.wd = i) (hk : kind i.op = 5) (ea : xget H i.rs1 = a) (eb : xget H i.rs2 = b) (ha : (a + i.imm) % 4294967296 = ad) (h : ad % sz i.op = 0) (hf : ad + sz i.op ≤ H.by_) (hw : ev.wk = Sl.nil) (B U A V : Nat → Int) :
    rrun H ev 0 B U 0 A V = ⟨{ H with pc := (H.pc + 4) % 4294967296 }, ev, { wd0 H ev with k := 1, pa := ad }, { Ef.no with k := 2, ad := ad, sz := sz i.op, vl := cut i.op b }⟩ := by
  rw [rrun_dec H ev m3 p4 hb k3 hd B U 0 A V, hi, sdo_acc H ev i 0 A V (Or.inr hk), ea, eb, acc_in (fetd H ev) m3 i a _ A V ad ha h]
  have hh : hhas H ad (sz i.op) = true := by simp [hhas, hf]
  have q4 : (kind i.op == 4) = false := by rw [hk]; rfl
  have q5 : (kind i.op == 5) = true := by rw [hk]; rfl
  simp only [sacc2, fetd, hh, Bool.not_true, Bool.false_and, cond_false, hw, smove, q4, q5, cond_true]
  rfl
theorem rrun_load (H : Ht) (ev : Ev) (i : I) (a ad : Int) (m3 : H.G.m = 3) (p4 : H.pc % 4 = 0) (hb : H.pc + 4 ≤ H.by_) (k3 : (ev.k == 3) = false) (hd : decB ev.wd = true) (hi : decI ev.wd = i) (hk : kind i.op = 4) (ea : xget H i.rs1 = a) (ha : (a + i.imm) % 4294967296 = ad) (h : ad % sz i.op = 0) (hf : ad + sz i.op ≤ H.by_) (hw : ev.wk = Sl.nil) (hld : bitsOf ev.ld 0 (8 * sz i.op) = ev.ld) (B U A V : Nat → Int) :
    rrun H ev 0 B U 0 A V = ⟨{ hput H i.rd (ext i.op ev.ld) with pc := ((hput H i.rd (ext i.op ev.ld)).pc + 4) % 4294967296 }, ev, { wd0 H ev with k := 1, pa := ad, ld := ev.ld }, { Ef.no with k := 1, ad := ad, sz := sz i.op }⟩ := by
  rw [rrun_dec H ev m3 p4 hb k3 hd B U 0 A V, hi, sdo_acc H ev i 0 A V (Or.inl hk), ea, acc_in (fetd H ev) m3 i a _ A V ad ha h]
  have hh : hhas H ad (sz i.op) = true := by simp [hhas, hf]
  have q4 : (kind i.op == 4) = true := by rw [hk]; rfl
  simp only [sacc2, fetd, hh, Bool.not_true, Bool.false_and, cond_false, hw, smove, q4, cond_true, hld, sload]
  rfl
theorem hput_pc (H : Ht) (rd v : Int) : (hput H rd v).pc = H.pc := by unfold hput; cases (rd != 0) <;> rfl
theorem bits_twice (v z : Int) (v0 : 0 ≤ v) (v1 : v < 4294967296) (hz : z = 1 ∨ z = 2 ∨ z = 4) : bitsOf (bitsOf v 0 (8 * z)) 0 (8 * z) = bitsOf v 0 (8 * z) := by
  have hl := bitsOf_lt v 0 (8 * z)
  rcases hz with rfl | rfl | rfl
  · rw [bitsOf_eq _ 0 (8 * 1) hl.1 hl.2 (by decide) (by decide) (by decide), bitsOf_eq v 0 (8 * 1) v0 v1 (by decide) (by decide) (by decide)]
    show v / 1 % 256 / 1 % 256 = v / 1 % 256
    omega
  · rw [bitsOf_eq _ 0 (8 * 2) hl.1 hl.2 (by decide) (by decide) (by decide), bitsOf_eq v 0 (8 * 2) v0 v1 (by decide) (by decide) (by decide)]
    show v / 1 % 65536 / 1 % 65536 = v / 1 % 65536
    omega
  · rw [bitsOf_eq _ 0 (8 * 4) hl.1 hl.2 (by decide) (by decide) (by decide), bitsOf_eq v 0 (8 * 4) v0 v1 (by decide) (by decide) (by decide)]
    show v / 1 % 4294967296 / 1 % 4294967296 = v / 1 % 4294967296
    omega
/-- A load, or a store, of so many bytes. -/
structure Ldx (x z : Int) : Prop where
  kd : kind x = 4
  e : encE (in5 x 3 1 0 0) = 0
  s : sz x = z
  z3 : z = 1 ∨ z = 2 ∨ z = 4
structure Stx (x z : Int) : Prop where
  kd : kind x = 5
  e : encE (in5 x 0 1 2 0) = 0
  e3 : encE (in5 x 3 1 0 0) = 3
  s : sz x = z
  c : ∀ v, cut x v = bitsOf v 0 (8 * z)
  z3 : z = 1 ∨ z = 2 ∨ z = 4
theorem ldx_at (j : Int) (j0 : 0 ≤ j) (j1 : j < 5) : ∃ z, Ldx (11 + j) z := by
  rcases (by omega : j = 0 ∨ j = 1 ∨ j = 2 ∨ j = 3 ∨ j = 4) with rfl | rfl | rfl | rfl | rfl
  · exact ⟨1, by decide +kernel, by decide +kernel, by decide +kernel, by decide⟩
  · exact ⟨2, by decide +kernel, by decide +kernel, by decide +kernel, by decide⟩
  · exact ⟨4, by decide +kernel, by decide +kernel, by decide +kernel, by decide⟩
  · exact ⟨1, by decide +kernel, by decide +kernel, by decide +kernel, by decide⟩
  · exact ⟨2, by decide +kernel, by decide +kernel, by decide +kernel, by decide⟩
theorem stx_at (j : Int) (j0 : 0 ≤ j) (j1 : j < 3) : ∃ z, Stx (16 + j) z := by
  rcases (by omega : j = 0 ∨ j = 1 ∨ j = 2) with rfl | rfl | rfl
  · exact ⟨1, by decide +kernel, by decide +kernel, by decide +kernel, by decide +kernel, fun _ => rfl, by decide⟩
  · exact ⟨2, by decide +kernel, by decide +kernel, by decide +kernel, by decide +kernel, fun _ => rfl, by decide⟩
  · exact ⟨4, by decide +kernel, by decide +kernel, by decide +kernel, by decide +kernel, fun _ => rfl, by decide⟩
end Go.Proofs.YteilpehekabccabGreatDoor.W

/- What a step's course leans on: the lists that it tells, and which parts of an event it reads; without any Go. -/
namespace Go.Proofs.YteilpehekabccabGreatDoor.W
open Go.RowKit
set_option linter.unusedVariables false
set_option linter.unusedSimpArgs false

/-- Nothing but what a step reads of its event, and no lists. -/
def strip (S : St) : St := ⟨S.h, ⟨0, 0, S.r.wd, 0, 0, S.r.ld, Sl.nil, Sl.nil, 0, 0, S.r.dn, 0, 0⟩, { S.w with fw := Sl.nil, wk := Sl.nil }, S.e⟩
theorem strip_bif (b : Bool) (x y : St) : strip (bif b then x else y) = bif b then strip x else strip y := by cases b <;> rfl
theorem strip_strap (S : St) (c t : Int) : strip (strap S c t) = strap (strip S) c t := rfl
theorem strip_sret (S : St) (e : Ef) : strip (sret S e) = sret (strip S) e := rfl
theorem strip_sill (S : St) : strip (sill S) = sill (strip S) := rfl
theorem strip_sput (S : St) (rd v : Int) : strip (sput S rd v) = sput (strip S) rd v := rfl
theorem strip_sload (S : St) (z : Int) : strip (sload S z) = sload (strip S) z := rfl
theorem strip_sctl2 (S : St) (i : I) (a old : Int) : strip (sctl2 S i a old) = sctl2 (strip S) i a old := by
  unfold sctl2
  cases writes i <;> rfl
theorem strip_sctl (S : St) (i : I) (a : Int) : strip (sctl S i a) = sctl (strip S) i a := by
  unfold sctl
  simp only [strip_bif, strip_sill, strip_sctl2]
  rfl
theorem strip_srule (S : St) (op : Int) : strip (srule S op) = srule (strip S) op := by
  unfold srule
  simp only [strip_bif, strip_sill, strip_sret]
  rfl
theorem strip_sgov (S : St) (i : I) (a : Int) : strip (sgov S i a) = sgov (strip S) i a := by
  unfold sgov
  simp only [strip_bif, strip_sret, strip_strap, strip_srule, strip_sctl]
  rfl
theorem strip_scond1 (S : St) (i : I) (b : Int) (e : Ef) : strip (scond S i b e).1 = (scond (strip S) i b e).1 ∧ (scond S i b e).2 = (scond (strip S) i b e).2 := by
  unfold scond
  simp only [show (strip S).r.dn = S.r.dn from rfl]
  cases S.r.dn <;> exact ⟨rfl, rfl⟩
theorem strip_smove (S : St) (i : I) (b : Int) (e : Ef) : strip (smove S i b e) = smove (strip S) i b e := by
  unfold smove
  simp only [strip_bif, strip_sret, strip_sput, strip_sload, (strip_scond1 S i b e).1, (strip_scond1 S i b e).2]
  rfl
theorem strip_splace (S : St) (va acc : Int) (n : Nat) (A V : Nat → Int) : strip (splace S va acc n A V) = splace (strip S) va acc n A V := by
  unfold splace
  simp only [strip_bif, strip_strap]
  rfl
theorem strip_sacc2 (S : St) (i : I) (b addr sort pa : Int) : strip (sacc2 S i b addr sort pa) = sacc2 (strip S) i b addr sort pa := by
  unfold sacc2
  simp only [strip_bif, strip_strap, strip_smove]
  rfl
theorem strip_sacc1 (S : St) (i : I) (b addr sort : Int) (n : Nat) (A V : Nat → Int) : strip (sacc1 S i b addr sort n A V) = sacc1 (strip S) i b addr sort n A V := by
  unfold sacc1
  simp only [strip_bif, strip_sacc2, strip_splace]
  rfl
theorem strip_sacc (S : St) (i : I) (a b : Int) (n : Nat) (A V : Nat → Int) : strip (sacc S i a b n A V) = sacc (strip S) i a b n A V := by
  unfold sacc
  simp only [strip_bif, strip_strap, strip_sacc1]
theorem strip_sreck (S : St) (i : I) (a b : Int) : strip (sreck S i a b) = sreck (strip S) i a b := by
  unfold sreck
  simp only [strip_bif, strip_strap]
  rfl
theorem strip_sdo (S : St) (i : I) (n : Nat) (A V : Nat → Int) : strip (sdo S i n A V) = sdo (strip S) i n A V := by
  unfold sdo
  simp only [strip_bif, strip_sreck, strip_sacc, strip_sgov]
  rfl
theorem strip_sfet2 (S : St) (n : Nat) (A V : Nat → Int) : strip (sfet2 S n A V) = sfet2 (strip S) n A V := by
  unfold sfet2
  simp only [strip_bif, strip_sdo, strip_sill]
  rfl
theorem strip_sfet1 (S : St) (pa : Int) (n : Nat) (A V : Nat → Int) : strip (sfet1 S pa n A V) = sfet1 (strip S) pa n A V := by
  unfold sfet1
  simp only [strip_bif, strip_sfet2, strip_strap]
  rfl
theorem strip_sfet (S : St) (m : Nat) (B U : Nat → Int) (n : Nat) (A V : Nat → Int) : strip (sfet S m B U n A V) = sfet (strip S) m B U n A V := by
  unfold sfet
  simp only [strip_bif, strip_strap, strip_sfet1, strip_splace]
  rfl
/-- Two events that are read alike. -/
theorem rrun_alike (H : Ht) (e g : Ev) (m : Nat) (B U : Nat → Int) (n : Nat) (A V : Nat → Int) (h1 : g.wd = e.wd) (h2 : g.ld = e.ld) (h3 : g.dn = e.dn) (k1 : (e.k == 3) = false) (k2 : (g.k == 3) = false) : strip (rrun H g m B U n A V) = strip (rrun H e m B U n A V) := by
  have q1 : rrun H e m B U n A V = sfet (st0 H e) m B U n A V := by
    unfold rrun srun
    show (bif e.k == 3 then _ else _) = _
    rw [k1]; rfl
  have q2 : rrun H g m B U n A V = sfet (st0 H g) m B U n A V := by
    unfold rrun srun
    show (bif g.k == 3 then _ else _) = _
    rw [k2]; rfl
  rw [q1, q2, strip_sfet, strip_sfet]
  have : strip (st0 H g) = strip (st0 H e) := by
    unfold strip st0
    simp only [h1, h2, h3]
  rw [this]

/-- The lists that are told. -/
def lf (S : St) : Sl := S.w.fw
def lw (S : St) : Sl := S.w.wk
theorem lf_bif (b : Bool) (x y : St) : lf (bif b then x else y) = bif b then lf x else lf y := by cases b <;> rfl
theorem lw_bif (b : Bool) (x y : St) : lw (bif b then x else y) = bif b then lw x else lw y := by cases b <;> rfl
theorem bif_same {α : Type} (b : Bool) (x : α) : (bif b then x else x) = x := by cases b <;> rfl
theorem l_sctl2 (S : St) (i : I) (a old : Int) : lf (sctl2 S i a old) = lf S ∧ lw (sctl2 S i a old) = lw S := by
  unfold sctl2
  cases writes i <;> exact ⟨rfl, rfl⟩
theorem l_sctl (S : St) (i : I) (a : Int) : lf (sctl S i a) = lf S ∧ lw (sctl S i a) = lw S := by
  unfold sctl
  simp only [lf_bif, lw_bif, (l_sctl2 _ _ _ _).1, (l_sctl2 _ _ _ _).2]
  constructor <;> (cases !getB S.h.G i.csr <;> cases (i.csr == 3860) && writes i <;> cases i.csr == 836 <;> rfl)
theorem l_srule (S : St) (op : Int) : lf (srule S op) = lf S ∧ lw (srule S op) = lw S := by
  unfold srule
  simp only [lf_bif, lw_bif]
  constructor <;> (cases S.h.G.m == 0 <;> cases op == 42 <;> cases op == 43 <;> rfl)
theorem l_sgov (S : St) (i : I) (a : Int) : lf (sgov S i a) = lf S ∧ lw (sgov S i a) = lw S := by
  unfold sgov
  simp only [lf_bif, lw_bif, (l_srule _ _).1, (l_srule _ _).2, (l_sctl _ _ _).1, (l_sctl _ _ _).2]
  have e1 : ∀ e, lf (sret S e) = lf S := fun _ => rfl
  have e2 : ∀ e, lw (sret S e) = lw S := fun _ => rfl
  have e3 : ∀ c t, lf (strap S c t) = lf S := fun _ _ => rfl
  have e4 : ∀ c t, lw (strap S c t) = lw S := fun _ _ => rfl
  simp only [e1, e2, e3, e4, bif_same, and_self]
theorem l_smove (S : St) (i : I) (b : Int) (e : Ef) : lf (smove S i b e) = lf S ∧ lw (smove S i b e) = lw S := by
  have c1 : lf (scond S i b e).1 = lf S ∧ lw (scond S i b e).1 = lw S := by
    unfold scond
    cases S.r.dn <;> exact ⟨rfl, rfl⟩
  have e1 : ∀ T e, lf (sret T e) = lf T := fun _ _ => rfl
  have e2 : ∀ T e, lw (sret T e) = lw T := fun _ _ => rfl
  have e3 : ∀ T c t, lf (sput T c t) = lf T := fun _ _ _ => rfl
  have e4 : ∀ T c t, lw (sput T c t) = lw T := fun _ _ _ => rfl
  have e5 : ∀ T z, lf (sload T z) = lf T := fun _ _ => rfl
  have e6 : ∀ T z, lw (sload T z) = lw T := fun _ _ => rfl
  unfold smove
  simp only [lf_bif, lw_bif, e1, e2, e3, e4, e5, e6, c1.1, c1.2, bif_same, and_self]
theorem l_splace (S : St) (va acc : Int) (n : Nat) (A V : Nat → Int) : lf (splace S va acc n A V) = lf S ∧ lw (splace S va acc n A V) = lw S := by
  have e3 : ∀ c t, lf (strap S c t) = lf S := fun _ _ => rfl
  have e4 : ∀ c t, lw (strap S c t) = lw S := fun _ _ => rfl
  unfold splace
  simp only [lf_bif, lw_bif, e3, e4, bif_same, and_self]
theorem l_sacc2 (S : St) (i : I) (b addr sort pa : Int) : lf (sacc2 S i b addr sort pa) = lf S ∧ lw (sacc2 S i b addr sort pa) = lw S := by
  have e3 : ∀ T c t, lf (strap T c t) = lf T := fun _ _ _ => rfl
  have e4 : ∀ T c t, lw (strap T c t) = lw T := fun _ _ _ => rfl
  unfold sacc2
  simp only [lf_bif, lw_bif, e3, e4, (l_smove _ _ _ _).1, (l_smove _ _ _ _).2]
  constructor <;> (cases !hhas S.h pa (sz i.op) && !rings i.op pa <;> rfl)
theorem l_sacc1 (S : St) (i : I) (b addr sort : Int) (n : Nat) (A V : Nat → Int) : lf (sacc1 S i b addr sort n A V) = lf S ∧ lw (sacc1 S i b addr sort n A V) = S.r.wk := by
  unfold sacc1
  simp only [lf_bif, lw_bif, (l_sacc2 _ _ _ _ _ _).1, (l_sacc2 _ _ _ _ _ _).2, (l_splace _ _ _ _ _ _).1, (l_splace _ _ _ _ _ _).2, bif_same]
  exact ⟨rfl, rfl⟩
theorem l_sdo (S : St) (i : I) (n : Nat) (A V : Nat → Int) : lf (sdo S i n A V) = lf S ∧ (lw (sdo S i n A V) = lw S ∨ lw (sdo S i n A V) = S.r.wk) := by
  have hr : lf (sreck S i (xget S.h i.rs1) (xget S.h i.rs2)) = lf S ∧ lw (sreck S i (xget S.h i.rs1) (xget S.h i.rs2)) = lw S := by
    unfold sreck
    simp only [lf_bif, lw_bif]
    constructor <;> (cases nextV i.op i.imm S.h.pc (xget S.h i.rs1) (xget S.h i.rs2) % 4 != 0 <;> rfl)
  have ha : lf (sacc S i (xget S.h i.rs1) (xget S.h i.rs2) n A V) = lf S ∧ (lw (sacc S i (xget S.h i.rs1) (xget S.h i.rs2) n A V) = lw S ∨ lw (sacc S i (xget S.h i.rs1) (xget S.h i.rs2) n A V) = S.r.wk) := by
    unfold sacc
    simp only [lf_bif, lw_bif, (l_sacc1 _ _ _ _ _ _ _ _).1, (l_sacc1 _ _ _ _ _ _ _ _).2]
    cases (xget S.h i.rs1 + i.imm) % 4294967296 % sz i.op != 0
    · exact ⟨rfl, Or.inr rfl⟩
    · exact ⟨rfl, Or.inl rfl⟩
  unfold sdo
  simp only [lf_bif, lw_bif]
  cases decide (1 ≤ kind i.op) && decide (kind i.op ≤ 3)
  · cases decide (4 ≤ kind i.op) && decide (kind i.op ≤ 6)
    · exact ⟨(l_sgov _ _ _).1, Or.inl (l_sgov _ _ _).2⟩
    · exact ha
  · exact ⟨hr.1, Or.inl hr.2⟩
theorem rrun_lists (H : Ht) (e : Ev) (m : Nat) (B U : Nat → Int) (n : Nat) (A V : Nat → Int) : ((rrun H e m B U n A V).w.fw = e.fw ∨ (rrun H e m B U n A V).w.fw = Sl.nil) ∧ ((rrun H e m B U n A V).w.wk = e.wk ∨ (rrun H e m B U n A V).w.wk = Sl.nil) := by
  show (lf _ = _ ∨ lf _ = _) ∧ (lw _ = _ ∨ lw _ = _)
  unfold rrun srun
  simp only [lf_bif, lw_bif]
  cases (st0 H e).r.k == 3
  · dsimp only [cond_false]
    unfold sfet
    simp only [lf_bif, lw_bif]
    cases (st0 H e).h.pc % 4 != 0
    · dsimp only [cond_false]
      cases (hwalk (st0 H e).h (st0 H e).h.pc 1 m B U).k == 1
      · dsimp only [cond_false]
        rw [(l_splace _ _ _ _ _ _).1, (l_splace _ _ _ _ _ _).2]
        exact ⟨Or.inl rfl, Or.inr rfl⟩
      · dsimp only [cond_true]
        unfold sfet1
        simp only [lf_bif, lw_bif]
        cases hhas (st0 H e).h (hwalk (st0 H e).h (st0 H e).h.pc 1 m B U).pa 4
        · exact ⟨Or.inl rfl, Or.inr rfl⟩
        · dsimp only [cond_true]
          unfold sfet2
          simp only [lf_bif, lw_bif]
          cases decB (st0 H e).r.wd
          · exact ⟨Or.inl rfl, Or.inr rfl⟩
          · dsimp only [cond_true]
            refine ⟨Or.inl (l_sdo _ _ _ _ _).1, ?_⟩
            rcases (l_sdo (_ : St) _ n A V).2 with h | h
            · exact Or.inr h
            · exact Or.inl h
    · exact ⟨Or.inr rfl, Or.inr rfl⟩
  · dsimp only [cond_true]
    unfold sint
    simp only [lf_bif, lw_bif]
    cases pend _ <;> exact ⟨Or.inr rfl, Or.inr rfl⟩
end Go.Proofs.YteilpehekabccabGreatDoor.W

/- What is a step just if it is like one; without any Go. -/
namespace Go.Proofs.YteilpehekabccabGreatDoor.W
open Go.RowKit
set_option linter.unusedVariables false
set_option linter.unusedSimpArgs false

/-- The same, but for times and entries. -/
def likeB (a b : Ev) : Bool := (a.k == b.k) && ((a.pc == b.pc) && ((a.wd == b.wd) && ((a.fpa == b.fpa) && ((a.pa == b.pa) && ((a.ld == b.ld) && ((a.ca == b.ca) && ((a.tv == b.tv) && (a.dn == b.dn))))))))
/-- An interrupt is no step where none can come. -/
theorem rrun_int (H : Ht) (e : Ev) (hp : pend (bell H.G true) = false) (k3 : (e.k == 3) = true) (m : Nat) (B U : Nat → Int) (n : Nat) (A V : Nat → Int) : (rrun H e m B U n A V).w.k = 0 := by
  unfold rrun srun
  show (bif e.k == 3 then sint (st0 H e) else sfet (st0 H e) m B U n A V).w.k = 0
  rw [k3]
  show (sint (st0 H e)).w.k = 0
  unfold sint
  show (bif pend (bell H.G true) then _ else _ : St).w.k = 0
  rw [hp]
  rfl
theorem want_n (H : Ht) (e : Ev) (f0 : e.fw.n = 0) (w0 : e.wk.n = 0) (m : Nat) (B U : Nat → Int) (n : Nat) (A V : Nat → Int) : (rrun H e m B U n A V).w.fw.n = 0 ∧ (rrun H e m B U n A V).w.wk.n = 0 := by
  obtain ⟨h1, h2⟩ := rrun_lists H e m B U n A V
  constructor
  · rcases h1 with h | h <;> rw [h]
    · exact f0
    · rfl
  · rcases h2 with h | h <;> rw [h]
    · exact w0
    · rfl
theorem bent_law (H : Ht) (hp : pend (bell H.G true) = false) (e g : Ev) (e1 : e.fw.n = 0) (e2 : e.wk.n = 0) (g1 : g.fw.n = 0) (g2 : g.wk.n = 0) (h1 : g.wd = e.wd) (h2 : g.ld = e.ld) (h3 : g.dn = e.dn) (m : Nat) (B U : Nat → Int) (n : Nat) (A V : Nat → Int)
    (hok : (!((rrun H e m B U n A V).w.k == 0) && sameE e (rrun H e m B U n A V).w) = true) : (!((rrun H g m B U n A V).w.k == 0) && sameE g (rrun H g m B U n A V).w) = likeB g e := by
  have he3 : (e.k == 3) = false := by
    cases h : (e.k == 3)
    · rfl
    · rw [rrun_int H e hp h] at hok
      simp at hok
  obtain ⟨ne1, ne2⟩ := want_n H e e1 e2 m B U n A V
  obtain ⟨ng1, ng2⟩ := want_n H g g1 g2 m B U n A V
  cases hg3 : (g.k == 3)
  · have hs := rrun_alike H e g m B U n A V h1 h2 h3 he3 hg3
    generalize rrun H e m B U n A V = R at *
    generalize rrun H g m B U n A V = R' at *
    have hw := congrArg St.w hs
    simp only [strip, Ev.mk.injEq] at hw
    obtain ⟨q1, q2, q3, q4, q5, q6, _, _, q7, q8, q9, _, _⟩ := hw
    simp only [sameE, Bool.and_eq_true, beq_iff_eq, Bool.not_eq_true'] at hok
    obtain ⟨k0, r1, r2, r3, r4, r5, r6, r7, r8, r9, _, _⟩ := hok
    unfold sameE likeB
    rw [q1, q2, q3, q4, q5, q6, q7, q8, q9, ng1, ng2, g1, g2, k0, r1, r2, r3, r4, r5, r6, r7, r8, r9]
    simp
  · rw [rrun_int H g hp hg3]
    have : (g.k == e.k) = false := by
      have a1 : g.k = 3 := by simpa using hg3
      have a2 : ¬ e.k = 3 := by simpa using he3
      rw [a1]
      simp only [beq_eq_false_iff_ne, ne_eq]
      exact fun h => a2 h.symm
    simp [likeB, this]
end Go.Proofs.YteilpehekabccabGreatDoor.W

/- What HartWrong calls: the load that is told wrongly. -/
namespace Go.Proofs.YteilpehekabccabGreatDoor
open Go.ChangeShapes Go.WideShapes Go.ChangeAt Go.RowKit
set_option linter.unusedVariables false
set_option linter.unusedSimpArgs false

namespace W
/-- lbu x3, 64(x0) -/
def lx : Int := 67125635
theorem lx_dec : decB 67125635 = true ∧ decI 67125635 = ⟨14, 3, 0, 0, 0, 64, false, false⟩ := ⟨by decide +kernel, by kernel_rfl⟩
theorem lx_enc : encE (in5 14 3 0 0 64) = 0 ∧ encV (in5 14 3 0 0 64) = 67125635 := ⟨by decide +kernel, by decide +kernel⟩
abbrev h4 : Ht := H0 0 4096
theorem rrun_lx (ev : Ev) (hx : ev.wd = 67125635) (k3 : (ev.k == 3) = false) (hw : ev.wk = Sl.nil) (B U A V : Nat → Int) :
    rrun h4 ev 0 B U 0 A V = ⟨{ hput h4 3 (ext 14 (bitsOf ev.ld 0 8)) with pc := 4 }, ev, { wd0 h4 ev with k := 1, pa := 64, ld := bitsOf ev.ld 0 8 }, { Ef.no with k := 1, ad := 64, sz := 1 }⟩ := by
  rw [rrun_dec h4 ev rfl rfl (by show (0 : Int) + 4 ≤ 4096; omega) k3 (by rw [hx]; exact lx_dec.1) B U 0 A V, hx, lx_dec.2, sdo_acc h4 ev _ 0 A V (Or.inl (by decide +kernel))]
  rw [acc_in (fetd h4 ev) rfl _ _ _ A V 64 (by decide +kernel) (by decide +kernel)]
  have hh : hhas h4 64 (sz 14) = true := by decide +kernel
  have q4 : (kind 14 == 4) = true := by decide +kernel
  have hz : sz 14 = 1 := by decide +kernel
  simp only [sacc2, fetd, hh, Bool.not_true, Bool.false_and, cond_false, hw, smove, q4, cond_true, sload, hz]
  rfl
theorem same_f (e w : Ev) (h : e.k ≠ w.k ∨ e.pc ≠ w.pc ∨ e.pa ≠ w.pa ∨ e.ld ≠ w.ld ∨ e.dn ≠ w.dn) : sameE e w = false := by
  unfold sameE
  rcases h with h | h | h | h | h <;> simp [h]
theorem lx_rg : Rg 67125635 := ⟨by decide, by decide⟩
end W

/-- An event of that word that is told wrongly. -/
theorem replay_lx (c : Nat) (ev : W.Ev) (E : Addr) (hx : ev.wd = 67125635) (k3 : (ev.k == 3) = false) (hf : ev.fw = W.Sl.nil) (hw : ev.wk = W.Sl.nil) (h : ev.k ≠ 1 ∨ ev.pc ≠ 0 ∨ ev.pa ≠ 64 ∨ ev.ld ≠ W.bitsOf ev.ld 0 8 ∨ ev.dn ≠ false) (w : World) (k : HAt c W.h4 w) (t : Tr E w) :
    Calls Tryz.prog 8 #[.pointer (some ⟨c, 0, none⟩), .agg (evCells ev)] w fun z w' => z = .returned (.tuple #[.agg (efCells W.Ef.no), .iface 172 (.pointer (some E))]) ∧ HAt c W.h4 w' ∧ w.grownBy w' (some c) :=
  replay_n c W.h4 ev E (H0_ok 0 4096) (by rw [hx]; exact ⟨by decide, by decide⟩) hf hw _ (fun B U A V => W.rrun_lx ev hx k3 hw B U A V) (by exact hf) rfl (by rw [W.same_f _ _ h]; exact Bool.and_false _) w k t
/-- An interrupt where none can come. -/
theorem replay_ix (c : Nat) (E : Addr) (w : World) (k : HAt c W.h4 w) (t : Tr E w) :
    Calls Tryz.prog 8 #[.pointer (some ⟨c, 0, none⟩), .agg (evCells ⟨3, 0, 0, 0, 0, 0, W.Sl.nil, W.Sl.nil, 2147483651, 0, false, 0, 0⟩)] w fun z w' => z = .returned (.tuple #[.agg (efCells W.Ef.no), .iface 172 (.pointer (some E))]) ∧ HAt c W.h4 w' ∧ w.grownBy w' (some c) :=
  replay_n c W.h4 _ E (H0_ok 0 4096) ⟨by decide, by decide⟩ rfl rfl (W.sint (W.st0 W.h4 ⟨3, 0, 0, 0, 0, 0, W.Sl.nil, W.Sl.nil, 2147483651, 0, false, 0, 0⟩)) (fun B U A V => rfl) rfl rfl rfl w k t
/-- An entry that nobody asked for. -/
theorem replay_px (c P : Nat) (v : Int) (E : Addr) (w : World) (k : HAt c W.h4 w) (t : Tr E w) (v0 : 0 ≤ v) (hP : w.heap[P]? = some (.cells #[.int .u32 v, .int .u32 0, .int .u32 0, .int .i64 0, .bool false] 32)) :
    Calls Tryz.prog 8 #[.pointer (some ⟨c, 0, none⟩), .agg (evCells ⟨1, 0, 67125635, 0, 64, 0, ⟨some ⟨P, 0, none⟩, 1, 1⟩, W.Sl.nil, 0, 0, false, 0, 0⟩)] w fun z w' => z = .returned (.tuple #[.agg (efCells W.Ef.no), .iface 172 (.pointer (some E))]) ∧ HAt c W.h4 w' ∧ w.grownBy w' (some c) := by
  have hl := W.rrun_lists W.h4 ⟨1, 0, 67125635, 0, 64, 0, ⟨some ⟨P, 0, none⟩, 1, 1⟩, W.Sl.nil, 0, 0, false, 0, 0⟩ 1 (fun _ => v) (fun _ => 0) 0 (fun _ => 0) (fun _ => 0)
  exact replay_any c W.h4 ⟨1, 0, 67125635, 0, 64, 0, ⟨some ⟨P, 0, none⟩, 1, 1⟩, W.Sl.nil, 0, 0, false, 0, 0⟩ (fun _ => ⟨v, 0, 0, 0, false⟩) (fun _ => ⟨0, 0, 0, 0, false⟩) E (H0_ok 0 4096) W.lx_rg (Nat.le_refl _) (Nat.le_refl _) w k t
    ⟨show (1 : Nat) ≤ maxLen by unfold maxLen; decide, fun _ => ⟨P, 0, rfl, (Array.getElem?_eq_some_iff.1 hP).1, fun j hj => by
      obtain rfl : j = 0 := Nat.lt_one_iff.1 hj
      simp [World.cell?, hP]⟩, fun _ => ⟨show (0 : Int) ≤ 0 by decide, show (0 : Int) < 4294967296 by decide⟩⟩ (reads_nil w) _ rfl hl.1 hl.2 false rfl
/-- The load, told as it is. -/
theorem replay_lz (c : Nat) (ld : Int) (E : Addr) (h : W.bitsOf ld 0 8 = ld) (w : World) (k : HAt c W.h4 w) (t : Tr E w) :
    Calls Tryz.prog 8 #[.pointer (some ⟨c, 0, none⟩), .agg (evCells ⟨1, 0, 67125635, 0, 64, ld, W.Sl.nil, W.Sl.nil, 0, 0, false, 0, 0⟩)] w fun z w' => z = .returned (.tuple #[.agg (efCells { W.Ef.no with k := 1, ad := 64, sz := 1 }), .nilIface]) ∧ HAt c { W.hput W.h4 3 (W.ext 14 ld) with pc := 4 } w' ∧ w.grownBy w' (some c) := by
  have hr : ∀ B U A V, W.rrun W.h4 ⟨1, 0, 67125635, 0, 64, ld, W.Sl.nil, W.Sl.nil, 0, 0, false, 0, 0⟩ 0 B U 0 A V = _ := fun B U A V => W.rrun_lx ⟨1, 0, 67125635, 0, 64, ld, W.Sl.nil, W.Sl.nil, 0, 0, false, 0, 0⟩ rfl rfl rfl B U A V
  simp only [h] at hr
  exact replay_y c W.h4 _ _ _ E (H0_ok 0 4096) W.lx_rg rfl rfl _ hr rfl rfl (by simp [W.sameE, W.wd0]; rfl) w k t
end Go.Proofs.YteilpehekabccabGreatDoor

/- HartWrong, walked: it returns true, whatever the number and the kind. -/
namespace Go.Proofs.YteilpehekabccabGreatDoor
open Go.ChangeShapes Go.WideShapes Go.ChangeAt Go.RowKit
set_option linter.unusedVariables false
set_option linter.unusedSimpArgs false

def bdE (l : Array (Nat × Value)) : Sem Value := Instr.build 29 l
theorem bdE_eq (l : Array (Nat × Value)) : Instr.build 29 l = bdE l := rfl
def bsE (n : Nat) (l : Array (Nat × Value)) : Sem Value := Instr.buildSlice 33 n l
theorem bsE_eq (n : Nat) (l : Array (Nat × Value)) : Instr.buildSlice 33 n l = bsE n l := rfl
def evAll (e0 e1 e2 e3 e4 e5 e6 e7 : W.Ev) : Array Value := evCells e0 ++ (evCells e1 ++ (evCells e2 ++ (evCells e3 ++ (evCells e4 ++ (evCells e5 ++ (evCells e6 ++ evCells e7))))))
set_option maxRecDepth 100000 in
theorem bs_any (e0 e1 e2 e3 e4 e5 e6 e7 : W.Ev) (w : World) : (bsE 8 #[(0, .agg (evCells e0)), (1, .agg (evCells e1)), (2, .agg (evCells e2)), (3, .agg (evCells e3)), (4, .agg (evCells e4)), (5, .agg (evCells e5)), (6, .agg (evCells e6)), (7, .agg (evCells e7))]).run Tryz.prog w = .ok (.slice (some ⟨w.heap.size, 0, none⟩) 8 8) (w.alloc (.cells (evAll e0 e1 e2 e3 e4 e5 e6 e7) 29)) := by kernel_rfl
theorem app_r {A B : Array Value} (n k : Nat) (h : A.size = n) : (A ++ B)[n + k]? = B[k]? := by
  rw [Array.getElem?_append_right (by omega)]
  congr 1
  omega
theorem app_l {A B : Array Value} {k : Nat} {v : Value} (h : A[k]? = some v) : (A ++ B)[k]? = some v := by
  obtain ⟨hk, _⟩ := Array.getElem?_eq_some_iff.1 h
  rw [Array.getElem?_append_left hk, h]
def ev8 (e0 e1 e2 e3 e4 e5 e6 e7 : W.Ev) : Nat → W.Ev
  | 0 => e0 | 1 => e1 | 2 => e2 | 3 => e3 | 4 => e4 | 5 => e5 | 6 => e6 | _ => e7
theorem ld_all (e0 e1 e2 e3 e4 e5 e6 e7 : W.Ev) (g : Nat) (w : World) (h : w.heap[g]? = some (.cells (evAll e0 e1 e2 e3 e4 e5 e6 e7) 29)) (j : Nat) (hj : j < 8) : (ldE ⟨g, j * 13, none⟩).run Tryz.prog w = .ok (.agg (evCells (ev8 e0 e1 e2 e3 e4 e5 e6 e7 j))) w := by
  have z := evCells_size
  unfold evAll at h
  match j, hj with
  | 0, _ => exact load_part h (fun k v hv => by rw [show 0 * 13 + k = k by omega]; exact app_l hv) (by simp [go_sem]) (by rw [evCells_size]; simp [go_sem])
  | 1, _ => exact load_part h (fun k v hv => by rw [show 1 * 13 + k = 13 + k by omega, app_r _ _ (z _)]; exact app_l hv) (by simp [go_sem]) (by rw [evCells_size]; simp [go_sem])
  | 2, _ => exact load_part h (fun k v hv => by rw [show 2 * 13 + k = 13 + (13 + k) by omega, app_r _ _ (z _), app_r _ _ (z _)]; exact app_l hv) (by simp [go_sem]) (by rw [evCells_size]; simp [go_sem])
  | 3, _ => exact load_part h (fun k v hv => by rw [show 3 * 13 + k = 13 + (13 + (13 + k)) by omega, app_r _ _ (z _), app_r _ _ (z _), app_r _ _ (z _)]; exact app_l hv) (by simp [go_sem]) (by rw [evCells_size]; simp [go_sem])
  | 4, _ => exact load_part h (fun k v hv => by rw [show 4 * 13 + k = 13 + (13 + (13 + (13 + k))) by omega, app_r _ _ (z _), app_r _ _ (z _), app_r _ _ (z _), app_r _ _ (z _)]; exact app_l hv) (by simp [go_sem]) (by rw [evCells_size]; simp [go_sem])
  | 5, _ => exact load_part h (fun k v hv => by rw [show 5 * 13 + k = 13 + (13 + (13 + (13 + (13 + k)))) by omega, app_r _ _ (z _), app_r _ _ (z _), app_r _ _ (z _), app_r _ _ (z _), app_r _ _ (z _)]; exact app_l hv) (by simp [go_sem]) (by rw [evCells_size]; simp [go_sem])
  | 6, _ => exact load_part h (fun k v hv => by rw [show 6 * 13 + k = 13 + (13 + (13 + (13 + (13 + (13 + k))))) by omega, app_r _ _ (z _), app_r _ _ (z _), app_r _ _ (z _), app_r _ _ (z _), app_r _ _ (z _), app_r _ _ (z _)]; exact app_l hv) (by simp [go_sem]) (by rw [evCells_size]; simp [go_sem])
  | 7, _ => exact load_part h (fun k v hv => by rw [show 7 * 13 + k = 13 + (13 + (13 + (13 + (13 + (13 + (13 + k)))))) by omega, app_r _ _ (z _), app_r _ _ (z _), app_r _ _ (z _), app_r _ _ (z _), app_r _ _ (z _), app_r _ _ (z _), app_r _ _ (z _)]; exact hv) (by simp [go_sem]) (by rw [evCells_size]; simp [go_sem])

namespace W
theorem low8 (x : Int) (x0 : 0 ≤ x) (x1 : x < 4294967296) : bitsOf x 0 8 = x % 256 := by
  have e : bitsOf x 0 8 = bits .and .u32 (x / 2 ^ 0) 255 := rfl
  rw [e]
  have h := low_and x 8 (by decide) x0 x1
  simpa using h
theorem and255 (v : Int) (v0 : 0 ≤ v) (v1 : v < 4294967296) : bits .and .u32 v 255 = v % 256 := by simpa using low_and v 8 (by decide) v0 v1
theorem or256 (v : Int) (v0 : 0 ≤ v) (v1 : v < 4294967296) : bits .or .u32 v 256 ≠ bitsOf (bits .or .u32 v 256) 0 8 := by
  have hl := bitsOf_lt (bits .or .u32 v 256) 0 8
  intro h
  have h0 : 0 ≤ bits .or .u32 v 256 ∧ bits .or .u32 v 256 < 4294967296 := by rw [h]; exact hl
  have ht := tb_or v 256 8 v0 v1 (by decide) (by decide)
  rw [low8 _ h0.1 h0.2] at h
  rw [tb_small (bits .or .u32 v 256) 8 8 h0.1 (by omega) (Nat.le_refl _), show tb 256 8 = true by decide, Bool.or_true] at ht
  cases ht
theorem and252 (v : Int) (v0 : 0 ≤ v) (v1 : v < 4294967296) : (4 + bits .and .u32 v 252) % 4294967296 ≠ 0 := by
  have hl := and_lt v 252
  intro h
  have e : bits .and .u32 v 252 = 4294967292 := by omega
  have ht := tb_and v 252 8 v0 v1 (by decide) (by decide)
  rw [e, show tb 4294967292 8 = true by decide, show tb 252 8 = false by decide, Bool.and_false] at ht
  cases ht
theorem ext14 (x : Int) (h : bitsOf x 0 8 = x) : ext 14 x = x := h
end W
structure Wr (A : Nat → Addr) (c g P : Nat) (v : Int) (ALL : Array Value) (n : Nat) (w0 w : World) : Prop where
  h : Hb (A 0) c W.h4 n w0 w
  gg : w.heap[g]? = some (.cells ALL 29)
  pp : w.heap[P]? = some (.cells #[.int .u32 v, .int .u32 0, .int .u32 0, .int .i64 0, .bool false] 32)
  gc : g ≠ c
  pc : P ≠ c
theorem Wr.below {A : Nat → Addr} {c g P n : Nat} {v : Int} {ALL : Array Value} {w0 w w' : World} (k : Wr A c g P v ALL n w0 w) (hb : Below w.heap.size w w') : Wr A c g P v ALL n w0 w' :=
  ⟨k.h.below hb, (hb.block g (Array.getElem?_eq_some_iff.1 k.gg).1).trans k.gg, (hb.block P (Array.getElem?_eq_some_iff.1 k.pp).1).trans k.pp, k.gc, k.pc⟩
theorem Wr.alloc {A : Nat → Addr} {c g P n : Nat} {v : Int} {ALL : Array Value} {w0 w : World} (k : Wr A c g P v ALL n w0 w) (o : Obj) : Wr A c g P v ALL n w0 (w.alloc o) := k.below ((Below.refl _ _).alloc (Nat.le_refl _) _)
theorem Wr.step {A : Nat → Addr} {c g P n : Nat} {v : Int} {ALL : Array Value} {w0 w w' : World} (k : Wr A c g P v ALL n w0 w) (h : HAt c W.h4 w') (hg : w.grownBy w' (some c)) : Wr A c g P v ALL n w0 w' :=
  ⟨k.h.step h hg, (hg.block g (Array.getElem?_eq_some_iff.1 k.gg).1 (by have := k.gc; simp; omega)).trans k.gg, (hg.block P (Array.getElem?_eq_some_iff.1 k.pp).1 (by have := k.pc; simp; omega)).trans k.pp, k.gc, k.pc⟩

attribute [local go_sem ↓] ldE_eq bdE_eq bsE_eq
set_option maxRecDepth 100000 in
set_option maxHeartbeats 3200000 in
theorem hartwrong_walk (A : Nat → Addr) (v kind : Int) (v0 : 0 ≤ v) (v1 : v < 4294967296) (k0 : -9223372036854775808 ≤ kind) (k1 : kind ≤ 9223372036854775807) (w : World) (hS : SentX A w) :
    Calls Tryz.prog 3 #[.int .u32 v, .int .i64 kind] w fun e w' => e = .returned (.bool true) ∧ Below w.heap.size w w' := by
  have hE : Tr (A 0) w := hS.cell 0 (by decide)
  have hF := first10_any (A 0) w hE
  have hN := hnew_any 0 4096
  have hWd := fun w => cword_any 14 3 0 0 64 (by decide) (by decide) _ W.lx_enc.1 W.lx_enc.2 w
  have hNum := fun w => number_any kind 9 k0 k1 (by decide) (by decide) w
  have n0 : 0 ≤ kind % 9 := by omega
  have n1 : kind % 9 < 9 := by omega
  generalize kind % 9 = m at *
  have hb1 : ∀ (x a : Int) w, (bdE #[(0, .int .i64 1), (2, .int .u32 x), (4, .int .u32 64), (5, .int .u32 a)]).run Tryz.prog w = .ok (.agg (evCells ⟨1, 0, x, 0, 64, a, W.Sl.nil, W.Sl.nil, 0, 0, false, 0, 0⟩)) w := fun x a w => by kernel_rfl
  have hb2 : ∀ (k x a : Int) w, (bdE #[(0, .int .i64 k), (2, .int .u32 x), (4, .int .u32 a)]).run Tryz.prog w = .ok (.agg (evCells ⟨k, 0, x, 0, a, 0, W.Sl.nil, W.Sl.nil, 0, 0, false, 0, 0⟩)) w := fun k x a w => by kernel_rfl
  have hb3 : ∀ (p x : Int) w, (bdE #[(0, .int .i64 1), (1, .int .u32 p), (2, .int .u32 x), (4, .int .u32 64)]).run Tryz.prog w = .ok (.agg (evCells ⟨1, p, x, 0, 64, 0, W.Sl.nil, W.Sl.nil, 0, 0, false, 0, 0⟩)) w := fun p x w => by kernel_rfl
  have hb5 : ∀ (x : Int) w, (bdE #[(0, .int .i64 1), (2, .int .u32 x), (4, .int .u32 64), (10, .bool true)]).run Tryz.prog w = .ok (.agg (evCells ⟨1, 0, x, 0, 64, 0, W.Sl.nil, W.Sl.nil, 0, 0, true, 0, 0⟩)) w := fun x w => by kernel_rfl
  have hb6 : ∀ w, (bdE #[(0, .int .i64 3), (8, .int .u32 2147483651)]).run Tryz.prog w = .ok (.agg (evCells ⟨3, 0, 0, 0, 0, 0, W.Sl.nil, W.Sl.nil, 2147483651, 0, false, 0, 0⟩)) w := fun w => by kernel_rfl
  have hb7 : ∀ (x : Int) w, (bdE #[(0, .int .i64 2), (2, .int .u32 x), (8, .int .u32 13), (9, .int .u32 64)]).run Tryz.prog w = .ok (.agg (evCells ⟨2, 0, x, 0, 0, 0, W.Sl.nil, W.Sl.nil, 13, 64, false, 0, 0⟩)) w := fun x w => by kernel_rfl
  have hb8 : ∀ (x : Int) (P : Nat) w, (bdE #[(0, .int .i64 1), (2, .int .u32 x), (4, .int .u32 64), (6, .slice (some ⟨P, 0, none⟩) 1 1)]).run Tryz.prog w = .ok (.agg (evCells ⟨1, 0, x, 0, 64, 0, ⟨some ⟨P, 0, none⟩, 1, 1⟩, W.Sl.nil, 0, 0, false, 0, 0⟩)) w := fun x P w => by kernel_rfl
  have hbs := bs_any
  have HH : Hid (_ ∧ _ ∧ _ ∧ _) := ⟨hF, hN, hWd, hNum⟩
  clear hF hN hWd hNum
  go_enter Tryz.func3, Tryz.ntmps3
  go_wp2_with (fail)
  refine HH.out.1.mono ?_
  rintro e w1 ⟨rfl, b1⟩
  go_wp2_with (fail)
  refine (HH.out.2.1 w1).mono ?_
  rintro e w2 ⟨c, hc, rfl, k2, b2⟩
  have S2 := Hb.new (hE.below b1) hc k2 b2
  have lc := k2.lt
  clear k2 b2
  go_wp2_with (fail)
  refine (HH.out.2.2.1 w2).mono ?_
  rintro e w3 ⟨rfl, b3⟩
  have S3 := S2.below b3
  have lc3 : c < w3.heap.size := Nat.lt_of_lt_of_le lc b3.size
  clear S2 b3 lc
  go_wp2_with (fail)
  refine (HH.out.2.2.2 w3).mono ?_
  rintro e w3' ⟨rfl, rfl⟩
  go_wp2
  have f1 := W.or256 v v0 v1
  have f2 : (65 + bits .and .u32 v 255) % 4294967296 ≠ 64 := by rw [W.and255 v v0 v1]; omega
  have f3 := W.and252 v v0 v1
  have f9 : W.bitsOf (bits .and .u32 v 255) 0 8 = bits .and .u32 v 255 := by
    rw [W.low8 _ (W.and_lt v 255).1 (W.and_lt v 255).2, W.and255 v v0 v1]
    omega
  have SA : SentX A w1 := hS.below b1
  have S5 : Wr A c (w3.heap.size + 1) w3.heap.size v (evAll ⟨1, 0, 67125635, 0, 64, bits .or .u32 v 256, W.Sl.nil, W.Sl.nil, 0, 0, false, 0, 0⟩ ⟨1, 0, 67125635, 0, (65 + bits .and .u32 v 255) % 4294967296, 0, W.Sl.nil, W.Sl.nil, 0, 0, false, 0, 0⟩ ⟨1, (4 + bits .and .u32 v 252) % 4294967296, 67125635, 0, 64, 0, W.Sl.nil, W.Sl.nil, 0, 0, false, 0, 0⟩ ⟨4 + m, 0, 67125635, 0, 64, 0, W.Sl.nil, W.Sl.nil, 0, 0, false, 0, 0⟩ ⟨1, 0, 67125635, 0, 64, 0, W.Sl.nil, W.Sl.nil, 0, 0, true, 0, 0⟩ ⟨3, 0, 0, 0, 0, 0, W.Sl.nil, W.Sl.nil, 2147483651, 0, false, 0, 0⟩ ⟨2, 0, 67125635, 0, 0, 0, W.Sl.nil, W.Sl.nil, 13, 64, false, 0, 0⟩ ⟨1, 0, 67125635, 0, 64, 0, ⟨some ⟨w3.heap.size, 0, none⟩, 1, 1⟩, W.Sl.nil, 0, 0, false, 0, 0⟩) w1.heap.size w1
      ((w3.alloc (.cells #[.int .u32 v, .int .u32 0, .int .u32 0, .int .i64 0, .bool false] 32)).alloc (.cells (evAll ⟨1, 0, 67125635, 0, 64, bits .or .u32 v 256, W.Sl.nil, W.Sl.nil, 0, 0, false, 0, 0⟩ ⟨1, 0, 67125635, 0, (65 + bits .and .u32 v 255) % 4294967296, 0, W.Sl.nil, W.Sl.nil, 0, 0, false, 0, 0⟩ ⟨1, (4 + bits .and .u32 v 252) % 4294967296, 67125635, 0, 64, 0, W.Sl.nil, W.Sl.nil, 0, 0, false, 0, 0⟩ ⟨4 + m, 0, 67125635, 0, 64, 0, W.Sl.nil, W.Sl.nil, 0, 0, false, 0, 0⟩ ⟨1, 0, 67125635, 0, 64, 0, W.Sl.nil, W.Sl.nil, 0, 0, true, 0, 0⟩ ⟨3, 0, 0, 0, 0, 0, W.Sl.nil, W.Sl.nil, 2147483651, 0, false, 0, 0⟩ ⟨2, 0, 67125635, 0, 0, 0, W.Sl.nil, W.Sl.nil, 13, 64, false, 0, 0⟩ ⟨1, 0, 67125635, 0, 64, 0, ⟨some ⟨w3.heap.size, 0, none⟩, 1, 1⟩, W.Sl.nil, 0, 0, false, 0, 0⟩) 29)) :=
    ⟨(S3.alloc _).alloc _, by have := heap_alloc_last (w3.alloc (.cells #[.int .u32 v, .int .u32 0, .int .u32 0, .int .i64 0, .bool false] 32)) (.cells (evAll ⟨1, 0, 67125635, 0, 64, bits .or .u32 v 256, W.Sl.nil, W.Sl.nil, 0, 0, false, 0, 0⟩ ⟨1, 0, 67125635, 0, (65 + bits .and .u32 v 255) % 4294967296, 0, W.Sl.nil, W.Sl.nil, 0, 0, false, 0, 0⟩ ⟨1, (4 + bits .and .u32 v 252) % 4294967296, 67125635, 0, 64, 0, W.Sl.nil, W.Sl.nil, 0, 0, false, 0, 0⟩ ⟨4 + m, 0, 67125635, 0, 64, 0, W.Sl.nil, W.Sl.nil, 0, 0, false, 0, 0⟩ ⟨1, 0, 67125635, 0, 64, 0, W.Sl.nil, W.Sl.nil, 0, 0, true, 0, 0⟩ ⟨3, 0, 0, 0, 0, 0, W.Sl.nil, W.Sl.nil, 2147483651, 0, false, 0, 0⟩ ⟨2, 0, 67125635, 0, 0, 0, W.Sl.nil, W.Sl.nil, 13, 64, false, 0, 0⟩ ⟨1, 0, 67125635, 0, 64, 0, ⟨some ⟨w3.heap.size, 0, none⟩, 1, 1⟩, W.Sl.nil, 0, 0, false, 0, 0⟩) 29); simpa using this,
      (((Below.refl _ _).alloc (Nat.le_refl _) _).block w3.heap.size (by simp)).trans (heap_alloc_last w3 _), by omega, by omega⟩
  have hR : ∀ j, j < 8 → ∀ wr, Wr A c (w3.heap.size + 1) w3.heap.size v (evAll ⟨1, 0, 67125635, 0, 64, bits .or .u32 v 256, W.Sl.nil, W.Sl.nil, 0, 0, false, 0, 0⟩ ⟨1, 0, 67125635, 0, (65 + bits .and .u32 v 255) % 4294967296, 0, W.Sl.nil, W.Sl.nil, 0, 0, false, 0, 0⟩ ⟨1, (4 + bits .and .u32 v 252) % 4294967296, 67125635, 0, 64, 0, W.Sl.nil, W.Sl.nil, 0, 0, false, 0, 0⟩ ⟨4 + m, 0, 67125635, 0, 64, 0, W.Sl.nil, W.Sl.nil, 0, 0, false, 0, 0⟩ ⟨1, 0, 67125635, 0, 64, 0, W.Sl.nil, W.Sl.nil, 0, 0, true, 0, 0⟩ ⟨3, 0, 0, 0, 0, 0, W.Sl.nil, W.Sl.nil, 2147483651, 0, false, 0, 0⟩ ⟨2, 0, 67125635, 0, 0, 0, W.Sl.nil, W.Sl.nil, 13, 64, false, 0, 0⟩ ⟨1, 0, 67125635, 0, 64, 0, ⟨some ⟨w3.heap.size, 0, none⟩, 1, 1⟩, W.Sl.nil, 0, 0, false, 0, 0⟩) w1.heap.size w1 wr →
      ∃ ES, (ldE ⟨w3.heap.size + 1, j * 13, none⟩).run Tryz.prog wr = .ok (.agg ES) wr ∧ Calls Tryz.prog 8 #[.pointer (some ⟨c, 0, none⟩), .agg ES] wr fun z w' => z = .returned (.tuple #[.agg #[.int .i64 0, .int .u32 0, .int .i64 0, .int .u32 0, .bool false, .bool false, .bool false], .iface 172 (.pointer (some (A 0)))]) ∧ HAt c W.h4 w' ∧ wr.grownBy w' (some c) := fun j hj wr k => by
    refine ⟨_, ld_all _ _ _ _ _ _ _ _ _ wr k.gg j hj, ?_⟩
    match j, hj with
    | 0, _ => exact replay_lx c _ (A 0) rfl rfl rfl rfl (Or.inr (Or.inr (Or.inr (Or.inl f1)))) wr k.h.k k.h.t
    | 1, _ => exact replay_lx c _ (A 0) rfl rfl rfl rfl (Or.inr (Or.inr (Or.inl f2))) wr k.h.k k.h.t
    | 2, _ => exact replay_lx c _ (A 0) rfl rfl rfl rfl (Or.inr (Or.inl f3)) wr k.h.k k.h.t
    | 3, _ => exact replay_lx c _ (A 0) rfl (by show ((4 + m : Int) == 3) = false; simp; omega) rfl rfl (Or.inl (by show (4 + m : Int) ≠ 1; omega)) wr k.h.k k.h.t
    | 4, _ => exact replay_lx c _ (A 0) rfl rfl rfl rfl (Or.inr (Or.inr (Or.inr (Or.inr (show (true : Bool) ≠ false by decide))))) wr k.h.k k.h.t
    | 5, _ => exact replay_ix c (A 0) wr k.h.k k.h.t
    | 6, _ => exact replay_lx c _ (A 0) rfl rfl rfl rfl (Or.inl (show (2 : Int) ≠ 1 by decide)) wr k.h.k k.h.t
    | 7, _ => exact replay_px c _ v (A 0) wr k.h.k k.h.t v0 k.pp
  clear hb2 hb3 hb5 hb6 hb7 hb8 hbs
  have hIs : ∀ wr, Below w1.heap.size w1 wr → Calls Tryz.prog 9 #[.iface 172 (.pointer (some (A 0))), .int .i64 109] wr fun e w' => e = .returned (.bool true) ∧ Below wr.heap.size wr w' := fun wr hb => isX_any A 1 (by decide) 109 wr (SA.below hb)
  have hPc := fun wr (k : HAt c W.h4 wr) => pc_any c W.h4 wr k
  have hX := fun wr (k : HAt c W.h4 wr) => x_any c W.h4 3 wr k.xh
  have hL := fun wr (k : HAt c W.h4 wr) (t : Tr (A 0) wr) => replay_lz c (bits .and .u32 v 255) (A 0) f9 wr k t
  have hX2 := fun wr (k : HAt c { W.hput W.h4 3 (W.ext 14 (bits .and .u32 v 255)) with pc := 4 } wr) => x_any c _ 3 wr k.xh
  have e1 : W.xget W.h4 3 = 0 := rfl
  have e2 : W.xget { W.hput W.h4 3 (W.ext 14 (bits .and .u32 v 255)) with pc := 4 } 3 = bits .and .u32 v 255 := by
    rw [W.xget_put _ _ _ _ _ (by decide) (by decide), if_pos ⟨by decide, rfl⟩, W.ext14 _ f9]
  have e3 : W.h4.pc = 0 := rfl
  rw [e3] at hPc
  simp only [e1] at hX
  simp only [e2] at hX2
  generalize evAll _ _ _ _ _ _ _ _ = ALL at *
  generalize hW5 : World.alloc (World.alloc w3 _) _ = W5 at *
  have HR : Hid (_ ∧ _ ∧ _ ∧ _ ∧ _ ∧ _) := ⟨hR, hIs, hPc, hX, hL, hX2⟩
  clear hR hIs hPc hX hL hX2 e1 e2 e3 f1 f2 f3 f9 hW5
  go_loopw [9] (fun i wr => ∃ j : Nat, j ≤ 8 ∧ i = .int .i64 (j : Int) ∧ Wr A c (w3.heap.size + 1) w3.heap.size v ALL w1.heap.size w1 wr) (fun i _ => 8 - (intOf i).toNat)
  case atStart => exact ⟨0, by omega, rfl, S5⟩
  case round =>
    obtain ⟨j, hj, rfl, T⟩ := hrel
    clear S5
    by_cases hlt : j < 8
    · obtain ⟨ES, ld, HC0⟩ := HR.out.1 j hlt wr T
      have HC : Hid (Calls _ _ _ _ _) := HC0
      clear HC0
      have j0 : (0 : Int) ≤ (j : Int) := Int.natCast_nonneg _
      have j8 : (j : Int) < 8 := by omega
      go_wp2_with (fail)
      refine HC.out.mono ?_
      rintro e w6 ⟨rfl, k6, g6⟩
      have T6 := T.step k6 g6
      clear k6 g6 HC ld
      go_wp2_with (fail)
      have T7 := T6.alloc (.cells #[.int .i64 0, .int .u32 0, .int .i64 0, .int .u32 0, .bool false, .bool false, .bool false] 35)
      clear T6
      generalize World.alloc w6 (.cells #[.int .i64 0, .int .u32 0, .int .i64 0, .int .u32 0, .bool false, .bool false, .bool false] 35) = W7 at *
      refine (HR.out.2.1 W7 T7.h.b).mono ?_
      rintro e w8 ⟨rfl, b8⟩
      have T8 := T7.below b8
      clear T7 b8
      go_wp2_with (fail)
      refine (HR.out.2.2.1 w8 T8.h.k).mono ?_
      rintro e w9 ⟨rfl, rfl⟩
      go_wp2_with (fail)
      refine (HR.out.2.2.2.1 w8 T8.h.k).mono ?_
      rintro e w9 ⟨rfl, rfl⟩
      go_wp2
      go_roundw
      case rel => exact ⟨j + 1, by omega, by go_num, T8⟩
      case measure => simp [intOf]; omega
    · obtain rfl : j = 8 := by omega
      go_wp2_with (fail)
      refine (HR.out.2.2.2.2.1 wr T.h.k T.h.t).mono ?_
      rintro e w6 ⟨rfl, k6, g6⟩
      have T6 := T.h.step k6 g6
      clear k6 g6
      unfold efCells
      go_wp2_with (fail)
      have T7 := T6.alloc (.cells #[.int .i64 1, .int .u32 64, .int .i64 1, .int .u32 W.Ef.no.vl, .bool W.Ef.no.fi, .bool W.Ef.no.sf, .bool W.Ef.no.wt] 35)
      refine (HR.out.2.2.2.2.2 _ T7.k).mono ?_
      rintro e w9 ⟨rfl, rfl⟩
      go_wp2
      go_ret
      exact ⟨rfl, b1.trans (T7.b.mono b1.size)⟩
end Go.Proofs.YteilpehekabccabGreatDoor
