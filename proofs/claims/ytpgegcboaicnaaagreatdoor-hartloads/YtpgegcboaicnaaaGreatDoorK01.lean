/- Texts in one: HartP3, HartL6, HartL7. -/
import Derived.Test.YtpgegcboaicnaaaGreatDoorJ11
import Derived.Test.YtpgegcboaicnaaaGreatDoorJ42
/- What is put into registers by Lui and Addi; without any Go. -/
namespace Go.Proofs.YtpgegcboaicnaaaGreatDoor.W
open Go.RowKit
set_option linter.unusedVariables false
set_option linter.unusedSimpArgs false

theorem rrun_reck (H : Ht) (ev : Ev) (i : I) (nx v : Int) (m3 : H.G.m = 3) (p4 : H.pc % 4 = 0) (hb : H.pc + 4 ≤ H.by_) (k3 : (ev.k == 3) = false) (hd : decB ev.wd = true) (hi : decI ev.wd = i) (hk : (decide (1 ≤ kind i.op) && decide (kind i.op ≤ 3)) = true) (hn : nextV i.op i.imm H.pc (xget H i.rs1) (xget H i.rs2) = nx) (hv : resV i.op i.imm H.pc (xget H i.rs1) (xget H i.rs2) = v) (n4 : nx % 4 = 0) (B U : Nat → Int) (n : Nat) (A V : Nat → Int) :
    rrun H ev 0 B U n A V = ⟨{ hput H i.rd v with pc := nx }, ev, { wd0 H ev with k := 1 }, Ef.no⟩ := by
  rw [rrun_dec H ev m3 p4 hb k3 hd B U n A V, hi]
  exact sdo_reck H ev i n A V hk nx v hn hv n4
/-- The low twelve bits with their sign, and what is left. -/
def lo (a : Int) : Int := sgn a 12
def hi (a : Int) : Int := (a - lo a) % 4294967296
theorem lo_eq (a : Int) (a0 : 0 ≤ a) (a1 : a < 4294967296) : lo a = if a % 4096 < 2048 then a % 4096 else a % 4096 + 4294963200 := by
  unfold lo sgn
  rw [if_neg (by decide), if_neg (by decide)]
  show wrap32 (a * 1048576 % 4294967296) / 1048576 % 4294967296 = _
  unfold wrap32
  split <;> omega
theorem lo_lt (a : Int) (a0 : 0 ≤ a) (a1 : a < 4294967296) : Rg (lo a) := by
  rw [lo_eq a a0 a1]
  unfold Rg
  split <;> omega
theorem hi_lt (a : Int) : Rg (hi a) := by unfold hi Rg; omega
theorem hi_page (a : Int) (a0 : 0 ≤ a) (a1 : a < 4294967296) : hi a = hi a / 4096 * 4096 := by
  unfold hi
  rw [lo_eq a a0 a1]
  split <;> omega
theorem hi_lo (a : Int) (a0 : 0 ≤ a) (a1 : a < 4294967296) : (hi a + lo a) % 4294967296 = a := by unfold hi; omega
theorem imm_lo (a : Int) (a0 : 0 ≤ a) (a1 : a < 4294967296) : imm 73 (a % 4096 * 1048576) = lo a := by
  rw [← imm_I _ (by omega) (by omega), bitsOf_eq _ 20 12 (by omega) (by omega) (by decide) (by decide) (by decide)]
  show lo (a % 4096 * 1048576 / 1048576 % 4096) = lo a
  rw [lo_eq a a0 a1, lo_eq _ (by omega) (by omega)]
  split <;> split <;> omega
theorem enc_I (op rd rs1 v x : Int) (ho : (shp op).rd = true ∧ (shp op).rs1 = true ∧ (shp op).rs2 = false ∧ (shp op).csr = false ∧ (shp op).fmt = 73 ∧ (shp op).size = 0) (hk : known op = true) (r0 : 0 ≤ rd ∧ rd < 32) (s0 : 0 ≤ rs1 ∧ rs1 < 32) (x0 : 0 ≤ x) (x1 : x < 4294967296) (hv : imm 73 x = v) : encE (in5 op rd rs1 0 v) = 0 := by
  obtain ⟨h1, h2, h3, h4, h5, h6⟩ := ho
  have hf := layIB_f (s := shp op) (fm := 73) (Or.inl rfl) h5 h6
  have hB : layIB (shp op) v = true := by
    rw [hf.2.1 v, ← hv]
    exact lay_back 73 x (Or.inl rfl) x0 x1
  refine enc_in5 hk hB (range_in5 r0 s0 (by decide)) ?_
  simp [same, only, in5, h1, h2, h3, h4, hf.1]
theorem enc_addi (rd rs1 a : Int) (r0 : 0 ≤ rd ∧ rd < 32) (s0 : 0 ≤ rs1 ∧ rs1 < 32) (a0 : 0 ≤ a) (a1 : a < 4294967296) : encE (in5 19 rd rs1 0 (lo a)) = 0 :=
  enc_I 19 rd rs1 (lo a) (a % 4096 * 1048576) ⟨rfl, rfl, rfl, rfl, rfl, rfl⟩ (by decide) r0 s0 (by omega) (by omega) (imm_lo a a0 a1)
theorem next_addi (imm pc a b : Int) : nextV 19 imm pc a b = (pc + 4) % 4294967296 ∧ resV 19 imm pc a b = (a + imm) % 4294967296 := ⟨rfl, rfl⟩
end Go.Proofs.YtpgegcboaicnaaaGreatDoor.W

/- The laws' put: two registers of a hart, by Lui and Addi. -/
namespace Go.Proofs.YtpgegcboaicnaaaGreatDoor
open Go.ChangeShapes Go.WideShapes Go.ChangeAt Go.RowKit
set_option linter.unusedVariables false
set_option linter.unusedSimpArgs false

/-- An event of a place and a word. -/
def W.evp (p x : Int) : W.Ev := ⟨1, p, x, p, 0, 0, W.Sl.nil, W.Sl.nil, 0, 0, false, 0, 0⟩
/-- Replay of an instruction that reckons, or goes on elsewhere, as it has to be. -/
theorem replay_reck (c : Nat) (H : W.Ht) (i : W.I) (x p nx v : Int) (E : Addr) (hH : W.HOk H) (m3 : H.G.m = 3) (hp : H.pc = p) (p4 : p % 4 = 0) (hb : p + 4 ≤ H.by_) (hE : W.encE i = 0) (hx : W.encV i = x) (hk : (decide (1 ≤ W.kind i.op) && decide (W.kind i.op ≤ 3)) = true) (hn : W.nextV i.op i.imm p (W.xget H i.rs1) (W.xget H i.rs2) = nx) (hv : W.resV i.op i.imm p (W.xget H i.rs1) (W.xget H i.rs2) = v) (n4 : nx % 4 = 0) (w : World) (k : HAt c H w) (t : Tr E w) :
    Calls Tryz.prog 14 #[.pointer (some ⟨c, 0, none⟩), .agg #[.int .i64 1, .int .u32 p, .int .u32 x, .int .u32 p, .int .u32 0, .int .u32 0, .slice none 0 0, .slice none 0 0, .int .u32 0, .int .u32 0, .bool false, .int .i64 0, .int .i64 0]] w fun z w' => z = .returned (.tuple #[.agg #[.int .i64 0, .int .u32 0, .int .i64 0, .int .u32 0, .bool false, .bool false, .bool false], .nilIface]) ∧ HAt c { W.hput H i.rd v with pc := nx } w' ∧ w.grownBy w' (some c) := by
  obtain ⟨d1, d2, d3, d4⟩ := W.word_of hE
  rw [hx] at d1 d2 d3
  clear hE hx d4
  subst hp
  have hrr := fun B U A V => W.rrun_reck H (W.evp H.pc x) i nx v m3 p4 hb rfl d1 d2 hk hn hv n4 B U 0 A V
  have hs := W.same_plain H (W.evp H.pc x) 0 0 0 0 1 false rfl rfl rfl rfl rfl rfl rfl rfl rfl (by decide)
  clear hn hv hk n4 d1 d2
  have := replay_y c H _ (W.evp H.pc x) W.Ef.no E hH d3 rfl rfl _ hrr rfl rfl hs w k t
  simp only [evCells, efCells, W.evp, W.Ef.no, W.Sl.nil] at this
  exact this

/-- Behind a Lui, and behind its Addi. -/
def W.lu1 (H : W.Ht) (rd a : Int) : W.Ht := { W.hput H rd (W.hi a) with pc := H.pc + 4 }
def W.lu2 (H : W.Ht) (rd a : Int) : W.Ht := { W.hput (W.lu1 H rd a) rd a with pc := H.pc + 8 }
structure Ready (H : W.Ht) (p : Int) : Prop where
  ok : W.HOk H
  m : H.G.m = 3
  pc : H.pc = p
  by_ : H.by_ = 4096
theorem Ready.lu1 {H : W.Ht} {p : Int} (h : Ready H p) (rd a : Int) (p0 : 0 ≤ p) (p1 : p < 4000) : Ready (W.lu1 H rd a) (p + 4) :=
  ⟨W.hput_ok h.ok rd (W.hi a) (H.pc + 4) (W.hi_lt a) (by rw [h.pc]; unfold W.Rg; omega), by show (W.hput H rd (W.hi a)).G.m = 3; rw [W.hput_G]; exact h.m, by show H.pc + 4 = p + 4; rw [h.pc], by show (W.hput H rd (W.hi a)).by_ = 4096; rw [W.hput_by]; exact h.by_⟩
theorem Ready.lu2 {H : W.Ht} {p : Int} (h : Ready H p) (rd a : Int) (a0 : 0 ≤ a) (a1 : a < 4294967296) (p0 : 0 ≤ p) (p1 : p < 4000) : Ready (W.lu2 H rd a) (p + 8) := by
  have k := h.lu1 rd a p0 p1
  exact ⟨W.hput_ok k.ok rd a (H.pc + 8) ⟨a0, a1⟩ (by rw [h.pc]; unfold W.Rg; omega), by show (W.hput (W.lu1 H rd a) rd a).G.m = 3; rw [W.hput_G]; exact k.m, by show H.pc + 8 = p + 8; rw [h.pc], by show (W.hput (W.lu1 H rd a) rd a).by_ = 4096; rw [W.hput_by]; exact k.by_⟩
theorem lu_get (H : W.Ht) (rd a i : Int) (r0 : 1 ≤ rd) (i0 : 0 ≤ i) (i1 : i < 32) : W.xget (W.lu2 H rd a) i = if i = rd then a else W.xget H i := by
  unfold W.lu2 W.lu1
  rw [W.xget_put _ rd a _ i i0 i1, W.xget_put _ rd _ _ i i0 i1]
  by_cases h : i = rd
  · rw [if_pos ⟨by omega, h⟩, if_pos h]
  · rw [if_neg (by rintro ⟨_, e⟩; exact h e), if_neg (by rintro ⟨_, e⟩; exact h e), if_neg h]
theorem replay_lui (c : Nat) (H : W.Ht) (rd a p x : Int) (E : Addr) (h : Ready H p) (p4 : p % 4 = 0) (p0 : 0 ≤ p) (p1 : p < 4000) (r0 : 1 ≤ rd) (r1 : rd < 32) (a0 : 0 ≤ a) (a1 : a < 4294967296) (hx : W.encV (W.in5 1 rd 0 0 (W.hi a)) = x) (w : World) (k : HAt c H w) (t : Tr E w) :
    Calls Tryz.prog 14 #[.pointer (some ⟨c, 0, none⟩), .agg #[.int .i64 1, .int .u32 p, .int .u32 x, .int .u32 p, .int .u32 0, .int .u32 0, .slice none 0 0, .slice none 0 0, .int .u32 0, .int .u32 0, .bool false, .int .i64 0, .int .i64 0]] w fun z w' => z = .returned (.tuple #[.agg #[.int .i64 0, .int .u32 0, .int .i64 0, .int .u32 0, .bool false, .bool false, .bool false], .nilIface]) ∧ HAt c (W.lu1 H rd a) w' ∧ w.grownBy w' (some c) := by
  have hh := W.hi_lt a
  have := replay_reck c H (W.in5 1 rd 0 0 (W.hi a)) x p (p + 4) (W.hi a) E h.ok h.m h.pc p4 (by rw [h.by_]; omega) (W.enc_lui rd (W.hi a) (W.hi a) (by omega) r1 hh.1 hh.2 (W.hi_page a a0 a1)) hx (show (decide (1 ≤ W.kind 1) && decide (W.kind 1 ≤ 3)) = true by decide +kernel) (by show (p + 4) % 4294967296 = p + 4; omega) rfl (by omega) w k t
  unfold W.lu1
  rw [h.pc]
  exact this
theorem replay_addi (c : Nat) (H : W.Ht) (rd a p x : Int) (E : Addr) (h : Ready H p) (p4 : p % 4 = 0) (p0 : 0 ≤ p) (p1 : p < 4000) (r0 : 1 ≤ rd) (r1 : rd < 32) (a0 : 0 ≤ a) (a1 : a < 4294967296) (hx : W.encV (W.in5 19 rd rd 0 (W.lo a)) = x) (w : World) (k : HAt c (W.lu1 H rd a) w) (t : Tr E w) :
    Calls Tryz.prog 14 #[.pointer (some ⟨c, 0, none⟩), .agg #[.int .i64 1, .int .u32 (p + 4), .int .u32 x, .int .u32 (p + 4), .int .u32 0, .int .u32 0, .slice none 0 0, .slice none 0 0, .int .u32 0, .int .u32 0, .bool false, .int .i64 0, .int .i64 0]] w fun z w' => z = .returned (.tuple #[.agg #[.int .i64 0, .int .u32 0, .int .i64 0, .int .u32 0, .bool false, .bool false, .bool false], .nilIface]) ∧ HAt c (W.lu2 H rd a) w' ∧ w.grownBy w' (some c) := by
  have h1 := h.lu1 rd a p0 p1
  have hg : W.xget (W.lu1 H rd a) rd = W.hi a := by
    unfold W.lu1
    rw [W.xget_put _ rd _ _ rd (by omega) r1, if_pos ⟨by omega, rfl⟩]
  have := replay_reck c (W.lu1 H rd a) (W.in5 19 rd rd 0 (W.lo a)) x (p + 4) (p + 8) a E h1.ok h1.m h1.pc (by omega) (by rw [h1.by_]; omega) (W.enc_addi rd rd a ⟨by omega, r1⟩ ⟨by omega, r1⟩ a0 a1) hx (show (decide (1 ≤ W.kind 19) && decide (W.kind 19 ≤ 3)) = true by decide +kernel) (by show (p + 4 + 4) % 4294967296 = p + 8; omega) (by show (W.xget (W.lu1 H rd a) rd + W.lo a) % 4294967296 = a; rw [hg]; exact W.hi_lo a a0 a1) (by omega) w k t
  unfold W.lu2
  rw [h.pc]
  exact this
end Go.Proofs.YtpgegcboaicnaaaGreatDoor

/- The laws' put. -/
namespace Go.Proofs.YtpgegcboaicnaaaGreatDoor
open Go.ChangeShapes Go.WideShapes Go.ChangeAt Go.RowKit
set_option linter.unusedVariables false
set_option linter.unusedSimpArgs false

/-- A hart in block c, a list of two words in block l, behind what was there. -/
structure Hl (E : Addr) (c l : Nat) (H : W.Ht) (u v : Int) (T : TypeId) (w0 w : World) : Prop where
  k : HAt c H w
  t : Tr E w
  g : w0.grownBy w (some c)
  c0 : 0 < c
  ll : w.heap[l]? = some (.cells #[.int .u32 u, .int .u32 v] T)
  ne : l ≠ c
theorem Hl.below {E : Addr} {c l : Nat} {H : W.Ht} {u v : Int} {T : TypeId} {w0 w w' : World} (h : Hl E c l H u v T w0 w) (hb : Below w.heap.size w w') : Hl E c l H u v T w0 w' :=
  ⟨h.k.below hb, h.t.below hb, gtrans h.g (gbelow hb), h.c0, (hb.block l (Array.getElem?_eq_some_iff.1 h.ll).1).trans h.ll, h.ne⟩
theorem Hl.alloc {E : Addr} {c l : Nat} {H : W.Ht} {u v : Int} {T : TypeId} {w0 w : World} (h : Hl E c l H u v T w0 w) (o : Obj) : Hl E c l H u v T w0 (w.alloc o) := h.below ((Below.refl _ _).alloc (Nat.le_refl _) _)
theorem Hl.drew {E : Addr} {c l : Nat} {H : W.Ht} {u v : Int} {T : TypeId} {w0 w : World} (h : Hl E c l H u v T w0 w) : Hl E c l H u v T w0 w.drew := h.below (Below.refl w.heap.size w).drew
theorem Hl.step {E : Addr} {c l : Nat} {H K : W.Ht} {u v : Int} {T : TypeId} {w0 w w' : World} (h : Hl E c l H u v T w0 w) (k : HAt c K w') (hg : w.grownBy w' (some c)) : Hl E c l K u v T w0 w' :=
  ⟨k, h.t.over hg h.c0, gtrans h.g hg, h.c0, (hg.block l (Array.getElem?_eq_some_iff.1 h.ll).1 (by have := h.ne; simpa using this)).trans h.ll, h.ne⟩
theorem Hl.cells {E : Addr} {c l : Nat} {H : W.Ht} {u v : Int} {T : TypeId} {w0 w : World} (h : Hl E c l H u v T w0 w) : w.cell? ⟨l, 0, none⟩ = some (.int .u32 u) ∧ w.cell? ⟨l, 1, none⟩ = some (.int .u32 v) ∧ l < w.heap.size := by
  have e := h.ll
  exact ⟨by simp [World.cell?, e], by simp [World.cell?, e], (Array.getElem?_eq_some_iff.1 e).1⟩

set_option maxHeartbeats 1600000 in
theorem putl_any (E : Addr) (c : Nat) (a b : Int) (a0 : 0 ≤ a) (a1 : a < 4294967296) (b0 : 0 ≤ b) (b1 : b < 4294967296) (w : World) (k : HAt c (W.H0 0 4096) w) (t : Tr E w) (c0 : 0 < c) :
    Calls Tryz.prog 25 #[.pointer (some ⟨c, 0, none⟩), .int .u32 a, .int .u32 b] w fun z w' => z = .returned (.bool true) ∧ HAt c (W.lu2 (W.lu2 (W.H0 0 4096) 1 a) 2 b) w' ∧ w.grownBy w' (some c) := by
  have l1 := k.lt
  have T0 : Ready (W.H0 0 4096) 0 := ⟨H0_ok 0 4096, rfl, rfl, rfl⟩
  have T2 : Ready (W.lu2 (W.H0 0 4096) 1 a) 8 := T0.lu2 1 a a0 a1 (by decide) (by decide)
  have T1 := T0.lu1 1 a (by decide) (by decide)
  have T3 := T2.lu1 2 b (by decide) (by decide)
  have sa := fun w => rsign_any a 12 w a0 a1
  have sb := fun w => rsign_any b 12 w b0 b1
  have la := W.lo_lt a a0 a1
  have lb := W.lo_lt b b0 b1
  have ma := W.hi_lt a
  have mb := W.hi_lt b
  have ua := fun w => cword_any 1 1 0 0 (W.hi a) ma.1 ma.2 _ (W.enc_lui 1 (W.hi a) (W.hi a) (by decide) (by decide) ma.1 ma.2 (W.hi_page a a0 a1)) rfl w
  have ub := fun w => cword_any 1 2 0 0 (W.hi b) mb.1 mb.2 _ (W.enc_lui 2 (W.hi b) (W.hi b) (by decide) (by decide) mb.1 mb.2 (W.hi_page b b0 b1)) rfl w
  have va := fun w => cword_any 19 1 1 0 (W.lo a) la.1 la.2 _ (W.enc_addi 1 1 a (by decide) (by decide) a0 a1) rfl w
  have vb := fun w => cword_any 19 2 2 0 (W.lo b) lb.1 lb.2 _ (W.enc_addi 2 2 b (by decide) (by decide) b0 b1) rfl w
  have r1 := fun w => replay_lui c (W.H0 0 4096) 1 a 0 _ E T0 (by decide) (by decide) (by decide) (by decide) (by decide) a0 a1 rfl w
  have r2 := fun w => replay_addi c (W.H0 0 4096) 1 a 0 _ E T0 (by decide) (by decide) (by decide) (by decide) (by decide) a0 a1 rfl w
  have r3 := fun w => replay_lui c (W.lu2 (W.H0 0 4096) 1 a) 2 b 8 _ E T2 (by decide) (by decide) (by decide) (by decide) (by decide) b0 b1 rfl w
  have r4 := fun w => replay_addi c (W.lu2 (W.H0 0 4096) 1 a) 2 b 8 _ E T2 (by decide) (by decide) (by decide) (by decide) (by decide) b0 b1 rfl w
  rw [show (0 : Int) + 4 = 4 from rfl] at r2
  rw [show (8 : Int) + 4 = 12 from rfl] at r4
  have p0 := fun w h => pc_any c (W.H0 0 4096) w h
  have p1 := fun w h => pc_any c (W.lu1 (W.H0 0 4096) 1 a) w h
  have p2 := fun w h => pc_any c (W.lu2 (W.H0 0 4096) 1 a) w h
  have p3 := fun w h => pc_any c (W.lu1 (W.lu2 (W.H0 0 4096) 1 a) 2 b) w h
  rw [T0.pc] at p0
  rw [T1.pc, show (0 : Int) + 4 = 4 from rfl] at p1
  rw [T2.pc] at p2
  rw [T3.pc, show (8 : Int) + 4 = 12 from rfl] at p3
  have g1 := fun w (h : HAt c (W.lu2 (W.lu2 (W.H0 0 4096) 1 a) 2 b) w) => x_g c (W.lu2 (W.lu2 (W.H0 0 4096) 1 a) 2 b) 1 a (by rw [lu_get _ 2 b 1 (by decide) (by decide) (by decide), if_neg (by decide), lu_get _ 1 a 1 (by decide) (by decide) (by decide), if_pos rfl]) w h.xh
  have g2 := fun w (h : HAt c (W.lu2 (W.lu2 (W.H0 0 4096) 1 a) 2 b) w) => x_g c (W.lu2 (W.lu2 (W.H0 0 4096) 1 a) 2 b) 2 b (by rw [lu_get _ 2 b 2 (by decide) (by decide) (by decide), if_pos rfl]) w h.xh
  clear T0 T1 T2 T3
  generalize W.encV (W.in5 1 1 0 0 (W.hi a)) = x1 at *
  generalize W.encV (W.in5 19 1 1 0 (W.lo a)) = x2 at *
  generalize W.encV (W.in5 1 2 0 0 (W.hi b)) = x3 at *
  generalize W.encV (W.in5 19 2 2 0 (W.lo b)) = x4 at *
  generalize W.lu2 (W.lu2 (W.H0 0 4096) 1 a) 2 b = h4 at *
  generalize W.lu1 (W.lu2 (W.H0 0 4096) 1 a) 2 b = h3 at *
  generalize W.lu2 (W.H0 0 4096) 1 a = h2 at *
  generalize W.lu1 (W.H0 0 4096) 1 a = h1 at *
  generalize W.H0 0 4096 = h0 at *
  have da : (a - W.lo a) % 4294967296 = W.hi a := rfl
  have db : (b - W.lo b) % 4294967296 = W.hi b := rfl
  rw [show W.sgn a 12 = W.lo a from rfl] at sa
  rw [show W.sgn b 12 = W.lo b from rfl] at sb
  generalize W.lo a = A at *
  generalize W.hi a = M at *
  generalize W.lo b = B at *
  generalize W.hi b = N at *
  have HH : Hid (_ ∧ _ ∧ _ ∧ _ ∧ _ ∧ _) := ⟨sa, sb, ua, ub, va, vb⟩
  have HR : Hid (_ ∧ _ ∧ _ ∧ _) := ⟨r1, r2, r3, r4⟩
  have HP : Hid (_ ∧ _ ∧ _ ∧ _) := ⟨p0, p1, p2, p3⟩
  have HG : Hid (_ ∧ _) := ⟨g1, g2⟩
  clear sa sb ua ub va vb r1 r2 r3 r4 p0 p1 p2 p3 g1 g2 la lb ma mb
  have S0 : Hl E c w.heap.size h0 a b 24 w (w.alloc (.cells #[.int .u32 a, .int .u32 b] 24)) := ⟨k.alloc _, t.below ((Below.refl _ _).alloc (Nat.le_refl _) _), galloc _ _ _, c0, heap_alloc_last w _, by omega⟩
  go_enter Tryz.func25, Tryz.ntmps25
  go_wp2_with (fail)
  generalize World.alloc w (.cells #[.int .u32 a, .int .u32 b] 24) = W0 at *
  generalize hl : w.heap.size = l at *
  refine wp_loop_rounds 3 ?_
  rw [rounds_succ]
  obtain ⟨q0, q1, ql⟩ := S0.cells
  go_wp2_with (fail)
  refine (HH.out.1 _).mono ?_
  rintro e w' ⟨rfl, rfl⟩
  go_wp2_with (fail)
  refine (HH.out.2.2.1 _).mono ?_
  rintro e wa0 ⟨rfl, ba⟩
  have Sa0 := S0.below ba
  clear q0 q1 ql ba S0
  obtain ⟨q0, q1, ql⟩ := Sa0.cells
  go_wp2_with (fail)
  refine (HH.out.2.2.2.2.1 _).mono ?_
  rintro e wb0 ⟨rfl, bb⟩
  have Sb0 := Sa0.below bb
  clear q0 q1 ql bb Sa0
  obtain ⟨q0, q1, ql⟩ := Sb0.cells
  go_wp2_with (fail)
  refine (HP.out.1 _ Sb0.k).mono ?_
  rintro e w' ⟨rfl, rfl⟩
  go_wp2_with (fail)
  refine (HP.out.1 _ Sb0.k).mono ?_
  rintro e w' ⟨rfl, rfl⟩
  go_wp2_with (fail)
  refine (HR.out.1 _ Sb0.k Sb0.t).mono ?_
  rintro e wc0 ⟨rfl, kk, gg⟩
  have Sc0 := Sb0.step kk gg
  clear kk gg q0 q1 ql Sb0
  obtain ⟨q0, q1, ql⟩ := Sc0.cells
  go_wp2_with (fail)
  refine (HP.out.2.1 _ (Sc0.alloc _).k).mono ?_
  rintro e w' ⟨rfl, rfl⟩
  go_wp2_with (fail)
  refine (HP.out.2.1 _ (Sc0.alloc _).k).mono ?_
  rintro e w' ⟨rfl, rfl⟩
  go_wp2_with (fail)
  refine (HR.out.2.1 _ (Sc0.alloc _).k (Sc0.alloc _).t).mono ?_
  rintro e wd0 ⟨rfl, kk, gg⟩
  have Sd0 := (Sc0.alloc _).step kk gg
  clear kk gg q0 q1 ql Sc0
  obtain ⟨q0, q1, ql⟩ := Sd0.cells
  go_wp2_with (fail)
  have S1 := Sd0.alloc (.cells #[.int .i64 0, .int .u32 0, .int .i64 0, .int .u32 0, .bool false, .bool false, .bool false] 35)
  clear q0 q1 ql Sd0
  generalize World.alloc wd0 (.cells #[.int .i64 0, .int .u32 0, .int .i64 0, .int .u32 0, .bool false, .bool false, .bool false] 35) = W1 at *
  rw [rounds_succ]
  obtain ⟨q0, q1, ql⟩ := S1.cells
  go_wp2_with (fail)
  refine (HH.out.2.1 _).mono ?_
  rintro e w' ⟨rfl, rfl⟩
  go_wp2_with (fail)
  refine (HH.out.2.2.2.1 _).mono ?_
  rintro e wa1 ⟨rfl, ba⟩
  have Sa1 := S1.below ba
  clear q0 q1 ql ba S1
  obtain ⟨q0, q1, ql⟩ := Sa1.cells
  go_wp2_with (fail)
  refine (HH.out.2.2.2.2.2 _).mono ?_
  rintro e wb1 ⟨rfl, bb⟩
  have Sb1 := Sa1.below bb
  clear q0 q1 ql bb Sa1
  obtain ⟨q0, q1, ql⟩ := Sb1.cells
  go_wp2_with (fail)
  refine (HP.out.2.2.1 _ Sb1.k).mono ?_
  rintro e w' ⟨rfl, rfl⟩
  go_wp2_with (fail)
  refine (HP.out.2.2.1 _ Sb1.k).mono ?_
  rintro e w' ⟨rfl, rfl⟩
  go_wp2_with (fail)
  refine (HR.out.2.2.1 _ Sb1.k Sb1.t).mono ?_
  rintro e wc1 ⟨rfl, kk, gg⟩
  have Sc1 := Sb1.step kk gg
  clear kk gg q0 q1 ql Sb1
  obtain ⟨q0, q1, ql⟩ := Sc1.cells
  go_wp2_with (fail)
  refine (HP.out.2.2.2 _ (Sc1.alloc _).k).mono ?_
  rintro e w' ⟨rfl, rfl⟩
  go_wp2_with (fail)
  refine (HP.out.2.2.2 _ (Sc1.alloc _).k).mono ?_
  rintro e w' ⟨rfl, rfl⟩
  go_wp2_with (fail)
  refine (HR.out.2.2.2 _ (Sc1.alloc _).k (Sc1.alloc _).t).mono ?_
  rintro e wd1 ⟨rfl, kk, gg⟩
  have Sd1 := (Sc1.alloc _).step kk gg
  clear kk gg q0 q1 ql Sc1
  obtain ⟨q0, q1, ql⟩ := Sd1.cells
  go_wp2_with (fail)
  have S2 := Sd1.alloc (.cells #[.int .i64 0, .int .u32 0, .int .i64 0, .int .u32 0, .bool false, .bool false, .bool false] 35)
  clear q0 q1 ql Sd1
  generalize World.alloc wd1 (.cells #[.int .i64 0, .int .u32 0, .int .i64 0, .int .u32 0, .bool false, .bool false, .bool false] 35) = W2 at *
  rw [rounds_succ]
  go_wp2_with (fail)
  refine (HG.out.1 _ S2.k).mono ?_
  rintro e w' ⟨rfl, rfl⟩
  go_wp2_with (fail)
  refine (HG.out.2 _ S2.k).mono ?_
  rintro e w' ⟨rfl, rfl⟩
  go_wp2
  go_ret
  exact ⟨rfl, S2.k, S2.g⟩
end Go.Proofs.YtpgegcboaicnaaaGreatDoor
