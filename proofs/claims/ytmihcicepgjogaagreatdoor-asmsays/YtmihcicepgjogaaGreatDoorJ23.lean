/- Texts in one: AsmT, AsmU, AsmV, AsmW, AsmN. -/
import Derived.Shelf.Strings.FuncGrows
import Derived.Shelf.Strconv.ParseUint10
import Derived.Test.YtmihcicepgjogaaGreatDoorJ07
import Derived.Test.YtmihcicepgjogaaGreatDoorJ09
import Derived.Test.YtmihcicepgjogaaGreatDoorJ21
import Derived.Test.YtmihcicepgjogaaGreatDoorJ22
/- How an instruction is written. -/
namespace Go.Proofs.YtmihcicepgjogaaGreatDoor
open Go.ChangeShapes Go.WideShapes Go.ChangeAt Go.RowKit
set_option linter.unusedVariables false
set_option linter.unusedSimpArgs false

theorem bat_below {T e : TypeId} {B b : Nat} {p : Value} {bs : List Value} {X Y : World} (h : Lib.BuilderAtF T e B b p bs X) (hb : Below X.heap.size X Y) : Lib.BuilderAtF T e B b p bs Y := by
  have hlt := h.lt
  obtain ⟨hB, v, hv, hown, hne⟩ := h
  exact ⟨hB, v, (hb.block b hlt).trans hv, hown.kept (row := none) ⟨hb.os, hb.tape, hb.output, hb.size, fun k hk _ => hb.block k hk⟩ (Classical.em _), hne⟩
theorem bld_below {T e : TypeId} {B b : Nat} {bs : List Value} {X Y : World} (h : Lib.IsBuilderF T e B b bs X) (hb : Below X.heap.size X Y) : Lib.IsBuilderF T e B b bs Y :=
  h.elim (fun x => .inl (bat_below x hb)) (fun x => .inr (bat_below x hb))
theorem sc_list (l : List UInt8) : Lib.strCells ⟨l.toArray⟩ = Lib.byteCells l := by
  simp [Lib.strCells, Lib.byteCells]

/-- While text goes on: what is written so far; all that was there is as it was. -/
structure Ty (A : Nat → Addr) (i : W.I) (w : World) (acc : List UInt8) (wr : World) : Prop where
  bl : Lib.IsBuilderF 96 5 (w.heap.size + 1) (w.heap.size + 1) (Lib.byteCells acc) wr
  inst : InAt w.heap.size i wr
  s0 : Sg A w
  bel : Below w.heap.size w wr
  lt : w.heap.size + 1 < wr.heap.size
theorem Ty.sg {A : Nat → Addr} {i : W.I} {w : World} {acc : List UInt8} {wr : World} (h : Ty A i w acc wr) : Sg A wr := h.s0.below h.bel
theorem Ty.call {A : Nat → Addr} {i : W.I} {w : World} {acc : List UInt8} {a b : World} (h : Ty A i w acc a) (hm : Below a.heap.size a b) : Ty A i w acc b :=
  ⟨bld_below h.bl hm, h.inst.below hm, h.s0, h.bel.trans (hm.mono h.bel.size), Nat.lt_of_lt_of_le h.lt hm.size⟩
theorem Ty.write {A : Nat → Addr} {i : W.I} {w : World} {acc l : List UInt8} {a b : World} (h : Ty A i w acc a) (h1 : Lib.BuilderAtF 96 5 (w.heap.size + 1) (w.heap.size + 1) (.pointer (some ⟨w.heap.size + 1, 0, none⟩)) (Lib.byteCells acc ++ Lib.byteCells l) b) (hm : Below (w.heap.size + 1) a b) : Ty A i w (acc ++ l) b := by
  refine ⟨Or.inr ?_, ?_, h.s0, h.bel.trans (hm.mono (by omega)), Nat.lt_of_lt_of_le h.lt hm.size⟩
  · rw [Lib.byteCells_append]
    exact h1
  · have q : ∀ j, b.cell? ⟨w.heap.size, j, none⟩ = a.cell? ⟨w.heap.size, j, none⟩ := fun j => hm.cell (by simp)
    have := h.inst
    unfold InAt at this ⊢
    simp only [q]
    exact this
theorem Ty.start {A : Nat → Addr} {i : W.I} {w : World} (hS : Sg A w) (t : TypeId) : Ty A i w [] ((w.alloc (.cells #[.int .i64 i.op, .int .i64 i.rd, .int .i64 i.rs1, .int .i64 i.rs2, .int .i64 i.csr, .int .u32 i.imm, .bool i.aq, .bool i.rl] t)).alloc (.cells #[.pointer none, .slice none 0 0] 96)) := by
  have e0 : (w.alloc (.cells #[.int .i64 i.op, .int .i64 i.rd, .int .i64 i.rs1, .int .i64 i.rs2, .int .i64 i.csr, .int .u32 i.imm, .bool i.aq, .bool i.rl] t)).heap.size = w.heap.size + 1 := by simp
  have hb := Lib.fresh_isBuilder 96 5 (w.alloc (.cells #[.int .i64 i.op, .int .i64 i.rd, .int .i64 i.rs1, .int .i64 i.rs2, .int .i64 i.csr, .int .u32 i.imm, .bool i.aq, .bool i.rl] t))
  rw [e0] at hb
  exact ⟨Lib.IsBuilderF.of hb, (InAt.start w i t).below ((Below.refl _ _).alloc (Nat.le_refl _) _), hS, ((Below.refl _ _).alloc (Nat.le_refl _) _).alloc (by simp) _, by simp⟩

namespace W
def aqL (i : I) : List UInt8 := bif i.aq then [46, 97, 113] else []
def rlL (i : I) : List UInt8 := bif i.rl then [46, 114, 108] else []
def restL (i : I) (F : List UInt8) : List UInt8 := F.flatMap fun c => bif btw c.toNat then [c] else partL i c.toNat
def spL (F : List UInt8) : List UInt8 := bif F.isEmpty then [] else [32]
/-- How an instruction is written. -/
def textL (i : I) : List UInt8 := nm i.op ++ (aqL i ++ (rlL i ++ (spL (form i.op) ++ restL i (form i.op))))
end W

theorem wstr_any (A : Nat → Addr) (i : W.I) (w : World) (acc l : List UInt8) (wr : World) (h : Ty A i w acc wr) (hl : acc.length + l.length ≤ 1000) : Calls Tryz.prog 53 #[.pointer (some ⟨w.heap.size + 1, 0, none⟩), .string ⟨l.toArray⟩] wr fun e w' => e = .returned (.tuple #[.int .i64 l.length, .nilIface]) ∧ Ty A i w (acc ++ l) w' ∧ ∀ k s pos, k ≠ w.heap.size + 1 → wr.heap[k]? = some (.stringIter s pos) → w'.heap[k]? = some (.stringIter s pos) :=
  (Tryz.Builder_WriteString_k _ _ _ ⟨l.toArray⟩ wr h.bl (by rw [Lib.byteCells_length]; show acc.length + l.length ≤ _; omega) (by have := h.lt; omega)).mono fun e w' ⟨he, h1, hb, hk⟩ => ⟨he, h.write h1 hb, fun k s pos hne hit => hk.iter hit hne⟩
theorem wbyte_any (A : Nat → Addr) (i : W.I) (w : World) (acc : List UInt8) (wr : World) (h : Ty A i w acc wr) (hl : acc.length ≤ 1000) : Calls Tryz.prog 56 #[.pointer (some ⟨w.heap.size + 1, 0, none⟩), .int .u8 32] wr fun e w' => e = .returned .nilIface ∧ Ty A i w (acc ++ [32]) w' :=
  (Tryz.Builder_WriteByte_k _ _ _ 32 wr h.bl (by rw [Lib.byteCells_length]; omega) (by have := h.lt; omega)).mono fun e w' ⟨he, h1, hb, _⟩ => ⟨he, h.write (l := [32]) h1 hb⟩
theorem rune_lo (c : UInt8) (h : c.toNat < 128) : Lib.runeCells (c.toNat : Int) = Lib.byteCells [c] := by
  rw [← Lib.byteCells_encodeRune]
  congr 1
  have h1 : (c.toNat : Int) ≤ 127 := by omega
  simp [Lib.encodeRune, Lib.encodeRuneZ, h1]
theorem wrune_any (A : Nat → Addr) (i : W.I) (w : World) (acc : List UInt8) (c : UInt8) (hc : c.toNat < 128) (wr : World) (h : Ty A i w acc wr) (hl : acc.length ≤ 1000) : Calls Tryz.prog 58 #[.pointer (some ⟨w.heap.size + 1, 0, none⟩), .int .i32 c.toNat] wr fun e w' => e = .returned (.tuple #[.int .i64 1, .nilIface]) ∧ Ty A i w (acc ++ [c]) w' ∧ ∀ k s pos, k ≠ w.heap.size + 1 → wr.heap[k]? = some (.stringIter s pos) → w'.heap[k]? = some (.stringIter s pos) :=
  (Tryz.Builder_WriteRune_k _ _ _ c.toNat (by omega) (by omega) wr h.bl (by rw [Lib.byteCells_length]; omega) (by have := h.lt; omega)).mono fun e w' ⟨he, h1, hb, hk⟩ => ⟨by rw [he, rune_lo c hc]; rfl, h.write (l := [c]) (by rw [← rune_lo c hc]; exact h1) hb, fun k s pos hne hit => hk.iter hit hne⟩

theorem Ty.iter {A : Nat → Addr} {i : W.I} {w : World} {acc : List UInt8} {a : World} (h : Ty A i w acc a) {k : Nat} {s : ByteArray} {pos : Nat} (hit : a.heap[k]? = some (.stringIter s pos)) (hk : w.heap.size < k) (pos' : Nat) : Ty A i w acc (a.iterAt k s pos') := by
  refine ⟨h.bl.iterAt hit pos', ?_, h.s0, Lib.below_iterAt h.bel (by omega) s pos', by rw [Lib.iterAt_size]; exact h.lt⟩
  have q : ∀ j, (a.iterAt k s pos').cell? ⟨w.heap.size, j, none⟩ = a.cell? ⟨w.heap.size, j, none⟩ := fun j => by
    have e := Lib.iterAt_other a k w.heap.size s pos' (by omega)
    simp only [World.cell?, e]
  have := h.inst
  unfold InAt at this ⊢
  simp only [q]
  exact this
namespace W
def okC (c : UInt8) : Bool := btw c.toNat || (c == 100 || (c == 49 || (c == 50 || (c == 99 || (c == 105 || (c == 117 || (c == 112 || c == 115)))))))
end W
theorem okC_lo (c : UInt8) (h : W.okC c = true) : c.toNat < 128 := by
  simp [W.okC, W.btw] at h
  rcases h with h | h | h | h | h | h | h | h | h
  · omega
  all_goals (rw [h]; decide)
theorem okC_part (c : UInt8) (h : W.okC c = true) (hb : W.btw c.toNat = false) : c.toNat = 100 ∨ c.toNat = 49 ∨ c.toNat = 50 ∨ c.toNat = 99 ∨ c.toNat = 105 ∨ c.toNat = 117 ∨ c.toNat = 112 ∨ c.toNat = 115 := by
  rw [W.okC, hb] at h
  simp at h
  rcases h with h | h | h | h | h | h | h | h <;> rw [h] <;> decide
theorem part_len (i : W.I) (hr : W.InR i) (c : Nat) (hc : c = 100 ∨ c = 49 ∨ c = 50 ∨ c = 99 ∨ c = 105 ∨ c = 117 ∨ c = 112 ∨ c = 115) : (W.partL i c).length ≤ 22 := by
  have hi : ∀ x : Int, (Lib.itoa (wrap32 x)).length ≤ 22 := fun x => by have h := (wrap_in x).2; have := itoa_len (wrap32 x) (by omega) (by omega); omega
  have hd : ∀ n : Int, 0 ≤ n → n ≤ 31 → (W.regL n.toNat).length ≤ 22 := fun n h0 h1 => by have := dec_len n.toNat (by omega); simp [W.regL]; omega
  rcases hc with rfl | rfl | rfl | rfl | rfl | rfl | rfl | rfl
  · rw [W.partL_100]; exact hd _ hr.rd0 hr.rd1
  · rw [W.partL_49]; exact hd _ hr.rs10 hr.rs11
  · rw [W.partL_50]; exact hd _ hr.rs20 hr.rs21
  · rw [W.partL_99]; simp [W.hexL]
  · rw [W.partL_105]; exact hi _
  · rw [W.partL_117, W.pU]; exact hi _
  · rw [W.partL_112, W.pP]; exact hi _
  · rw [W.partL_115, W.pS]; exact hi _
theorem rest_cons (i : W.I) (F : List UInt8) (pos : Nat) (hp : pos < F.length) : W.restL i (F.drop pos) = (bif W.btw F[pos].toNat then [F[pos]] else W.partL i F[pos].toNat) ++ W.restL i (F.drop (pos + 1)) := by
  rw [List.drop_eq_getElem_cons hp]
  rfl

namespace W
theorem names_len : ((List.range 70).all fun k => decide ((nameAt k).length ≤ 20)) = true := by decide +kernel
def okForm (F : List UInt8) : Bool := F.all okC && decide (F.length ≤ 9)
theorem form_ok (op : Int) : okForm (form op) = true := by
  unfold form
  cases (op == 1); case true => rfl
  cases (op == 2); case true => rfl
  cases (op == 3); case true => rfl
  cases (op == 4); case true => rfl
  cases (op == 38); case true => rfl
  cases (op == 44); case true => rfl
  cases (op == 45); case true => rfl
  cases (op == 46); case true => rfl
  cases (op == 47); case true => rfl
  cases (op == 48); case true => rfl
  cases (op == 49); case true => rfl
  cases (op == 50); case true => rfl
  cases (op == 59); case true => rfl
  simp only [cond_false]
  unfold fK
  cases (kind op == 3); case true => rfl
  cases (kind op == 4); case true => rfl
  cases (kind op == 5); case true => rfl
  cases (kind op == 6); case true => rfl
  cases hasImm (shp op); case true => rfl
  cases (shp op).rs2; case true => rfl
  rfl
end W
theorem nm_len (op : Int) : (W.nm op).length ≤ 20 := by
  unfold W.nm
  cases h : W.known op
  · simp
  · have hk : 1 ≤ op ∧ op ≤ 69 := by simpa [W.known, W.fr] using h
    have := List.all_eq_true.1 W.names_len op.toNat (List.mem_range.2 (by omega))
    simpa using this
end Go.Proofs.YtmihcicepgjogaaGreatDoor

/- text, walked. -/
namespace Go.Proofs.YtmihcicepgjogaaGreatDoor
open Go.ChangeShapes Go.WideShapes Go.ChangeAt Go.RowKit
set_option linter.unusedVariables false
set_option linter.unusedSimpArgs false

theorem part_at (A : Nat → Addr) (i : W.I) (hr : W.InR i) (c : Nat) (hc : c = 100 ∨ c = 49 ∨ c = 50 ∨ c = 99 ∨ c = 105 ∨ c = 117 ∨ c = 112 ∨ c = 115) (b1 b2 : Bool) (ha : i.aq = b1) (hl : i.rl = b2) (w : World) (hS : Sg A w) : Calls Tryz.prog 59 #[.agg #[.int .i64 i.op, .int .i64 i.rd, .int .i64 i.rs1, .int .i64 i.rs2, .int .i64 i.csr, .int .u32 i.imm, .bool b1, .bool b2], .int .i32 c] w fun e w' => e = .returned (.string ⟨(W.partL i c).toArray⟩) ∧ Below w.heap.size w w' := by
  rw [← ha, ← hl]
  exact part_any A i hr c hc w hS

set_option maxRecDepth 1000000 in
set_option maxHeartbeats 12800000 in
theorem text_any (A : Nat → Addr) (i : W.I) (hr : W.InR i) (w : World) (hS : Sg A w) : Calls Tryz.prog 26 #[inV i] w fun e w' => e = .returned (.string ⟨(W.textL i).toArray⟩) ∧ Below w.heap.size w w' := by
  have hok := W.form_ok i.op
  obtain ⟨F, hF⟩ : ∃ F, W.form i.op = F := ⟨_, rfl⟩
  rw [hF] at hok
  obtain ⟨nml, hn⟩ : ∃ l, W.nm i.op = l := ⟨_, rfl⟩
  have hl0 : Hid (nml.length ≤ 20) := (hn ▸ nm_len i.op : nml.length ≤ 20)
  obtain ⟨txt, ht⟩ : ∃ t, W.textL i = t := ⟨_, rfl⟩
  have HT : Hid (nml ++ (W.aqL i ++ (W.rlL i ++ (W.spL F ++ W.restL i F))) = txt) := (by rw [← ht, W.textL, hn, hF] : _ = txt)
  rw [ht]
  have HF : Hid (W.form i.op = F) := hF
  have HN : Hid (W.nm i.op = nml) := hn
  have HO : Hid (W.okForm F = true) := hok
  have HR : Hid (W.InR i) := hr
  have T0 : Hid (∀ t, Ty A i w [] ((w.alloc (.cells _ t)).alloc (.cells _ 96))) := Ty.start hS
  clear hF hn hr hS ht hok
  unfold inV
  cases ha : i.aq <;> cases hl : i.rl <;> cases hE : F.isEmpty
  all_goals
    go_enter Tryz.func26, Tryz.ntmps26
    go_wp2_with (first
      | (go_at_call 54; refine (name_any _ _).mono ?_; rintro e wn ⟨rfl, hm⟩; rw [ha, hl] at T0; have T : Hid (Ty A i w _ wn) := (T0.out _).call hm; clear hm; rw [HN.out]; obtain ⟨z0, z1, z2, z3, z4, z5, z6, z7⟩ := T.out.inst; rw [ha] at z6; rw [hl] at z7; have ltn := T.out.lt)
      | (go_at_call 55; refine (form_any _ _).mono ?_; rintro e wn ⟨rfl, hm⟩; have T : Hid (Ty A i w _ wn) := T.out.call hm; clear hm; rw [HF.out]; obtain ⟨z0, z1, z2, z3, z4, z5, z6, z7⟩ := T.out.inst; rw [ha] at z6; rw [hl] at z7; have ltn := T.out.lt)
      | (go_at_call 53; refine (wstr_any A i w _ _ _ T.out (by have := hl0.out; simp; omega)).mono ?_; rintro e wn ⟨rfl, hT, -⟩; have T : Hid (Ty A i w _ wn) := hT; clear hT; obtain ⟨z0, z1, z2, z3, z4, z5, z6, z7⟩ := T.out.inst; rw [ha] at z6; rw [hl] at z7; have ltn := T.out.lt)
      | (go_at_call 56; refine (wbyte_any A i w _ _ T.out (by have := hl0.out; simp; omega)).mono ?_; rintro e wn ⟨rfl, hT⟩; have T : Hid (Ty A i w _ wn) := hT; clear hT; obtain ⟨z0, z1, z2, z3, z4, z5, z6, z7⟩ := T.out.inst; rw [ha] at z6; rw [hl] at z7; have ltn := T.out.lt))
    obtain ⟨acc0, T', hA0, hlen0⟩ : ∃ acc, Ty A i w acc wn ∧ acc ++ W.restL i F = txt ∧ acc.length ≤ 40 := ⟨_, T.out, by rw [← HT.out]; simp [W.aqL, W.rlL, W.spL, ha, hl, hE], by have := hl0.out; simp; omega⟩
    have hlT := T'.lt
    clear z0 z1 z2 z3 z4 z5 z6 z7 T HT
    go_loopg [] F.length (fun gf wx => ∃ (pos : Nat) (acc : List UInt8), wx.heap[wn.heap.size]? = some (.stringIter ⟨F.toArray⟩ pos) ∧ Ty A i w acc wx ∧ acc ++ W.restL i (F.drop pos) = txt ∧ F.length ≤ pos + gf ∧ acc.length ≤ 40 + 25 * pos)
    case atStart => exact ⟨0, acc0, World.iter_heap wn _ 0, T'.call ((Below.refl _ _).alloc (Nat.le_refl _) _), by simpa using hA0, by omega, by omega⟩
    case round =>
      obtain ⟨pos, acc, hit, hT, hA, hfu, hal⟩ := hrel
      clear T' hA0 hlen0
      have hF9 : F.length ≤ 9 := by
        have := HO.out
        simp [W.okForm] at this
        exact this.2
      by_cases hp : pos < F.length
      · obtain ⟨g', rfl⟩ : ∃ g', gk = g' + 1 := ⟨gk - 1, by omega⟩
        have hcok : W.okC F[pos] = true := by
          have := HO.out
          simp [W.okForm] at this
          exact this.1 _ (List.getElem_mem hp)
        have hasc := okC_lo _ hcok
        have hnx : ∀ ty, (Instr.next (.pointer (some ⟨wn.heap.size, 0, none⟩)) true ty).run Tryz.prog wr = _ := fun ty => Lib.run_next_ascii_at wr wn.heap.size ⟨F.toArray⟩ pos ty hit hp hasc
        have hit2 := Lib.iterAt_heap wr wn.heap.size ⟨F.toArray⟩ pos (pos + 1) hit
        have hT2 := hT.iter hit (by omega) (pos + 1)
        rw [rest_cons i F pos hp] at hA
        have hcp := okC_part F[pos] hcok
        have hpl := part_len i HR.out F[pos].toNat
        obtain ⟨c, hc⟩ : ∃ c, F[pos] = c := ⟨_, rfl⟩
        have hc' : ((⟨F.toArray⟩ : ByteArray)[pos]'hp) = c := hc
        rw [hc] at hA hcok hasc hcp hpl
        rw [hc'] at hnx
        obtain ⟨W1, hW⟩ : ∃ W1, wr.iterAt wn.heap.size ⟨F.toArray⟩ (pos + 1) = W1 := ⟨_, rfl⟩
        rw [hW] at hnx hit2 hT2
        have HT2 : Hid (Ty A i w acc W1) := hT2
        have HI2 : Hid (W1.heap[wn.heap.size]? = some (.stringIter ⟨F.toArray⟩ (pos + 1))) := hit2
        have HAL : Hid (acc.length ≤ 1000 ∧ acc.length + 22 ≤ 1000) := (by constructor <;> omega : acc.length ≤ 1000 ∧ acc.length + 22 ≤ 1000)
        clear hT2 hit2 hT hit
        cases hb : W.btw c.toNat
        · go_wp2_with (first
            | (go_at_call 57; refine (between_any c.toNat _).mono ?_; rintro e wa ⟨rfl, hm⟩; rw [hb]; have T3 : Hid (Ty A i w acc wa) := HT2.out.call hm; have I3 : Hid (wa.heap[wn.heap.size]? = some (.stringIter ⟨F.toArray⟩ (pos + 1))) := (hm.block _ (Array.getElem?_eq_some_iff.1 HI2.out).1).trans HI2.out; clear hm; obtain ⟨z0, z1, z2, z3, z4, z5, z6, z7⟩ := T3.out.inst; have lt3 := T3.out.lt)
            | (go_at_call 59; refine (part_at A i HR.out c.toNat (hcp hb) _ _ ha hl _ T3.out.sg).mono ?_; rintro e wb ⟨rfl, hm⟩; have T4 : Hid (Ty A i w acc wb) := T3.out.call hm; have I4 : Hid (wb.heap[wn.heap.size]? = some (.stringIter ⟨F.toArray⟩ (pos + 1))) := (hm.block _ (Array.getElem?_eq_some_iff.1 I3.out).1).trans I3.out; clear hm; have lt4 := T4.out.lt)
            | (go_at_call 53; refine (wstr_any A i w _ _ _ T4.out (by have := hpl (hcp hb); have := HAL.out.2; omega)).mono ?_; rintro e wc ⟨rfl, hT5, hk5⟩; have T5 : Hid (Ty A i w (acc ++ W.partL i c.toNat) wc) := hT5; have I5 : Hid (wc.heap[wn.heap.size]? = some (.stringIter ⟨F.toArray⟩ (pos + 1))) := hk5 _ _ _ (by omega) I4.out; clear hT5 hk5))
          go_roundg g'
          case measure => omega
          case rel =>
            have := hpl (hcp hb)
            exact ⟨pos + 1, acc ++ W.partL i c.toNat, I5.out, T5.out, by rw [hb, cond_false] at hA; rw [List.append_assoc]; exact hA, by omega, by simp; omega⟩
        · go_wp2_with (first
            | (go_at_call 57; refine (between_any c.toNat _).mono ?_; rintro e wa ⟨rfl, hm⟩; rw [hb]; have T3 : Hid (Ty A i w acc wa) := HT2.out.call hm; have I3 : Hid (wa.heap[wn.heap.size]? = some (.stringIter ⟨F.toArray⟩ (pos + 1))) := (hm.block _ (Array.getElem?_eq_some_iff.1 HI2.out).1).trans HI2.out; clear hm; have lt3 := T3.out.lt)
            | (go_at_call 58; refine (wrune_any A i w _ c hasc _ T3.out HAL.out.1).mono ?_; rintro e wc ⟨rfl, hT5, hk5⟩; have T5 : Hid (Ty A i w (acc ++ [c]) wc) := hT5; have I5 : Hid (wc.heap[wn.heap.size]? = some (.stringIter ⟨F.toArray⟩ (pos + 1))) := hk5 _ _ _ (by omega) I3.out; clear hT5 hk5))
          go_roundg g'
          case measure => omega
          case rel => exact ⟨pos + 1, acc ++ [c], I5.out, T5.out, by rw [hb, cond_true] at hA; rw [List.append_assoc]; exact hA, by omega, by simp; omega⟩
      · have hnx : ∀ ty, (Instr.next (.pointer (some ⟨wn.heap.size, 0, none⟩)) true ty).run Tryz.prog wr = _ := fun ty => Lib.run_next_end_at wr wn.heap.size ⟨F.toArray⟩ pos ty hit hp
        have HTe : Hid (Ty A i w acc wr) := hT
        have hlt := hT.lt
        clear hT
        go_wp2_with (go_at_call 60; refine (Tryz.Builder_String_any_k (w.heap.size + 1) (w.heap.size + 1) acc _ HTe.out.bl (by omega)).mono ?_; rintro e W1 ⟨rfl, -, b1, -⟩)
        go_ret
        rw [List.drop_eq_nil_of_le (by omega), show W.restL i [] = [] from rfl, List.append_nil] at hA
        exact ⟨by rw [hA]; rfl, HTe.out.bel.trans (b1.mono (by omega))⟩
end Go.Proofs.YtmihcicepgjogaaGreatDoor

/- Print, and a word as a line. -/
namespace Go.Proofs.YtmihcicepgjogaaGreatDoor
open Go.ChangeShapes Go.WideShapes Go.ChangeAt Go.RowKit
set_option linter.unusedVariables false
set_option linter.unusedSimpArgs false

namespace W
/-- What Print answers; nothing where there is no word. -/
def printL (i : I) : List UInt8 := bif encE i == 0 then textL i else []
/-- A word as a line. -/
def lineL (x : Int) : List UInt8 := bif decB x then textL (decI x) else [46, 119, 111, 114, 100, 32] ++ (48 :: 120 :: hexL x.toNat 8)
end W

structure Wp (A : Nat → Addr) (i : W.I) (w wc : World) : Prop where
  bel : Below w.heap.size w wc
  lt : w.heap.size < wc.heap.size
  inst : InAt w.heap.size i wc
  s0 : Sg A w
theorem Wp.below {A : Nat → Addr} {i : W.I} {w a b : World} (h : Wp A i w a) (hm : Below a.heap.size a b) : Wp A i w b :=
  ⟨from2 h.bel hm, Nat.lt_of_lt_of_le h.lt hm.size, h.inst.below hm, h.s0⟩
theorem Wp.sg {A : Nat → Addr} {i : W.I} {w a : World} (h : Wp A i w a) : Sg A a := h.s0.below h.bel
theorem Wp.start {A : Nat → Addr} {i : W.I} {w : World} (hS : Sg A w) (t : TypeId) : Wp A i w (w.alloc (.cells #[.int .i64 i.op, .int .i64 i.rd, .int .i64 i.rs1, .int .i64 i.rs2, .int .i64 i.csr, .int .u32 i.imm, .bool i.aq, .bool i.rl] t)) :=
  ⟨(Below.refl _ _).alloc (Nat.le_refl _) _, by simp, InAt.start w i t, hS⟩

set_option maxRecDepth 100000 in
set_option maxHeartbeats 1600000 in
theorem print_ok (A : Nat → Addr) (i : W.I) (v : Int) (w : World) (hS : Sg A w) (he : Hid (W.encE i = 0)) (hv : Hid (W.encV i = v)) : Calls Tryz.prog 9 #[inV i] w fun e w' => e = .returned (.tuple #[.string ⟨(W.textL i).toArray⟩, .nilIface]) ∧ Below w.heap.size w w' := by
  have hr : Hid (W.InR i) := W.inR_of (W.encE_zero he.out).2.2.1
  have T0 : Hid (∀ t, Wp A i w (w.alloc (.cells _ t))) := Wp.start hS
  generalize hx : W.textL i = L
  have HX : Hid (W.textL i = L) := hx
  clear hS hx
  unfold inV
  go_enter Tryz.func9, Tryz.ntmps9
  go_wp2_with (first
    | (go_at_call 25; refine (encode_any A i _ (T0.out _).sg.sent).mono ?_; rintro e w1 ⟨rfl, hm⟩; have T1 : Hid (Wp A i w w1) := (T0.out _).below hm; clear hm; rw [he.out, hv.out, show errV A 0 = .nilIface from rfl]; obtain ⟨z0, z1, z2, z3, z4, z5, z6, z7⟩ := T1.out.inst; have lt1 := T1.out.lt)
    | (go_at_call 26; refine (text_any A i hr.out _ T1.out.sg).mono ?_; rintro e w2 ⟨rfl, hm⟩; have T2 : Hid (Wp A i w w2) := T1.out.below hm; clear hm; rw [HX.out]))
  exact bodyPost_ret (v := .tuple #[.string ⟨L.toArray⟩, .nilIface]) (by simp [results, Tryz.results9, go_sem]) rfl ⟨rfl, T2.out.bel⟩

set_option maxRecDepth 100000 in
set_option maxHeartbeats 1600000 in
theorem print_no (A : Nat → Addr) (i : W.I) (v : Int) (n : Nat) (w : World) (hS : Sg A w) (he : Hid (W.encE i = n + 1)) (hv : Hid (W.encV i = v)) : Calls Tryz.prog 9 #[inV i] w fun e w' => e = .returned (.tuple #[.string ⟨#[]⟩, errV A (n + 1)]) ∧ Below w.heap.size w w' := by
  have T0 : Hid (∀ t, Wp A i w (w.alloc (.cells _ t))) := Wp.start hS
  clear hS
  unfold inV
  go_enter Tryz.func9, Tryz.ntmps9
  go_wp2_with (first
    | (go_at_call 25; refine (encode_any A i _ (T0.out _).sg.sent).mono ?_; rintro e w1 ⟨rfl, hm⟩; have T1 : Hid (Wp A i w w1) := (T0.out _).below hm; clear hm; rw [he.out, hv.out, show errV A (n + 1) = .iface 194 (.pointer (some (A n))) from rfl]))
  exact bodyPost_ret (v := .tuple #[.string ⟨#[]⟩, errV A (n + 1)]) (by simp [results, Tryz.results9, go_sem, errV]) rfl ⟨rfl, T1.out.bel⟩

theorem print_any (A : Nat → Addr) (i : W.I) (w : World) (hS : Sg A w) : Calls Tryz.prog 9 #[inV i] w fun e w' => e = .returned (.tuple #[.string ⟨(W.printL i).toArray⟩, errV A (W.encE i)]) ∧ Below w.heap.size w w' := by
  by_cases he : W.encE i = 0
  · rw [W.printL, he]
    exact print_ok A i _ w hS he rfl
  · obtain ⟨n, hn⟩ := Nat.exists_eq_succ_of_ne_zero he
    rw [W.printL, hn]
    exact print_no A i _ n w hS hn rfl

set_option maxRecDepth 100000 in
set_option maxHeartbeats 1600000 in
theorem line_is (A : Nat → Addr) (x : Int) (i : W.I) (w : World) (hS : Sg A w) (hr : Hid (W.InR i)) (hd : Hid (W.decI x = i)) (hb : Hid (W.decB x = true)) : Calls Tryz.prog 40 #[.int .u32 x] w fun e w' => e = .returned (.string ⟨(W.textL i).toArray⟩) ∧ Below w.heap.size w w' := by
  have HS : Hid (Sg A w) := hS
  generalize hx : W.textL i = L
  have HX : Hid (W.textL i = L) := hx
  clear hS hx
  go_enter Tryz.func40, Tryz.ntmps40
  go_wp2_with (first
    | (go_at_call 73; refine (decode_any _ _).mono ?_; rintro e w1 ⟨rfl, hm⟩; have B1 : Hid (Below w.heap.size w w1) := hm; clear hm; rw [hd.out, hb.out]; unfold inV)
    | (go_at_call 26; refine (text_any A i hr.out _ (HS.out.below (B1.out.alloc B1.out.size _))).mono ?_; rintro e w2 ⟨rfl, hm⟩; have B2 : Hid (Below w.heap.size w w2) := from2 (B1.out.alloc B1.out.size _) hm; clear hm; rw [HX.out]))
  go_ret
  exact ⟨rfl, B2.out⟩

set_option maxRecDepth 100000 in
set_option maxHeartbeats 1600000 in
theorem line_no (A : Nat → Addr) (x : Nat) (hx : x < 4294967296) (i : W.I) (w : World) (hS : Sg A w) (hd : Hid (W.decI x = i)) (hb : Hid (W.decB x = false)) : Calls Tryz.prog 40 #[.int .u32 x] w fun e w' => e = .returned (.string ⟨([46, 119, 111, 114, 100, 32] ++ (48 :: 120 :: W.hexL x 8)).toArray⟩) ∧ Below w.heap.size w w' := by
  have HS : Hid (Sg A w) := hS
  have hl : (W.hexL x 8).length = 8 := by simp [W.hexL]
  generalize hL : W.hexL x 8 = L at hl
  have HL : Hid (W.hexL x 8 = L) := hL
  have h2 : ¬ 9223372036854775807 < 6 + (L.length + 1 + 1) := by omega
  clear hS hL
  go_enter Tryz.func40, Tryz.ntmps40
  go_wp2_with (first
    | (go_at_call 73; refine (decode_any _ _).mono ?_; rintro e w1 ⟨rfl, hm⟩; have B1 : Hid (Below w.heap.size w w1) := hm; clear hm; rw [hd.out, hb.out]; unfold inV)
    | (go_at_call 74; refine (hex8 A x hx _ (HS.out.below (B1.out.alloc B1.out.size _))).mono ?_; rintro e w2 ⟨rfl, hm⟩; have B2 : Hid (Below w.heap.size w w2) := from2 (B1.out.alloc B1.out.size _) hm; clear hm; rw [HL.out]))
  go_ret
  exact ⟨congrArg (fun s => Ending.returned (.string s)) (ba_append [46, 119, 111, 114, 100, 32] _), B2.out⟩
end Go.Proofs.YtmihcicepgjogaaGreatDoor

/- Where a part ends; setting a part. -/
namespace Go.Proofs.YtmihcicepgjogaaGreatDoor
open Go.ChangeShapes Go.WideShapes Go.ChangeAt Go.RowKit
set_option linter.unusedVariables false
set_option linter.unusedSimpArgs false

namespace W
def pend (L : List UInt8) : Int := bif decide (0 ≤ Lib.idxFunc btw true ⟨L.toArray⟩) then Lib.idxFunc btw true ⟨L.toArray⟩ else L.length
end W
theorem between_grows (w : World) : PredGrows Tryz.prog 57 #[] W.btw w := fun X x _ _ => between_any x X

theorem partEnd_any (L : List UInt8) (w : World) : Calls Tryz.prog 67 #[.string ⟨L.toArray⟩] w fun e w' => e = .returned (.int .i64 (W.pend L)) ∧ Below w.heap.size w w' := by
  have eg : ∀ args w, (callFunc 57 args).run Tryz.prog w = .ok (.enter 57 args) w := enters_of Tryz.func57 (by kernel_rfl) rfl
  have H : Hid (∀ w : World, Calls Tryz.prog 99 #[.string ⟨L.toArray⟩, .func (.func 57) #[] #[]] w fun e w' => e = .returned (.int .i64 (Lib.idxFunc W.btw true ⟨L.toArray⟩)) ∧ Below w.heap.size w w') := fun w => Tryz.strings_IndexFunc_grows 57 #[] eg W.btw ⟨L.toArray⟩ w (between_grows w)
  obtain ⟨n, hn⟩ : ∃ n, Lib.idxFunc W.btw true ⟨L.toArray⟩ = n := ⟨_, rfl⟩
  have HN : Hid (Lib.idxFunc W.btw true ⟨L.toArray⟩ = n) := hn
  have hp : Hid (W.pend L = bif decide (0 ≤ n) then n else L.length) := (by rw [W.pend, hn] : W.pend L = _)
  clear hn
  by_cases h0 : 0 ≤ n
  · go_enter Tryz.func67, Tryz.ntmps67
    go_wp2_with (go_at_call 99; refine (H.out _).mono ?_; rintro e w1 ⟨rfl, hm⟩; rw [HN.out])
    go_ret
    exact ⟨by rw [hp.out, decide_eq_true h0]; rfl, hm⟩
  · go_enter Tryz.func67, Tryz.ntmps67
    go_wp2_with (go_at_call 99; refine (H.out _).mono ?_; rintro e w1 ⟨rfl, hm⟩; rw [HN.out])
    go_ret
    exact ⟨by rw [hp.out, decide_eq_false (show ¬ 0 ≤ n by omega)]; rfl, hm⟩

namespace W
/-- An instruction, a part of it set. -/
def putI (i : I) (c : Nat) (n : Int) : I :=
  bif c == 100 then { i with rd := n } else bif c == 49 then { i with rs1 := n } else bif c == 50 then { i with rs2 := n } else bif c == 99 then { i with csr := n } else
  bif c == 105 then { i with imm := n % 4294967296 } else bif c == 117 then { i with imm := left (n % 4294967296) 12 } else bif c == 112 then { i with imm := left (n % 4294967296) 4 } else bif c == 115 then { i with imm := bits .or .u32 i.imm (n % 4294967296) } else i
end W

theorem set_other (w : World) (g k q : Nat) (v : Value) (hk : k ≠ g) : (w.setCell ⟨g, q, none⟩ v).heap[k]? = w.heap[k]? :=
  Below.heap_setCell _ _ _ _ hk

theorem put_100 (g : Nat) (i : W.I) (n : Int) (w : World) (hI : InAt g i w) (hf : ∀ j, w.frozen? ⟨g, j, none⟩ = false) : Calls Tryz.prog 68 #[.pointer (some ⟨g, 0, none⟩), .int .i32 100, .int .i64 n] w fun e w' => e = .returned (.tuple #[]) ∧ InAt g (W.putI i 100 n) w' ∧ (∀ j, w'.frozen? ⟨g, j, none⟩ = false) ∧ Below g w w' ∧ ∀ k, k ≠ g → w'.heap[k]? = w.heap[k]? := by
  obtain ⟨z0, z1, z2, z3, z4, z5, z6, z7⟩ := hI
  have hg := World.block_lt_of_cell? _ _ z0
  go_enter Tryz.func68, Tryz.ntmps68
  go_wp2
  go_end0
  refine ⟨rfl, ?_, fun j => by simp [hf], (Below.refl g _).setCell (p := ⟨g, _, none⟩) (Nat.le_refl g) _, fun k hk => set_other _ g k _ _ hk⟩
  unfold InAt
  simp [go_sem, z0, z1, z2, z3, z4, z5, z6, z7, W.putI]

theorem put_49 (g : Nat) (i : W.I) (n : Int) (w : World) (hI : InAt g i w) (hf : ∀ j, w.frozen? ⟨g, j, none⟩ = false) : Calls Tryz.prog 68 #[.pointer (some ⟨g, 0, none⟩), .int .i32 49, .int .i64 n] w fun e w' => e = .returned (.tuple #[]) ∧ InAt g (W.putI i 49 n) w' ∧ (∀ j, w'.frozen? ⟨g, j, none⟩ = false) ∧ Below g w w' ∧ ∀ k, k ≠ g → w'.heap[k]? = w.heap[k]? := by
  obtain ⟨z0, z1, z2, z3, z4, z5, z6, z7⟩ := hI
  have hg := World.block_lt_of_cell? _ _ z0
  go_enter Tryz.func68, Tryz.ntmps68
  go_wp2
  go_end0
  refine ⟨rfl, ?_, fun j => by simp [hf], (Below.refl g _).setCell (p := ⟨g, _, none⟩) (Nat.le_refl g) _, fun k hk => set_other _ g k _ _ hk⟩
  unfold InAt
  simp [go_sem, z0, z1, z2, z3, z4, z5, z6, z7, W.putI]

theorem put_50 (g : Nat) (i : W.I) (n : Int) (w : World) (hI : InAt g i w) (hf : ∀ j, w.frozen? ⟨g, j, none⟩ = false) : Calls Tryz.prog 68 #[.pointer (some ⟨g, 0, none⟩), .int .i32 50, .int .i64 n] w fun e w' => e = .returned (.tuple #[]) ∧ InAt g (W.putI i 50 n) w' ∧ (∀ j, w'.frozen? ⟨g, j, none⟩ = false) ∧ Below g w w' ∧ ∀ k, k ≠ g → w'.heap[k]? = w.heap[k]? := by
  obtain ⟨z0, z1, z2, z3, z4, z5, z6, z7⟩ := hI
  have hg := World.block_lt_of_cell? _ _ z0
  go_enter Tryz.func68, Tryz.ntmps68
  go_wp2
  go_end0
  refine ⟨rfl, ?_, fun j => by simp [hf], (Below.refl g _).setCell (p := ⟨g, _, none⟩) (Nat.le_refl g) _, fun k hk => set_other _ g k _ _ hk⟩
  unfold InAt
  simp [go_sem, z0, z1, z2, z3, z4, z5, z6, z7, W.putI]

theorem put_99 (g : Nat) (i : W.I) (n : Int) (w : World) (hI : InAt g i w) (hf : ∀ j, w.frozen? ⟨g, j, none⟩ = false) : Calls Tryz.prog 68 #[.pointer (some ⟨g, 0, none⟩), .int .i32 99, .int .i64 n] w fun e w' => e = .returned (.tuple #[]) ∧ InAt g (W.putI i 99 n) w' ∧ (∀ j, w'.frozen? ⟨g, j, none⟩ = false) ∧ Below g w w' ∧ ∀ k, k ≠ g → w'.heap[k]? = w.heap[k]? := by
  obtain ⟨z0, z1, z2, z3, z4, z5, z6, z7⟩ := hI
  have hg := World.block_lt_of_cell? _ _ z0
  go_enter Tryz.func68, Tryz.ntmps68
  go_wp2
  go_end0
  refine ⟨rfl, ?_, fun j => by simp [hf], (Below.refl g _).setCell (p := ⟨g, _, none⟩) (Nat.le_refl g) _, fun k hk => set_other _ g k _ _ hk⟩
  unfold InAt
  simp [go_sem, z0, z1, z2, z3, z4, z5, z6, z7, W.putI]

theorem put_105 (g : Nat) (i : W.I) (n : Int) (w : World) (hI : InAt g i w) (hf : ∀ j, w.frozen? ⟨g, j, none⟩ = false) : Calls Tryz.prog 68 #[.pointer (some ⟨g, 0, none⟩), .int .i32 105, .int .i64 n] w fun e w' => e = .returned (.tuple #[]) ∧ InAt g (W.putI i 105 n) w' ∧ (∀ j, w'.frozen? ⟨g, j, none⟩ = false) ∧ Below g w w' ∧ ∀ k, k ≠ g → w'.heap[k]? = w.heap[k]? := by
  obtain ⟨z0, z1, z2, z3, z4, z5, z6, z7⟩ := hI
  have hg := World.block_lt_of_cell? _ _ z0
  go_enter Tryz.func68, Tryz.ntmps68
  go_wp2
  go_end0
  refine ⟨rfl, ?_, fun j => by simp [hf], (Below.refl g _).setCell (p := ⟨g, _, none⟩) (Nat.le_refl g) _, fun k hk => set_other _ g k _ _ hk⟩
  unfold InAt
  simp [go_sem, z0, z1, z2, z3, z4, z5, z6, z7, W.putI]

theorem put_117 (g : Nat) (i : W.I) (n : Int) (w : World) (hI : InAt g i w) (hf : ∀ j, w.frozen? ⟨g, j, none⟩ = false) : Calls Tryz.prog 68 #[.pointer (some ⟨g, 0, none⟩), .int .i32 117, .int .i64 n] w fun e w' => e = .returned (.tuple #[]) ∧ InAt g (W.putI i 117 n) w' ∧ (∀ j, w'.frozen? ⟨g, j, none⟩ = false) ∧ Below g w w' ∧ ∀ k, k ≠ g → w'.heap[k]? = w.heap[k]? := by
  obtain ⟨z0, z1, z2, z3, z4, z5, z6, z7⟩ := hI
  have hg := World.block_lt_of_cell? _ _ z0
  go_enter Tryz.func68, Tryz.ntmps68
  go_wp2_with (go_at_call 100; refine (left_any _ _ _).mono ?_; rintro e w1 ⟨rfl, rfl⟩)
  go_end0
  refine ⟨rfl, ?_, fun j => by simp [hf], (Below.refl g _).setCell (p := ⟨g, _, none⟩) (Nat.le_refl g) _, fun k hk => set_other _ g k _ _ hk⟩
  unfold InAt
  simp [go_sem, z0, z1, z2, z3, z4, z5, z6, z7, W.putI]

theorem put_112 (g : Nat) (i : W.I) (n : Int) (w : World) (hI : InAt g i w) (hf : ∀ j, w.frozen? ⟨g, j, none⟩ = false) : Calls Tryz.prog 68 #[.pointer (some ⟨g, 0, none⟩), .int .i32 112, .int .i64 n] w fun e w' => e = .returned (.tuple #[]) ∧ InAt g (W.putI i 112 n) w' ∧ (∀ j, w'.frozen? ⟨g, j, none⟩ = false) ∧ Below g w w' ∧ ∀ k, k ≠ g → w'.heap[k]? = w.heap[k]? := by
  obtain ⟨z0, z1, z2, z3, z4, z5, z6, z7⟩ := hI
  have hg := World.block_lt_of_cell? _ _ z0
  go_enter Tryz.func68, Tryz.ntmps68
  go_wp2_with (go_at_call 100; refine (left_any _ _ _).mono ?_; rintro e w1 ⟨rfl, rfl⟩)
  go_end0
  refine ⟨rfl, ?_, fun j => by simp [hf], (Below.refl g _).setCell (p := ⟨g, _, none⟩) (Nat.le_refl g) _, fun k hk => set_other _ g k _ _ hk⟩
  unfold InAt
  simp [go_sem, z0, z1, z2, z3, z4, z5, z6, z7, W.putI]

theorem put_115 (g : Nat) (i : W.I) (n : Int) (w : World) (hI : InAt g i w) (hf : ∀ j, w.frozen? ⟨g, j, none⟩ = false) : Calls Tryz.prog 68 #[.pointer (some ⟨g, 0, none⟩), .int .i32 115, .int .i64 n] w fun e w' => e = .returned (.tuple #[]) ∧ InAt g (W.putI i 115 n) w' ∧ (∀ j, w'.frozen? ⟨g, j, none⟩ = false) ∧ Below g w w' ∧ ∀ k, k ≠ g → w'.heap[k]? = w.heap[k]? := by
  obtain ⟨z0, z1, z2, z3, z4, z5, z6, z7⟩ := hI
  have hg := World.block_lt_of_cell? _ _ z0
  go_enter Tryz.func68, Tryz.ntmps68
  go_wp2
  go_end0
  refine ⟨rfl, ?_, fun j => by simp [hf], (Below.refl g _).setCell (p := ⟨g, _, none⟩) (Nat.le_refl g) _, fun k hk => set_other _ g k _ _ hk⟩
  unfold InAt
  simp [go_sem, z0, z1, z2, z3, z4, z5, z6, z7, W.putI]

end Go.Proofs.YtmihcicepgjogaaGreatDoor

/- Numbers read, of base 0: as they are written. -/
namespace Go.Proofs.YtmihcicepgjogaaGreatDoor
open Go.ChangeShapes Go.WideShapes Go.ChangeAt Go.RowKit
set_option linter.unusedVariables false
set_option linter.unusedSimpArgs false

namespace W
/-- The value of decimal digits, behind what stands ahead of them. -/
def dv : List UInt8 → Nat → Nat
  | [], a => a
  | c :: r, a => dv r (a * 10 + (c.toNat - 48))
theorem dv_le : ∀ (l : List UInt8) (a : Nat), a ≤ dv l a
  | [], a => Nat.le_refl _
  | c :: r, a => Nat.le_trans (by omega) (dv_le r (a * 10 + (c.toNat - 48)))
def dig (c : UInt8) : Prop := 48 ≤ c.toNat ∧ c.toNat ≤ 57
end W

set_option maxRecDepth 1000000 in
set_option maxHeartbeats 6400000 in
theorem pu_ten (t : ByteArray) (hne : t.size ≠ 0) (hmax : t.size ≤ 1000) (h0 : (((t[0]'(Nat.pos_of_ne_zero hne)).toNat : Int) == 48) = false) (hall : ∀ c ∈ t.data.toList, W.dig c) (V : Nat) (hV : W.dv t.data.toList 0 = V) (hV2 : V < 18446744073709551616) (w : World) : Calls Tryz.prog 142 #[.string t, .int .i64 0, .int .i64 64] w fun e w' => e = .returned (.tuple #[.int .u64 V, .nilIface]) ∧ w' = Lib.bytesWorld w 5 t := by
  have hemp : t.toList.isEmpty = false := by
    rw [← decide_eq_emptyBytes]
    exact decide_eq_false (fun h => hne (by rw [h]; rfl))
  have i0 : (0 : Int) < (t.size : Int) := by omega
  have hcv := Lib.run_convert_string_bytes (P := Tryz.prog) w 9 54 5 t (u := .string) Tryz.underlying9 Tryz.underlying54 Tryz.underlying5
  have hB : ∀ j, j < t.size → (Lib.bytesWorld w 5 t).cell? ⟨w.heap.size, j, none⟩ = some (.int .u8 (t.data.toList.getD j 0).toNat) := fun j hj => Lib.bytesWorld_cell w 5 t j hj
  obtain ⟨W1, hW1⟩ : ∃ W1, W1 = Lib.bytesWorld w 5 t := ⟨_, rfl⟩
  rw [← hW1] at hcv hB ⊢
  clear hW1
  obtain ⟨bs, hL⟩ : ∃ bs, bs = t.data.toList := ⟨_, rfl⟩
  have hLn : bs.length = t.size := by rw [hL, Lib.size_eq]
  rw [← hL] at hB hall hV
  clear hL
  have hmv : IntKind.u64.wrap (IntKind.u64.wrap 18446744073709551616 - 1) = 18446744073709551615 := by
    rw [IntKind.wrap_u64, IntKind.wrap_u64]
    decide
  go_enter Tryz.func142, Tryz.ntmps142
  go_wp2
  go_loop [12, 13, 101] (fun vu vn vi => ∃ (k acc : Nat) (a : Int), vu = .bool false ∧ vn = .int .u64 a ∧ vi = .int .i64 k ∧ k ≤ t.size ∧ Hid (a = (acc : Int) ∧ W.dv (bs.drop k) acc = V))
    (fun _ _ vi => t.size - (intOf vi).toNat)
  case atStart => exact ⟨0, 0, 0, rfl, rfl, rfl, by omega, rfl, hV⟩
  case round =>
    obtain ⟨k, acc, a, rfl, rfl, rfl, hk, hh⟩ := hrel
    obtain ⟨ha, hdec⟩ := hh.out
    clear hh
    by_cases hkn : k < t.size
    · have hc := hB k hkn
      have hdrop : bs.drop k = bs[k]'(by omega) :: bs.drop (k + 1) := List.drop_eq_getElem_cons (by omega)
      have hget : bs.getD k 0 = bs[k]'(by omega) := by simp [List.getD, List.getElem?_eq_getElem (show k < bs.length by omega)]
      have hdg : W.dig (bs[k]'(by omega)) := hall _ (List.getElem_mem _)
      rw [hdrop] at hdec
      rw [hget] at hc
      generalize bs[k]'(by omega) = c at hc hdec hdg
      obtain ⟨hd0, hd1⟩ := hdg
      have hle := W.dv_le (bs.drop (k + 1)) (acc * 10 + (c.toNat - 48))
      have hdec2 : W.dv (bs.drop (k + 1)) (acc * 10 + (c.toNat - 48)) = V := hdec
      have a0 : 0 ≤ a := by omega
      have icut : a < 1844674407370955162 := by omega
      have iov : a * 10 + ((c.toNat : Int) - 48) < 18446744073709551616 := by omega
      have HN : Hid (a * 10 + ((c.toNat : Int) - 48) = ((acc * 10 + (c.toNat - 48) : Nat) : Int) ∧ W.dv (bs.drop (k + 1)) (acc * 10 + (c.toNat - 48)) = V) := (⟨by omega, hdec2⟩ : a * 10 + ((c.toNat : Int) - 48) = ((acc * 10 + (c.toNat - 48) : Nat) : Int) ∧ W.dv (bs.drop (k + 1)) (acc * 10 + (c.toNat - 48)) = V)
      have h95 : ((c.toNat : Int) == 95) = false := by simp; omega
      clear hB hdrop hget hall hdec hdec2 hle ha
      go_wp2
      refine ⟨⟨k + 1, acc * 10 + (c.toNat - 48), a * 10 + ((c.toNat : Int) - 48), rfl, (by first | rfl | (congr 1; omega)), (by first | rfl | (congr 1; omega)), by omega, HN⟩, by simp [intOf]; omega⟩
    · have hkk : k = t.size := by omega
      subst hkk
      rw [List.drop_eq_nil_of_le (by omega)] at hdec
      have hav : a = (V : Int) := by rw [ha]; exact congrArg _ hdec
      subst hav
      clear hall hB
      go_wp2
      go_ret2
      exact ⟨rfl, rfl⟩
end Go.Proofs.YtmihcicepgjogaaGreatDoor
