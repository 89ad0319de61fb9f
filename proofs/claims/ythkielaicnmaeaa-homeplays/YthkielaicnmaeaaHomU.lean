/- home: the document's home in memory; msg, data. -/
import Derived.Test.YthkielaicnmaeaaHomT
import Derived.Test.YthkielaicnmaeaaHomD
import Derived.Deep.CutRange
namespace Go.Proofs.Ythkielaicnmaeaa
open Go.ChangeShapes Go.WideShapes Go.ChangeAt Go.RowKit
set_option linter.unusedVariables false
set_option linter.unusedSimpArgs false
attribute [local go_sem ↓] ldM_eq stM_eq bdM_eq bsM_eq

def dhF (d : W.Dm) (sv wv : Value) : Nat → Value
  | 0 => .int .i64 d.ln
  | 1 => .int .i64 d.hs
  | 2 => .int .u32 d.e0
  | 3 => .int .u32 d.e1
  | 4 => .int .u32 d.e2
  | 5 => .int .u32 d.e3
  | 6 => .int .i64 d.ow
  | 7 => sv
  | 8 => .bool d.bz
  | 9 => .int .i64 d.k
  | 10 => .int .i64 d.by_
  | 11 => wv
  | 12 => .int .i64 d.fr
  | 24 => .bool d.own
  | j + 13 => (mgL d.had).getD j (.int .i64 0)
/-- The document's home in memory. -/
structure Dh (n0 db : Nat) (d : W.Dm) (sv wv : Value) (w : World) : Prop where
  b : Bc db 25 (dhF d sv wv) w
  os : On n0 sv d.sh w
  oa : On n0 wv d.ws w
  sn : sv.ownBlock ≠ some db
  an : wv.ownBlock ≠ some db
  n0 : n0 ≤ db
/-- What a call that writes it turns. -/
structure Du (db : Nat) (sv wv sv' wv' : Value) (w w' : World) : Prop where
  g : Gs (fun b => b = db) w w'
  fs : ∀ g, sv'.ownBlock = some g → sv.ownBlock = some g ∨ w.heap.size ≤ g
  fa : ∀ g, wv'.ownBlock = some g → wv.ownBlock = some g ∨ w.heap.size ≤ g
variable {n0 db : Nat} {d d' : W.Dm} {sv wv sv' wv' sv'' wv'' : Value} {w w' w'' : World}
theorem Du.refl (db : Nat) (sv wv : Value) (w : World) : Du db sv wv sv wv w w := ⟨Gs.refl _ _, fun _ h => Or.inl h, fun _ h => Or.inl h⟩
theorem Du.of_below (h : Below w.heap.size w w') : Du db sv wv sv wv w w' := ⟨Gs.of_below h, fun _ h => Or.inl h, fun _ h => Or.inl h⟩
theorem Du.trans (h : Du db sv wv sv' wv' w w') (k : Du db sv' wv' sv'' wv'' w' w'') : Du db sv wv sv'' wv'' w w'' := by
  refine ⟨h.g.trans k.g, fun g e => ?_, fun g e => ?_⟩
  · rcases k.fs g e with e | e
    · exact h.fs g e
    · exact Or.inr (Nat.le_trans h.g.size e)
  · rcases k.fa g e with e | e
    · exact h.fa g e
    · exact Or.inr (Nat.le_trans h.g.size e)
theorem Dh.c (H : Dh n0 db d sv wv w) (k : Nat) (hk : k < 25) : w.cell? ⟨db, k, none⟩ = some (dhF d sv wv k) := H.b.c k hk
theorem Dh.below (H : Dh n0 db d sv wv w) (h : Below w.heap.size w w') : Dh n0 db d sv wv w' := ⟨H.b.below h, H.os.below h, H.oa.below h, H.sn, H.an, H.n0⟩
/-- A number, or the like, is set. -/
theorem Dh.put (H : Dh n0 db d sv wv w) (k : Nat) (v : Value) (d' : W.Dm) (h : ∀ j, updV (dhF d sv wv) k v j = dhF d' sv wv j) (h1 : d'.sh = d.sh) (h2 : d'.ws = d.ws) :
    Dh n0 db d' sv wv (w.setCell ⟨db, k, none⟩ v) ∧ Du db sv wv sv wv w (w.setCell ⟨db, k, none⟩ v) := by
  have hg := gsetCell w db k v
  refine ⟨⟨(H.b.set k v).congr fun j _ => h j, ?_, ?_, H.sn, H.an, H.n0⟩, ⟨Gs.of_grown hg (fun b e => by cases e; rfl), fun _ h => Or.inl h, fun _ h => Or.inl h⟩⟩
  · rw [h1]
    exact H.os.keep hg (fun g e q => H.sn (by cases q; exact e))
  · rw [h2]
    exact H.oa.keep hg (fun g e q => H.an (by cases q; exact e))
/-- The sharers are set. -/
theorem Dh.setS (H : Dh n0 db d sv wv w) {v : Value} {l : List Int} (ho : On n0 v l w) (hn : v.ownBlock ≠ some db) (w0 : World) (hw0 : w0.heap.size ≤ w.heap.size) (hu : Du db sv wv sv wv w0 w) (hv : ∀ g, v.ownBlock = some g → w0.heap.size ≤ g) :
    Dh n0 db { d with sh := l } v wv (w.setCell ⟨db, 7, none⟩ v) ∧ Du db sv wv v wv w0 (w.setCell ⟨db, 7, none⟩ v) := by
  have hg := gsetCell w db 7 v
  refine ⟨⟨(H.b.set 7 v).congr fun j _ => ?_, ho.keep hg (fun g e q => hn (by cases q; exact e)), H.oa.keep hg (fun g e q => H.an (by cases q; exact e)), hn, H.an, H.n0⟩, ⟨hu.g.trans (Gs.of_grown hg (fun b e => by cases e; rfl)), fun g e => Or.inr (hv g e), fun _ h => Or.inl h⟩⟩
  unfold updV
  by_cases e : j = 7
  · subst e; rfl
  · rw [if_neg e]
    unfold dhF
    split <;> first | rfl | exact absurd rfl e
/-- Those that an Ack is waited for of are set. -/
theorem Dh.setA (H : Dh n0 db d sv wv w) {v : Value} {l : List Int} (ho : On n0 v l w) (hn : v.ownBlock ≠ some db) (w0 : World) (hw0 : w0.heap.size ≤ w.heap.size) (hu : Du db sv wv sv wv w0 w) (hv : ∀ g, v.ownBlock = some g → w0.heap.size ≤ g) :
    Dh n0 db { d with ws := l } sv v (w.setCell ⟨db, 11, none⟩ v) ∧ Du db sv wv sv v w0 (w.setCell ⟨db, 11, none⟩ v) := by
  have hg := gsetCell w db 11 v
  refine ⟨⟨(H.b.set 11 v).congr fun j _ => ?_, H.os.keep hg (fun g e q => H.sn (by cases q; exact e)), ho.keep hg (fun g e q => hn (by cases q; exact e)), H.sn, hn, H.n0⟩, ⟨hu.g.trans (Gs.of_grown hg (fun b e => by cases e; rfl)), fun _ h => Or.inl h, fun g e => Or.inr (hv g e)⟩⟩
  unfold updV
  by_cases e : j = 11
  · subst e; rfl
  · rw [if_neg e]
    unfold dhF
    split <;> first | rfl | exact absurd rfl e
theorem Dh.th (H : Dh n0 db d sv wv w) : w.there db 13 11 := fun j hj => ⟨by rw [H.b.c (13 + j) (by omega)]; rfl, H.b.fz _⟩
/-- The message of the last Back is set. -/
theorem Dh.setB (H : Dh n0 db d sv wv w) (m : W.Mg) : Dh n0 db { d with had := m } sv wv (w.setCells db 13 (mgL m)) ∧ Du db sv wv sv wv w (w.setCells db 13 (mgL m)) := by
  have hg := gsetCells db (mgL m) 13 w
  have hin := World.cell?_setCells_in db (mgL m) 13 w (fun j hj => (H.th j (by rw [mgL_len] at hj; exact hj)).1)
  have hout := World.cell?_setCells_out db (mgL m) 13 w
  refine ⟨⟨⟨Nat.lt_of_lt_of_le H.b.lt hg.size, fun j hj => ?_, fun j => ?_⟩, H.os.keep hg (fun g e q => H.sn (by cases q; exact e)), H.oa.keep hg (fun g e q => H.an (by cases q; exact e)), H.sn, H.an, H.n0⟩, ⟨Gs.of_grown hg (fun b e => by cases e; rfl), fun _ h => Or.inl h, fun _ h => Or.inl h⟩⟩
  · by_cases h : j < 13
    · rw [hout ⟨db, j, none⟩ (fun _ _ => Or.inl h), H.b.c j hj]
      have hj' : j = 0 ∨ j = 1 ∨ j = 2 ∨ j = 3 ∨ j = 4 ∨ j = 5 ∨ j = 6 ∨ j = 7 ∨ j = 8 ∨ j = 9 ∨ j = 10 ∨ j = 11 ∨ j = 12 := by omega
      rcases hj' with rfl | rfl | rfl | rfl | rfl | rfl | rfl | rfl | rfl | rfl | rfl | rfl | rfl <;> rfl
    · by_cases h24 : j = 24
      · subst h24
        rw [hout ⟨db, 24, none⟩ (fun _ _ => Or.inr (by show 13 + (mgL m).length ≤ 24; rw [mgL_len]; exact Nat.le_refl _)), H.b.c 24 (by decide)]
        rfl
      · obtain ⟨k, rfl⟩ : ∃ k, j = 13 + k := ⟨j - 13, by omega⟩
        have hk : k < (mgL m).length := by rw [mgL_len]; omega
        rw [hin k hk]
        have hk' : k = 0 ∨ k = 1 ∨ k = 2 ∨ k = 3 ∨ k = 4 ∨ k = 5 ∨ k = 6 ∨ k = 7 ∨ k = 8 ∨ k = 9 ∨ k = 10 := by rw [mgL_len] at hk; omega
        rcases hk' with rfl | rfl | rfl | rfl | rfl | rfl | rfl | rfl | rfl | rfl | rfl <;> rfl
  · have : ∀ (vs : List Value) (o : Nat) (w : World), (w.setCells db o vs).frozen? ⟨db, j, none⟩ = w.frozen? ⟨db, j, none⟩ := by
      intro vs
      induction vs with
      | nil => intro o w; rfl
      | cons v vs ih => intro o w; exact (ih (o + 1) _).trans (World.frozen?_setCell _ _ _ _)
    rw [this]
    exact H.b.fz j
theorem Dh.stB (H : Dh n0 db d sv wv w) (m : W.Mg) : (stM ⟨db, 13, none⟩ (mgV m)).run Try.prog w = .ok () (w.setCells db 13 (mgL m)) :=
  run_storeVar_mid w db 13 35 (mgL m).toArray (by have := H.th; rw [List.size_toArray, mgL_len]; exact this) (by kernel_rfl) (by simpa using oneM m)
theorem dupd_e0 (d : W.Dm) (sv wv : Value) (x : Int) (j : Nat) : updV (dhF d sv wv) 2 (.int .u32 x) j = dhF { d with e0 := x } sv wv j := by
  unfold updV
  by_cases e : j = 2
  · subst e; rfl
  · rw [if_neg e]
    unfold dhF
    split <;> first | rfl | exact absurd rfl e
theorem dupd_e1 (d : W.Dm) (sv wv : Value) (x : Int) (j : Nat) : updV (dhF d sv wv) 3 (.int .u32 x) j = dhF { d with e1 := x } sv wv j := by
  unfold updV
  by_cases e : j = 3
  · subst e; rfl
  · rw [if_neg e]
    unfold dhF
    split <;> first | rfl | exact absurd rfl e
theorem dupd_e2 (d : W.Dm) (sv wv : Value) (x : Int) (j : Nat) : updV (dhF d sv wv) 4 (.int .u32 x) j = dhF { d with e2 := x } sv wv j := by
  unfold updV
  by_cases e : j = 4
  · subst e; rfl
  · rw [if_neg e]
    unfold dhF
    split <;> first | rfl | exact absurd rfl e
theorem dupd_e3 (d : W.Dm) (sv wv : Value) (x : Int) (j : Nat) : updV (dhF d sv wv) 5 (.int .u32 x) j = dhF { d with e3 := x } sv wv j := by
  unfold updV
  by_cases e : j = 5
  · subst e; rfl
  · rw [if_neg e]
    unfold dhF
    split <;> first | rfl | exact absurd rfl e
theorem dupd_ow (d : W.Dm) (sv wv : Value) (x : Int) (j : Nat) : updV (dhF d sv wv) 6 (.int .i64 x) j = dhF { d with ow := x } sv wv j := by
  unfold updV
  by_cases e : j = 6
  · subst e; rfl
  · rw [if_neg e]
    unfold dhF
    split <;> first | rfl | exact absurd rfl e
theorem dupd_bz (d : W.Dm) (sv wv : Value) (x : Bool) (j : Nat) : updV (dhF d sv wv) 8 (.bool x) j = dhF { d with bz := x } sv wv j := by
  unfold updV
  by_cases e : j = 8
  · subst e; rfl
  · rw [if_neg e]
    unfold dhF
    split <;> first | rfl | exact absurd rfl e
theorem dupd_k (d : W.Dm) (sv wv : Value) (x : Int) (j : Nat) : updV (dhF d sv wv) 9 (.int .i64 x) j = dhF { d with k := x } sv wv j := by
  unfold updV
  by_cases e : j = 9
  · subst e; rfl
  · rw [if_neg e]
    unfold dhF
    split <;> first | rfl | exact absurd rfl e
theorem dupd_by (d : W.Dm) (sv wv : Value) (x : Int) (j : Nat) : updV (dhF d sv wv) 10 (.int .i64 x) j = dhF { d with by_ := x } sv wv j := by
  unfold updV
  by_cases e : j = 10
  · subst e; rfl
  · rw [if_neg e]
    unfold dhF
    split <;> first | rfl | exact absurd rfl e
theorem dupd_fr (d : W.Dm) (sv wv : Value) (x : Int) (j : Nat) : updV (dhF d sv wv) 12 (.int .i64 x) j = dhF { d with fr := x } sv wv j := by
  unfold updV
  by_cases e : j = 12
  · subst e; rfl
  · rw [if_neg e]
    unfold dhF
    split <;> first | rfl | exact absurd rfl e
theorem dupd_own (d : W.Dm) (sv wv : Value) (x : Bool) (j : Nat) : updV (dhF d sv wv) 24 (.bool x) j = dhF { d with own := x } sv wv j := by
  unfold updV
  by_cases e : j = 24
  · subst e; rfl
  · rw [if_neg e]
    unfold dhF
    split <;> first | rfl | exact absurd rfl e
theorem dmsg_any (hc : w.cell? ⟨db, 0, none⟩ = some (.int .i64 d.ln)) (k t : Int) : Calls Try.prog 33 #[.pointer (some ⟨db, 0, none⟩), .int .i64 k, .int .i64 t] w fun e w' => e = .returned (mgV (W.dmsg d k t)) ∧ Below w.heap.size w w' := by
  have hl := World.block_lt_of_cell? _ _ hc
  have bd := bdM_4 k d.ln (-1) t
  have hst := stM_new w (W.dmsg d k t) z11 rfl
  have hld := (msgAt_new w (W.dmsg d k t)).ld
  have hB := below_alloc w (.cells (mgL (W.dmsg d k t)).toArray 35)
  have HB : Hid (_) := hB
  have e : (⟨k, d.ln, -1, t, 0, 0, 0, 0, false, false, false⟩ : W.Mg) = W.dmsg d k t := rfl
  rw [e] at bd
  clear hB e
  generalize W.dmsg d k t = M at *
  go_enter Try.func33, Try.ntmps33
  go_wp2
  exact bodyPost_ret (v := mgV M) (by simp [results, Try.results33, asAddr, ldM_eq, hld]) rfl ⟨rfl, HB.out⟩

set_option maxRecDepth 10000 in
set_option maxHeartbeats 1600000 in
theorem ddata_any (hc : w.cell? ⟨db, 0, none⟩ = some (.int .i64 d.ln)) (hc2 : w.cell? ⟨db, 10, none⟩ = some (.int .i64 d.by_)) (x0 x1 x2 x3 : Int) (di al : Bool) : Calls Try.prog 35 #[.pointer (some ⟨db, 0, none⟩), .agg #[.int .u32 x0, .int .u32 x1, .int .u32 x2, .int .u32 x3], .bool di, .bool al] w fun e w' => (∃ sl, e = .returned (slV sl) ∧ Ms sl [W.ddat d x0 x1 x2 x3 di al] w' ∧ ∀ b o, sl.a = some ⟨b, o, none⟩ → w.heap.size ≤ b) ∧ Below w.heap.size w w' := by
  have hl := World.block_lt_of_cell? _ _ hc
  have hb1 := below_alloc w (.cells #[.int .u32 x0, .int .u32 x1, .int .u32 x2, .int .u32 x3] 24)
  have la := lnAt_new w x0 x1 x2 x3
  have c0 := (hb1.cell (p := ⟨db, 0, none⟩) hl).trans hc
  have c10 := (hb1.cell (p := ⟨db, 10, none⟩) hl).trans hc2
  have HA : Hid (_ ∧ _) := ⟨la, hb1⟩
  have HM : Hid (Calls _ _ _ _ _) := dmsg_any (d := d) c0 7 d.by_
  clear hb1 la hc hc2
  go_enter Try.func35, Try.ntmps35
  go_wp2_with (fail)
  refine HM.out.mono ?_
  rintro e w2 ⟨rfl, hb2⟩
  clear c0 c10
  generalize hM0 : W.dmsg d 7 d.by_ = M0 at *
  have hst := stM_new w2 M0 z11 rfl
  have hm := msgAt_new w2 M0
  have hb3 := hb2.trans ((below_alloc w2 (.cells (mgL M0).toArray 35)).mono hb2.size)
  have la3 := HA.out.1.below hb3
  have hz : w.heap.size ≤ w2.heap.size := Nat.le_trans HA.out.2.size hb2.size
  have hne : w.heap.size ≠ w2.heap.size := by have := HA.out.1.lt; have := hb2.size; omega
  have HB : Hid (Below w.heap.size w (w2.alloc (.cells (mgL M0).toArray 35)) ∧ w.heap.size ≤ w2.heap.size) := ⟨HA.out.2.trans (hb3.mono HA.out.2.size), hz⟩
  clear hb2 hb3 HA HM
  go_upto_region 2 with fail
  clear hst
  have q0 := la3.c0
  have q1 := la3.c1
  have q2 := la3.c2
  have q3 := la3.c3
  clear la3
  generalize World.alloc w2 _ = W3 at *
  generalize w2.heap.size = mb at *
  have hm' : W3.heap[mb]? = some (.cells (mgL M0).toArray 35) := hm
  have i4 : ∃ u, (mgL M0)[4]? = some u := ⟨_, rfl⟩
  have i5 : ∃ u, (mgL M0)[5]? = some u := ⟨_, rfl⟩
  have i6 : ∃ u, (mgL M0)[6]? = some u := ⟨_, rfl⟩
  have i7 : ∃ u, (mgL M0)[7]? = some u := ⟨_, rfl⟩
  have i8 : ∃ u, (mgL M0)[8]? = some u := ⟨_, rfl⟩
  have i9 : ∃ u, (mgL M0)[9]? = some u := ⟨_, rfl⟩
  have i10 : ∃ u, (mgL M0)[10]? = some u := ⟨_, rfl⟩
  obtain ⟨u4, i4⟩ := i4
  obtain ⟨u5, i5⟩ := i5
  obtain ⟨u6, i6⟩ := i6
  obtain ⟨u7, i7⟩ := i7
  obtain ⟨u8, i8⟩ := i8
  obtain ⟨u9, i9⟩ := i9
  obtain ⟨u10, i10⟩ := i10
  have c4 := (hm.cAt 4).trans i4
  have c5 := (hm.cAt 5).trans i5
  have c6 := (hm.cAt 6).trans i6
  have c7 := (hm.cAt 7).trans i7
  have c8 := (hm.cAt 8).trans i8
  have c9 := (hm.cAt 9).trans i9
  have c10 := (hm.cAt 10).trans i10
  have f4 := hm.fz 4
  have f5 := hm.fz 5
  have f6 := hm.fz 6
  have f7 := hm.fz 7
  have f8 := hm.fz 8
  have f9 := hm.fz 9
  have f10 := hm.fz 10
  have hF : MsgAt mb (W.ddat d x0 x1 x2 x3 di al) (((((((W3.setCell ⟨mb, 4, none⟩ (.int .u32 x0)).setCell ⟨mb, 5, none⟩ (.int .u32 x1)).setCell ⟨mb, 6, none⟩ (.int .u32 x2)).setCell ⟨mb, 7, none⟩ (.int .u32 x3)).setCell ⟨mb, 8, none⟩ (.bool true)).setCell ⟨mb, 9, none⟩ (.bool di)).setCell ⟨mb, 10, none⟩ (.bool al)) := by
    rw [← hM0] at hm
    have g1 := MsgAt.set1 (m' := ⟨7, d.ln, -1, d.by_, x0, 0, 0, 0, false, false, false⟩) hm 4 (.int .u32 x0) rfl
    have g2 := MsgAt.set1 (m' := ⟨7, d.ln, -1, d.by_, x0, x1, 0, 0, false, false, false⟩) g1 5 (.int .u32 x1) rfl
    have g3 := MsgAt.set1 (m' := ⟨7, d.ln, -1, d.by_, x0, x1, x2, 0, false, false, false⟩) g2 6 (.int .u32 x2) rfl
    have g4 := MsgAt.set1 (m' := ⟨7, d.ln, -1, d.by_, x0, x1, x2, x3, false, false, false⟩) g3 7 (.int .u32 x3) rfl
    have g5 := MsgAt.set1 (m' := ⟨7, d.ln, -1, d.by_, x0, x1, x2, x3, true, false, false⟩) g4 8 (.bool true) rfl
    have g6 := MsgAt.set1 (m' := ⟨7, d.ln, -1, d.by_, x0, x1, x2, x3, true, di, false⟩) g5 9 (.bool di) rfl
    exact MsgAt.set1 (m' := W.ddat d x0 x1 x2 x3 di al) g6 10 (.bool al) rfl
  have hbF : Below w.heap.size w (((((((W3.setCell ⟨mb, 4, none⟩ (.int .u32 x0)).setCell ⟨mb, 5, none⟩ (.int .u32 x1)).setCell ⟨mb, 6, none⟩ (.int .u32 x2)).setCell ⟨mb, 7, none⟩ (.int .u32 x3)).setCell ⟨mb, 8, none⟩ (.bool true)).setCell ⟨mb, 9, none⟩ (.bool di)).setCell ⟨mb, 10, none⟩ (.bool al)) :=
    HB.out.1.grown (gtrans (gtrans (gtrans (gtrans (gtrans (gtrans (gsetCell _ _ _ _) (gsetCell _ _ _ _)) (gsetCell _ _ _ _)) (gsetCell _ _ _ _)) (gsetCell _ _ _ _)) (gsetCell _ _ _ _)) (gsetCell _ mb _ _)) HB.out.1.size (fun b e => by cases e; exact HB.out.2)
  have hld := hF.ld
  have HF : Hid (_) := hbF
  have HSZ : Hid ((((((((W3.setCell ⟨mb, 4, none⟩ (.int .u32 x0)).setCell ⟨mb, 5, none⟩ (.int .u32 x1)).setCell ⟨mb, 6, none⟩ (.int .u32 x2)).setCell ⟨mb, 7, none⟩ (.int .u32 x3)).setCell ⟨mb, 8, none⟩ (.bool true)).setCell ⟨mb, 9, none⟩ (.bool di)).setCell ⟨mb, 10, none⟩ (.bool al)).heap.size = W3.heap.size) := by
    show _ = _
    simp [World.setCell]
  have bs := bsM_any (W.ddat d x0 x1 x2 x3 di al)
  clear hF hbF hm' hm
  generalize hMM : W.ddat d x0 x1 x2 x3 di al = M at *
  have HMM : Hid (W.ddat d x0 x1 x2 x3 di al = M) := hMM
  clear hMM
  go_wp2_with (fail)
  go_ret
  rw [HMM.out]
  have hms := ms_one M (((((((W3.setCell ⟨mb, 4, none⟩ (.int .u32 x0)).setCell ⟨mb, 5, none⟩ (.int .u32 x1)).setCell ⟨mb, 6, none⟩ (.int .u32 x2)).setCell ⟨mb, 7, none⟩ (.int .u32 x3)).setCell ⟨mb, 8, none⟩ (.bool true)).setCell ⟨mb, 9, none⟩ (.bool di)).setCell ⟨mb, 10, none⟩ (.bool al))
  have hle : w.heap.size ≤ W3.heap.size := HSZ.out ▸ HF.out.size
  rw [HSZ.out] at hms
  exact ⟨⟨⟨some ⟨W3.heap.size, 0, none⟩, 1, 1⟩, rfl, hms, fun b o e => by cases e; exact hle⟩, HF.out.trans ((below_alloc _ _).mono HF.out.size)⟩
end Go.Proofs.Ythkielaicnmaeaa
