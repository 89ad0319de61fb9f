/- Both caches: the calls. -/
import Derived.Test.YtlindkhmjkionaaDoorCapA
namespace Go.Proofs.YtlindkhmjkionaaDoor
open Go.ChangeShapes Go.WideShapes Go.ChangeAt Go.RowKit
set_option linter.unusedVariables false
set_option linter.unusedSimpArgs false
variable {n0 cb sb db tb K : Nat} {ways : Int} {sv sv' dv dv' : Nat → Value} {S S' T T' : Nat → List W.En} {w w' w'' : World} {w0 : World} {dd : Nat} {o : Obj}
/-- With a block of its own that none of them writes. -/
structure Pd (w0 : World) (cb sb db tb K : Nat) (ways : Int) (S T : Nat → List W.En) (dd : Nat) (o : Obj) (w : World) : Prop where
  c : ∃ sv dv, Ct w0.heap.size cb sb K ways sv S w ∧ Dt w0.heap.size db tb K ways dv T w ∧ Crs cb sb db tb K sv dv ∧ Apt sb K sv dd ∧ Apt tb K dv dd
  b : Below w0.heap.size w0 w
  s : W.In K ways S
  t : W.In K ways T
  d : w.heap[dd]? = some o
theorem Pd.z (h : Pd w0 cb sb db tb K ways S T dd o w) : Pz w0 cb sb db tb K ways S T w := by
  obtain ⟨sv, dv, h1, h2, h3, _, _⟩ := h.c
  exact ⟨⟨sv, dv, h1, h2, h3⟩, h.b, h.s, h.t⟩
theorem Pz.new (h : Pz w0 cb sb db tb K ways S T w) (o : Obj) : Pd w0 cb sb db tb K ways S T w.heap.size o (w.alloc o) := by
  obtain ⟨sv, dv, h1, h2, h3⟩ := h.c
  have hb := below_alloc w o
  exact ⟨⟨sv, dv, h1.below hb, h2.below hb, h3, h1.apt_new (Nat.le_refl _), h2.apt_new (Nat.le_refl _)⟩, h.b.trans (hb.mono h.b.size), h.s, h.t, heap_alloc_last w o⟩
theorem Pd.below (h : Pd w0 cb sb db tb K ways S T dd o w) (hb : Below w.heap.size w w') : Pd w0 cb sb db tb K ways S T dd o w' := by
  obtain ⟨sv, dv, h1, h2, h3, h4, h5⟩ := h.c
  exact ⟨⟨sv, dv, h1.below hb, h2.below hb, h3, h4, h5⟩, h.b.trans (hb.mono h.b.size), h.s, h.t, (hb.block dd (Array.getElem?_eq_some_iff.1 h.d).1).trans h.d⟩
theorem Pd.prog (h : Pd w0 cb sb db tb K ways S T dd o w) {f : Nat} {args : Array Value} {r : Value} (hc : ∀ sv, Ct w0.heap.size cb sb K ways sv S w → Calls Tryd.prog f args w fun e w' => e = .returned r ∧ ∃ sv', Ct w0.heap.size cb sb K ways sv' S' w' ∧ Cu sb K sv sv' w w') (hI : W.In K ways S') :
    Calls Tryd.prog f args w fun e w' => e = .returned r ∧ Pd w0 cb sb db tb K ways S' T dd o w' := by
  obtain ⟨sv, dv, h1, h2, h3, h4, h5⟩ := h.c
  have hd := (Array.getElem?_eq_some_iff.1 h.d).1
  refine (hc sv h1).mono ?_
  rintro e w1 ⟨rfl, sv', h6, h7⟩
  obtain ⟨h8, h9⟩ := crs_prog h3 h2 h7
  exact ⟨rfl, ⟨⟨sv', dv, h6, h8, h9, h7.apt hd h4, h5⟩, h.b.trans (h7.below h1 _ (Nat.le_refl _) h.b.size), hI, h.t, (h7.other hd h4).trans h.d⟩⟩
theorem Pd.doc (h : Pd w0 cb sb db tb K ways S T dd o w) {f : Nat} {args : Array Value} {r : Value} (hc : ∀ dv, Dt w0.heap.size db tb K ways dv T w → Calls Tryd.prog f args w fun e w' => e = .returned r ∧ ∃ dv', Dt w0.heap.size db tb K ways dv' T' w' ∧ Du tb K dv dv' w w') (hI : W.In K ways T') :
    Calls Tryd.prog f args w fun e w' => e = .returned r ∧ Pd w0 cb sb db tb K ways S T' dd o w' := by
  obtain ⟨sv, dv, h1, h2, h3, h4, h5⟩ := h.c
  have hd := (Array.getElem?_eq_some_iff.1 h.d).1
  refine (hc dv h2).mono ?_
  rintro e w1 ⟨rfl, dv', h6, h7⟩
  obtain ⟨h8, h9⟩ := crs_doc h3 h1 h7
  exact ⟨rfl, ⟨⟨sv, dv', h8, h6, h9, h4, h7.apt hd h5⟩, h.b.trans (h7.below h2 _ (Nat.le_refl _) h.b.size), h.s, hI, (h7.other hd h5).trans h.d⟩⟩

theorem pd_put (A : Nat → Addr) (hA : Sent A w0) (h : Pd w0 cb sb db tb K ways S T dd o w) (e : W.En) :
    Calls Tryd.prog 10 #[.pointer (some ⟨cb, 0, none⟩), enV e] w fun r w' => r = .returned (errV A (W.pt K ways S e)) ∧ Pd w0 cb sb db tb K ways (W.putS K ways S e) T dd o w' := by
  refine h.prog (fun sv hC => ?_) (h.s.put e)
  unfold W.putS
  by_cases q : W.pt K ways S e = 0
  · rw [if_pos q, q]
    exact put_ok hC h.s.k0 h.s.len4 e q
  · rw [if_neg q]
    refine (put_err A hC h.s.k0 h.s.len4 (hA.below h.b) e _ rfl q).mono ?_
    rintro r w1 ⟨rfl, hb⟩
    exact ⟨rfl, sv, hC.below hb, Cu.of_below hb⟩
theorem pd_rput (h : Pd w0 cb sb db tb K ways S T dd o w) (e : W.En) :
    Calls Tryd.prog 11 #[.pointer (some ⟨db, 0, none⟩), enV e] w fun r w' => r = .returned (.int .i64 (num (W.pt K ways T e))) ∧ Pd w0 cb sb db tb K ways S (W.putS K ways T e) dd o w' := by
  refine h.doc (fun dv hC => ?_) (h.t.put e)
  unfold W.putS
  by_cases q : W.pt K ways T e = 0
  · rw [if_pos q, q]
    exact rput_ok hC h.t.k0 h.t.len8 e q
  · rw [if_neg q]
    refine (rput_err hC h.t.k0 h.t.len8 e _ rfl q).mono ?_
    rintro r w1 ⟨rfl, hb⟩
    exact ⟨rfl, dv, hC.below hb, Du.of_below hb⟩
theorem has_st (K : Nat) (S : Nat → List W.En) (x : Int) (hx : x < 0) : W.has (W.st K S x) x = false := by
  unfold W.st
  rw [if_pos hx]
  rfl
theorem pd_use (h : Pd w0 cb sb db tb K ways S T dd o w) (x : Int) :
    Calls Tryd.prog 13 #[.pointer (some ⟨cb, 0, none⟩), .int .i64 x] w fun r w' => r = .returned (.bool (W.has (W.st K S x) x)) ∧ Pd w0 cb sb db tb K ways (W.useS K S x) T dd o w' := by
  refine h.prog (fun sv hC => ?_) (h.s.use x)
  unfold W.useS
  by_cases q : x < 0
  · rw [if_pos q, has_st K S x q]
    refine (use_neg hC h.s.k0 h.s.len4 x q).mono ?_
    rintro r w1 ⟨rfl, hb⟩
    exact ⟨rfl, sv, hC.below hb, Cu.of_below hb⟩
  · rw [if_neg q, show W.st K S x = S (W.ix K x) by unfold W.st; rw [if_neg q]]
    exact use_any hC h.s.k0 h.s.len4 x (by omega)
theorem pd_ruse (h : Pd w0 cb sb db tb K ways S T dd o w) (x : Int) :
    Calls Tryd.prog 14 #[.pointer (some ⟨db, 0, none⟩), .int .i64 x] w fun r w' => r = .returned (.bool (W.has (W.st K T x) x)) ∧ Pd w0 cb sb db tb K ways S (W.useS K T x) dd o w' := by
  refine h.doc (fun dv hC => ?_) (h.t.use x)
  unfold W.useS
  by_cases q : x < 0
  · rw [if_pos q, has_st K T x q]
    refine (ruse_neg x q w).mono ?_
    rintro r w1 ⟨rfl, rfl⟩
    exact ⟨rfl, dv, hC, Du.of_below (Below.refl _ _)⟩
  · rw [if_neg q, show W.st K T x = T (W.ix K x) by unfold W.st; rw [if_neg q]]
    exact ruse_any hC h.t.k0 h.t.len8 x (by omega)
theorem pd_drop (h : Pd w0 cb sb db tb K ways S T dd o w) (x : Int) :
    Calls Tryd.prog 15 #[.pointer (some ⟨cb, 0, none⟩), .int .i64 x] w fun r w' => r = .returned (.bool (W.has (W.st K S x) x)) ∧ Pd w0 cb sb db tb K ways (W.drpS K S x) T dd o w' := by
  refine h.prog (fun sv hC => ?_) (h.s.drp x)
  unfold W.drpS
  by_cases q : x < 0
  · rw [if_pos q, has_st K S x q]
    refine (drop_miss hC h.s.k0 h.s.len4 x (has_st K S x q)).mono ?_
    rintro r w1 ⟨rfl, hb⟩
    exact ⟨rfl, sv, hC.below hb, Cu.of_below hb⟩
  · rw [if_neg q, show W.st K S x = S (W.ix K x) by unfold W.st; rw [if_neg q]]
    exact drop_any hC h.s.k0 h.s.len4 x (by omega)
theorem pd_rdrop (h : Pd w0 cb sb db tb K ways S T dd o w) (x : Int) :
    Calls Tryd.prog 16 #[.pointer (some ⟨db, 0, none⟩), .int .i64 x] w fun r w' => r = .returned (.bool (W.has (W.st K T x) x)) ∧ Pd w0 cb sb db tb K ways S (W.drpS K T x) dd o w' := by
  refine h.doc (fun dv hC => ?_) (h.t.drp x)
  unfold W.drpS
  by_cases q : x < 0
  · rw [if_pos q, has_st K T x q]
    refine (rdrop_neg x q w).mono ?_
    rintro r w1 ⟨rfl, rfl⟩
    exact ⟨rfl, dv, hC, Du.of_below (Below.refl _ _)⟩
  · rw [if_neg q, show W.st K T x = T (W.ix K x) by unfold W.st; rw [if_neg q]]
    exact rdrop_any hC h.t.k0 h.t.len8 x (by omega)
theorem W.pt_le (K : Nat) (ways : Int) (S : Nat → List W.En) (e : W.En) : W.pt K ways S e ≤ 3 := by
  unfold W.pt
  split
  · decide
  · split
    · decide
    · split <;> decide

theorem pz_find (h : Pz w0 cb sb db tb K ways S T w) (x : Int) : Calls Tryd.prog 17 #[.pointer (some ⟨cb, 0, none⟩), .int .i64 x] w fun e w' => e = .returned (.tuple #[enV (W.gt (W.st K S x) x), .bool (W.has (W.st K S x) x)]) ∧ Below w.heap.size w w' := by
  obtain ⟨sv, dv, h1, h2, h3⟩ := h.c
  exact find_any h1 h.s.k0 h.s.len4 x
theorem pz_rfind (h : Pz w0 cb sb db tb K ways S T w) (x : Int) : Calls Tryd.prog 18 #[.pointer (some ⟨db, 0, none⟩), .int .i64 x] w fun e w' => e = .returned (.tuple #[enV (W.gt (W.st K T x) x), .bool (W.has (W.st K T x) x)]) ∧ Below w.heap.size w w' := by
  obtain ⟨sv, dv, h1, h2, h3⟩ := h.c
  exact rFind_any h2 h.t.k0 h.t.len4 x
theorem pz_victim (h : Pz w0 cb sb db tb K ways S T w) (x : Int) (s : W.Sl) (ns : List Int) (hl : Li s ns w) : Calls Tryd.prog 19 #[.pointer (some ⟨cb, 0, none⟩), .int .i64 x, slV s] w fun e w' => e = .returned (.tuple #[enV ((W.vic (W.st K S x) ns).getD W.en0), .bool (W.vic (W.st K S x) ns).isSome]) ∧ Below w.heap.size w w' := by
  obtain ⟨sv, dv, h1, h2, h3⟩ := h.c
  exact victim_any s ns h1 h.s.k0 h.s.len4 x hl
theorem pz_rvictim (h : Pz w0 cb sb db tb K ways S T w) (x : Int) (s : W.Sl) (ns : List Int) (hl : Li s ns w) : Calls Tryd.prog 20 #[.pointer (some ⟨db, 0, none⟩), .int .i64 x, slV s] w fun e w' => e = .returned (.tuple #[enV ((W.vic (W.st K T x) ns).getD W.en0), .bool (W.vic (W.st K T x) ns).isSome]) ∧ Below w.heap.size w w' := by
  obtain ⟨sv, dv, h1, h2, h3⟩ := h.c
  by_cases hx : x < 0
  · rw [show W.st K T x = [] by unfold W.st; rw [if_pos hx]]
    exact rvictim_neg s x hx w
  · exact rvictim_any s ns h2 h.t.k0 h.t.len4 x (by omega) hl
theorem pz_room (h : Pz w0 cb sb db tb K ways S T w) (x : Int) : Calls Tryd.prog 25 #[.pointer (some ⟨cb, 0, none⟩), .int .i64 x] w fun e w' => e = .returned (.bool (W.room K ways S x)) ∧ Below w.heap.size w w' := by
  obtain ⟨sv, dv, h1, h2, h3⟩ := h.c
  exact room_any h1 h.s.k0 h.s.len4 x
theorem pz_len (h : Pz w0 cb sb db tb K ways S T w) : Calls Tryd.prog 24 #[.pointer (some ⟨cb, 0, none⟩)] w fun e w' => e = .returned (.int .i64 (W.sm S K)) ∧ w = w' := by
  obtain ⟨sv, dv, h1, h2, h3⟩ := h.c
  exact len_any h1 h.s.k64 h.s.len4
theorem pz_all (h : Pz w0 cb sb db tb K ways S T w) : Calls Tryd.prog 23 #[.pointer (some ⟨cb, 0, none⟩)] w fun e w' => ∃ v Y, e = .returned v ∧ Rw v Y w' ∧ Y.Perm (W.cat S K) ∧ W.srt ((W.cat S K).map (·.l)) = Y.map (·.l) ∧ Below w.heap.size w w' := by
  obtain ⟨sv, dv, h1, h2, h3⟩ := h.c
  refine (all_any h1 h.s.k64 h.s.len8).mono ?_
  rintro e w1 ⟨v, Y, rfl, h4, h5, h6, h7⟩
  exact ⟨v, Y, rfl, h4, h5, W.all_srt h.s Y h5 h6, h7⟩
end Go.Proofs.YtlindkhmjkionaaDoor
