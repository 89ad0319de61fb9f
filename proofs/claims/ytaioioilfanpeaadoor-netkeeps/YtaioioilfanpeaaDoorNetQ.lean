/- net: what NetKeeps keeps; SameMsg of one message; Number; laws on what is left. -/
import Derived.Test.YtaioioilfanpeaaDoorNetP
import Derived.Test.YtaioioilfanpeaaDoorNetJ
namespace Go.Proofs.YtaioioilfanpeaaDoor
open Go.ChangeShapes Go.WideShapes Go.ChangeAt Go.RowKit
set_option linter.unusedVariables false
set_option linter.unusedSimpArgs false

set_option maxHeartbeats 1600000 in
theorem sameline_self (x0 x1 x2 x3 : Int) (w : World) : Calls Tryd.prog 36 #[.agg #[.int .u32 x0, .int .u32 x1, .int .u32 x2, .int .u32 x3], .agg #[.int .u32 x0, .int .u32 x1, .int .u32 x2, .int .u32 x3]] w fun e w' => e = .returned (.bool true) ∧ Below w.heap.size w w' := by
  have e0 : (x0 == x0) = true := by simp
  have e1 : (x1 == x1) = true := by simp
  have e2 : (x2 == x2) = true := by simp
  have e3 : (x3 == x3) = true := by simp
  have hB : Below w.heap.size w w := Below.refl _ _
  go_enter Tryd.func36, Tryd.ntmps36
  go_wp2
  go_ret
  exact ⟨rfl, (hB.alloc hB.size _).alloc (by simp) _⟩
set_option maxRecDepth 10000 in
set_option maxHeartbeats 1600000 in
theorem samemsg_self (m : W.Mg) (w : World) : Calls Tryd.prog 17 #[mgV m, mgV m] w fun e w' => e = .returned (.bool true) ∧ Below w.heap.size w w' := by
  have hB : Below w.heap.size w w := Below.refl _ _
  obtain ⟨k, l, f, t, d0, d1, d2, d3, h, d, a⟩ := m
  have hB2 := (hB.alloc hB.size (.cells (mgL ⟨k, l, f, t, d0, d1, d2, d3, h, d, a⟩).toArray 47)).alloc (by simp) (.cells (mgL ⟨k, l, f, t, d0, d1, d2, d3, h, d, a⟩).toArray 47)
  unfold mgV mgL at *
  dsimp only at *
  have HB : Hid (_) := hB2
  clear hB hB2
  go_enter Tryd.func17, Tryd.ntmps17
  go_wp2_with (fail)
  refine (sameline_self d0 d1 d2 d3 _).mono ?_
  rintro e w1 ⟨rfl, hb⟩
  have x := fun (j : Nat) => hb.cell (p := ⟨w.heap.size, j, none⟩) (by simp; omega)
  have y := fun (j : Nat) => hb.cell (p := ⟨w.heap.size + 1, j, none⟩) (by simp)
  have x0 := x 0
  have x1 := x 1
  have x2 := x 2
  have x3 := x 3
  have x8 := x 8
  have x9 := x 9
  have xa := x 10
  have y0 := y 0
  have y1 := y 1
  have y2 := y 2
  have y3 := y 3
  have y8 := y 8
  have y9 := y 9
  have ya := y 10
  simp [go_sem] at x0 x1 x2 x3 x8 x9 xa y0 y1 y2 y3 y8 y9 ya
  have hfin := HB.out.trans (hb.mono (by simp; omega))
  have HF : Hid (_) := hfin
  clear x y hb hfin
  go_wp2
  go_ret
  exact ⟨rfl, HF.out⟩
theorem number_any (n m : Int) (n0 : -9223372036854775808 ≤ n) (n1 : n ≤ 9223372036854775807) (m0 : 0 < m) (m1 : m < 2147483648) (w : World) : Calls Tryd.prog 13 #[.int .i64 n, .int .i64 m] w fun z w' => z = .returned (.int .i64 (n % m)) ∧ w = w' := by
  have hm : ¬ m = 0 := by omega
  go_enter Tryd.func13, Tryd.ntmps13
  go_wp2
  go_ret
  refine ⟨ret_int (number_eq n m m0 m1), rfl⟩

theorem filter_split {L : List W.Fl} {p q : W.Fl → Bool} {f : W.Fl} (hs : Rising L) (hf : f ∈ L) (hp : p f = true) (hq : q f = false) (he : ∀ g ∈ L, g.id ≠ f.id → q g = p g) :
    ∃ L1 L2, L.filter p = L1 ++ f :: L2 ∧ L.filter q = L1 ++ L2 := by
  obtain ⟨A, B, rfl⟩ := List.append_of_mem hf
  have hs2 := List.pairwise_append.1 hs
  have hB := List.pairwise_cons.1 hs2.2.1
  have eA : A.filter q = A.filter p := List.filter_congr fun g hg => by
    have := hs2.2.2 g hg f (by simp)
    exact he g (by simp [hg]) (by omega)
  have eB : B.filter q = B.filter p := List.filter_congr fun g hg => by
    have := hB.1 g hg
    exact he g (by simp [hg]) (by omega)
  refine ⟨A.filter p, B.filter p, ?_, ?_⟩
  · rw [List.filter_append, List.filter_cons_of_pos hp]
  · rw [List.filter_append, List.filter_cons_of_neg (by simp [hq]), eA, eB]
theorem rising_fls : ∀ (S : List W.Mg) (nx : Int), Rising (W.fls nx S) ∧ ∀ f ∈ W.fls nx S, nx ≤ f.id
  | [], nx => ⟨List.Pairwise.nil, fun f hf => by simp [W.fls] at hf⟩
  | m :: S, nx => by
    obtain ⟨h1, h2⟩ := rising_fls S (nx + 1)
    refine ⟨List.pairwise_cons.2 ⟨fun f hf => ?_, h1⟩, fun f hf => ?_⟩
    · have := h2 f hf
      show nx < f.id
      omega
    · rcases List.mem_cons.1 hf with e | hf
      · subst e; exact Int.le_refl _
      · have := h2 f hf
        omega
theorem fls_mem {S : List W.Mg} : ∀ {nx : Int} {f : W.Fl}, f ∈ W.fls nx S → ∃ j : Nat, S[j]? = some f.m ∧ f.id = nx + j := by
  induction S with
  | nil => intro nx f hf; simp [W.fls] at hf
  | cons m S ih =>
    intro nx f hf
    rcases List.mem_cons.1 hf with e | hf
    · subst e; exact ⟨0, by simp, by simp⟩
    · obtain ⟨j, h1, h2⟩ := ih hf
      exact ⟨j + 1, by simpa using h1, by omega⟩
/-- What is left on its way. -/
def W.lft (S : List W.Mg) (G : Nat → Bool) : List W.Fl := (W.fls 0 S).filter fun f => !G f.id.toNat
def updB (G : Nat → Bool) (k : Nat) : Nat → Bool := fun j => if j = k then true else G j
theorem lft_rising (S : List W.Mg) (G : Nat → Bool) : Rising (W.lft S G) := (rising_fls S 0).1.sublist (List.filter_sublist)
theorem lft_miss (S : List W.Mg) (G : Nat → Bool) (k : Nat) (hG : G k = true) : ∀ f ∈ W.lft S G, f.id ≠ (k : Int) := fun f hf e => by
  have := (List.mem_filter.1 hf).2
  rw [e] at this
  simp [hG] at this
theorem lft_hit (S : List W.Mg) (G : Nat → Bool) (k : Nat) (m : W.Mg) (hm : S[k]? = some m) (hG : G k = false) : ∃ L1 L2, W.lft S G = L1 ++ ⟨k, m⟩ :: L2 ∧ W.lft S (updB G k) = L1 ++ L2 := by
  refine filter_split (rising_fls S 0).1 (f := ⟨k, m⟩) ?_ (by simp [hG]) (by simp [updB]) (fun g hg hne => ?_)
  · have := fls_get m S 0 k hm
    rw [Int.zero_add] at this
    exact List.mem_of_getElem? this
  · obtain ⟨j, h1, h2⟩ := fls_mem hg
    unfold updB
    have : ¬ g.id.toNat = k := fun e => hne (by show g.id = (k : Int); omega)
    simp [this]
theorem lft_left {S : List W.Mg} {G : Nat → Bool} (h : 0 < (W.lft S G).length) : ∃ k, k < S.length ∧ G k = false := by
  obtain ⟨f, hf⟩ : ∃ f, f ∈ W.lft S G := ⟨(W.lft S G)[0], List.getElem_mem h⟩
  obtain ⟨h1, h2⟩ := List.mem_filter.1 hf
  obtain ⟨j, h3, h4⟩ := fls_mem h1
  refine ⟨j, (List.getElem?_eq_some_iff.1 h3).1, ?_⟩
  rw [show f.id.toNat = j by omega] at h2
  simpa using h2
theorem lft_start (S : List W.Mg) : W.lft S (fun _ => false) = W.fls 0 S := by
  unfold W.lft
  rw [List.filter_eq_self]
  intro f hf
  rfl
/-- A message that was sent had a link. -/
def W.vd (m : W.Mg) : Prop := W.endB 4 m.f m.t (W.cls m.k) = true
theorem adm_vd {R : Nat → Int} {m : W.Mg} (h : W.adm 4 R m = none) : W.vd m := by
  unfold W.adm at h
  unfold W.vd
  split at h
  · cases h
  · split at h
    · cases h
    · rename_i q
      cases e : W.endB 4 m.f m.t (W.cls m.k)
      · exact absurd (Or.inl e) q
      · rfl
/-- NetKeeps' net and list of what was sent. -/
structure Kp (w0 : World) (nb : Nat) (S : List W.Mg) (lv fv : Value) (R : Nat → Int) (w : World) : Prop where
  n : Nt nb nb 4 R S.length fv (W.fls 0 S) w
  o : w.ownsRow nb 47 11 lv S.length (mgX S)
  ln : lv.ownBlock ≠ some nb
  lf : ∀ b, lv.ownBlock = some b → fv.ownBlock ≠ some b
  b : Below w0.heap.size w0 w
  l : w0.heap.size ≤ nb
  r : W.Rok R
  v : ∀ m ∈ S, W.vd m
variable {w0 w w' : World} {nb : Nat} {S : List W.Mg} {lv fv fv' : Value} {R : Nat → Int}
theorem Kp.below (H : Kp w0 nb S lv fv R w) (hb : Below w.heap.size w w') : Kp w0 nb S lv fv R w' := ⟨H.n.below hb, own_below H.o hb, H.ln, H.lf, H.b.trans (hb.mono H.b.size), H.l, H.r, H.v⟩
/-- Behind a message sent, and the list grown by it. -/
theorem Kp.step (H : Kp w0 nb S lv fv R w) (m : W.Mg) (ha : W.adm 4 R m = none) {w1 w6 : World} (hn : Nt nb nb 4 (W.dec 4 R m) ((S.length : Int) + 1) fv' (W.fls 0 S ++ [⟨(S.length : Int), m⟩]) w1) (hu : Up nb fv fv' w w1) (o : Obj) (g cap : Nat) (ho : w6.ownsRow nb 47 11 (.slice (some ⟨g, 0, none⟩) (S.length + 1) cap) (S.length + 1) (mgX S ++ mgL m)) (hg : (w1.alloc o).grownBy w6 lv.ownBlock) (hat : lv.ownBlock = some g ∨ g = w1.heap.size + 1) :
    Kp w0 nb (S ++ [m]) (.slice (some ⟨g, 0, none⟩) (S.length + 1) cap) fv' (W.dec 4 R m) w6 := by
  have hl : ∀ b, lv.ownBlock = some b → b < w.heap.size ∧ b ≠ nb ∧ fv.ownBlock ≠ some b := fun b e => ⟨(H.o.lt b e).2, fun q => H.ln (q ▸ e), H.lf b e⟩
  have hl' : ∀ b, lv.ownBlock = some b → fv'.ownBlock ≠ some b := fun b e => (hu.other (hl b e).1 (hl b e).2.1 (hl b e).2.2).2
  have hN : Nt nb nb 4 (W.dec 4 R m) ((S.length : Int) + 1) fv' (W.fls 0 S ++ [⟨(S.length : Int), m⟩]) w6 := by
    refine (hn.below (below_alloc w1 o)).apart (S := fun b => lv.ownBlock = some b) (Gs.of_grown hg (fun b e => e)) (fun e => H.ln e) (fun b e q => hl' b q e)
  have eb : (Value.slice (some ⟨g, 0, none⟩) (S.length + 1) cap).ownBlock = some g := rfl
  refine ⟨?_, ?_, ?_, ?_, ?_, H.l, W.dec_ok H.r ha (by decide), fun x hx => ?_⟩
  · rw [List.length_append, W.fls_app, Int.zero_add]
    exact hN
  · rw [List.length_append, mgX_app]
    exact ho
  · rw [eb]
    intro e
    cases e
    rcases hat with q | q
    · exact H.ln q
    · have := hn.b.lt; omega
  · intro b e
    rw [eb] at e
    cases e
    rcases hat with q | q
    · exact hl' _ q
    · intro e
      have := (hn.fb _ e).2
      omega
  · have h1 : Below w0.heap.size w0 w1 := H.b.trans (hu.below H.b.size H.l (fun b e => Nat.le_trans H.l (H.n.fb b e).1))
    exact (h1.alloc h1.size o).grown hg (Nat.le_trans h1.size (below_alloc w1 o).size) (fun b e => Nat.le_trans H.l (H.o.lt b e).1)
  · rcases List.mem_append.1 hx with hx | hx
    · exact H.v x hx
    · obtain rfl : x = m := by simpa using hx
      exact adm_vd ha
theorem Kp.own (H : Kp w0 nb S lv fv R w) {w1 : World} (hu : Up nb fv fv' w w1) (o : Obj) : (w1.alloc o).ownsRow nb 47 11 lv S.length (mgX S) :=
  own_below (own_gs H.o hu.g (fun b e q => q.elim (fun q => H.ln (q ▸ e)) (fun q => H.lf b e q))) (below_alloc w1 o)
end Go.Proofs.YtaioioilfanpeaaDoor
