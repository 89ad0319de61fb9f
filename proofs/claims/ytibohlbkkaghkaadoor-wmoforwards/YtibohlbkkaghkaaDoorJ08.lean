/- Texts in one: PpoJ, PpoK. -/
import Derived.Deep.RegionWith
import Derived.Deep.AppendLies
import Derived.Deep.RegionLaw
import Derived.Test.YtibohlbkkaghkaaDoorJ01
/- sees. -/
namespace Go.Proofs.YtibohlbkkaghkaaDoor
open Go.ChangeShapes Go.WideShapes Go.ChangeAt Go.RowKit
set_option linter.unusedVariables false
set_option linter.unusedSimpArgs false
variable {F : Nat → Option Obj}

theorem own_n {w : World} {base : Nat} {e : TypeId} {size n : Nat} {xs : List Value} {O : W.Sl} (h : w.ownsRow base e size (slV O) n xs) : O.n = n := by
  obtain ⟨a, m, c⟩ := O
  rcases h.2 with ⟨h1, h2⟩ | ⟨g, cap, cur, h1, _⟩
  · simp [slV] at h1
    simp only
    omega
  · simp [slV] at h1
    simp only
    omega
theorem spX_get : ∀ (L : List W.Sp) (j : Nat) (s : W.Sp), L[j]? = some s → (spX L)[j * 2]? = some (.int .u32 s.f) ∧ (spX L)[j * 2 + 1]? = some (.int .u64 s.s)
  | [], j, s, h => by simp at h
  | z :: L, 0, s, h => by
    have e : z = s := by simpa using h
    subst e
    exact ⟨rfl, rfl⟩
  | z :: L, j + 1, s, h => by
    have := spX_get L j s (by simpa using h)
    rw [show (j + 1) * 2 = j * 2 + 1 + 1 by omega]
    exact this
/-- What is hidden, read. -/
theorem LkF.hids {w0 : World} {d : Kd} {w : World} (h : LkF F w0 d w) : d.H.n = d.hid.length ∧ (0 < d.hid.length → ∃ g, d.H.a = some ⟨g, 0, none⟩ ∧ g < w.heap.size ∧ ∀ j s, d.hid[j]? = some s → w.cell? ⟨g, j * 2, none⟩ = some (.int .u32 s.f) ∧ w.cell? ⟨g, j * 2 + 1, none⟩ = some (.int .u64 s.s)) := by
  refine ⟨own_n h.h, fun h0 => ?_⟩
  obtain ⟨g, cap, hv, hb, hl⟩ := h.h.form h0
  have ha : d.H.a = some ⟨g, 0, none⟩ := by
    unfold slV at hv
    simp at hv
    exact hv.1
  refine ⟨g, ha, hl, fun j s hs => ?_⟩
  obtain ⟨q1, q2⟩ := spX_get d.hid j s hs
  have c1 := h.h.cells (g := g) (by rw [hv]; rfl) (j * 2) _ q1
  have c2 := h.h.cells (g := g) (by rw [hv]; rfl) (j * 2 + 1) _ q2
  rw [Addr.add_lit] at c1 c2
  exact ⟨by simpa using c1, by simpa using c2⟩
theorem W.sees_all {h : List W.Sp} {x b : W.Sp} (e : ∀ m s, m < h.length → h[m]? = some s → W.share x b s = false) : W.sees h x b = true := by
  unfold W.sees
  have : (h.any fun s => W.share x b s) = false := by
    rw [List.any_eq_false]
    intro s hs
    obtain ⟨m, hm, e2⟩ := List.getElem_of_mem hs
    rw [e m s hm (by rw [List.getElem?_eq_getElem hm, e2])]
    decide
  rw [this]
  rfl
theorem W.sees_not {h : List W.Sp} {x b s : W.Sp} {j : Nat} (hj : h[j]? = some s) (e : W.share x b s = true) : W.sees h x b = false := by
  unfold W.sees
  have : (h.any fun s => W.share x b s) = true := List.any_eq_true.2 ⟨s, List.mem_of_getElem? hj, e⟩
  rw [this]
  rfl
/-- Six cells, over a call. -/
theorem six_below {wr w1 w2 : World} {a k i : Nat} {X B s : W.Sp} (h : Below wr.heap.size wr w1 ∧ a < w1.heap.size ∧ k < w1.heap.size ∧ wr.heap.size < w1.heap.size ∧ w1.cell? ⟨a, i * 3, none⟩ = some (.int .u32 X.f) ∧ w1.cell? ⟨a, i * 3 + 1, none⟩ = some (.int .u64 X.s) ∧ w1.cell? ⟨k, 5, none⟩ = some (.int .u32 B.f) ∧ w1.cell? ⟨k, 6, none⟩ = some (.int .u64 B.s) ∧ w1.cell? ⟨wr.heap.size, 0, none⟩ = some (.int .u32 s.f) ∧ w1.cell? ⟨wr.heap.size, 1, none⟩ = some (.int .u64 s.s)) (hb : Below w1.heap.size w1 w2) :
    Below wr.heap.size wr w2 ∧ a < w2.heap.size ∧ k < w2.heap.size ∧ wr.heap.size < w2.heap.size ∧ w2.cell? ⟨a, i * 3, none⟩ = some (.int .u32 X.f) ∧ w2.cell? ⟨a, i * 3 + 1, none⟩ = some (.int .u64 X.s) ∧ w2.cell? ⟨k, 5, none⟩ = some (.int .u32 B.f) ∧ w2.cell? ⟨k, 6, none⟩ = some (.int .u64 B.s) ∧ w2.cell? ⟨wr.heap.size, 0, none⟩ = some (.int .u32 s.f) ∧ w2.cell? ⟨wr.heap.size, 1, none⟩ = some (.int .u64 s.s) := by
  obtain ⟨h1, h2, h3, h4, h5, h6, h7, h8, h9, h10⟩ := h
  obtain ⟨q, _⟩ := bcell hb
  have z := hb.size
  exact ⟨h1.trans (hb.mono h1.size), by omega, by omega, by omega, (q _ _ h2).trans h5, (q _ _ h2).trans h6, (q _ _ h3).trans h7, (q _ _ h3).trans h8, (q _ _ h4).trans h9, (q _ _ h4).trans h10⟩
theorem six_start {wr : World} {a k i : Nat} {X B s : W.Sp} (T : TypeId) (al : a < wr.heap.size) (kl : k < wr.heap.size) (z0 : wr.cell? ⟨a, i * 3, none⟩ = some (.int .u32 X.f)) (z1 : wr.cell? ⟨a, i * 3 + 1, none⟩ = some (.int .u64 X.s)) (z5 : wr.cell? ⟨k, 5, none⟩ = some (.int .u32 B.f)) (z6 : wr.cell? ⟨k, 6, none⟩ = some (.int .u64 B.s)) :
    Below wr.heap.size wr (wr.alloc (.cells #[.int .u32 s.f, .int .u64 s.s] T)).drew ∧ a < (wr.alloc (.cells #[.int .u32 s.f, .int .u64 s.s] T)).drew.heap.size ∧ k < (wr.alloc (.cells #[.int .u32 s.f, .int .u64 s.s] T)).drew.heap.size ∧ wr.heap.size < (wr.alloc (.cells #[.int .u32 s.f, .int .u64 s.s] T)).drew.heap.size ∧ (wr.alloc (.cells #[.int .u32 s.f, .int .u64 s.s] T)).drew.cell? ⟨a, i * 3, none⟩ = some (.int .u32 X.f) ∧ (wr.alloc (.cells #[.int .u32 s.f, .int .u64 s.s] T)).drew.cell? ⟨a, i * 3 + 1, none⟩ = some (.int .u64 X.s) ∧ (wr.alloc (.cells #[.int .u32 s.f, .int .u64 s.s] T)).drew.cell? ⟨k, 5, none⟩ = some (.int .u32 B.f) ∧ (wr.alloc (.cells #[.int .u32 s.f, .int .u64 s.s] T)).drew.cell? ⟨k, 6, none⟩ = some (.int .u64 B.s) ∧ (wr.alloc (.cells #[.int .u32 s.f, .int .u64 s.s] T)).drew.cell? ⟨wr.heap.size, 0, none⟩ = some (.int .u32 s.f) ∧ (wr.alloc (.cells #[.int .u32 s.f, .int .u64 s.s] T)).drew.cell? ⟨wr.heap.size, 1, none⟩ = some (.int .u64 s.s) := by
  have hb : Below wr.heap.size wr (wr.alloc (.cells #[.int .u32 s.f, .int .u64 s.s] T)).drew := ((Below.refl _ _).alloc (Nat.le_refl _) _).drew
  have hl : (wr.alloc (.cells #[.int .u32 s.f, .int .u64 s.s] T)).drew.heap.size = wr.heap.size + 1 := by show (wr.alloc _).heap.size = _; simp
  obtain ⟨q, _⟩ := bcell hb
  exact ⟨hb, by omega, by omega, by omega, (q _ _ al).trans z0, (q _ _ al).trans z1, (q _ _ kl).trans z5, (q _ _ kl).trans z6, cell_of_row _ _ 0 _ T (0, 0) (heap_alloc_last wr _), cell_of_row _ _ 1 _ T (0, 0) (heap_alloc_last wr _)⟩
set_option maxHeartbeats 1600000 in
theorem sees_any (w0 : World) (d : Kd) (w : World) (h : LkF F w0 d w) (i : Nat) (hi : i < d.n) (hm : d.hid.length ≤ 4096) (oa : W.SpOk (d.A i).p) (ob : W.SpOk d.b.p) :
    Calls Tryd.prog 76 #[.pointer (some ⟨d.kb, 0, none⟩), .pointer (some ⟨d.ab, i * 3, none⟩)] w fun e w' => e = .returned (.bool (W.sees d.hid (d.A i).p d.b.p)) ∧ Below w.heap.size w w' := by
  obtain ⟨hn, hc⟩ := h.hids
  obtain ⟨x0, x1, _⟩ := h.act i hi
  have al := h.a.lt
  have k5 := h.k.c 5 (by decide)
  have k6 := h.k.c 6 (by decide)
  have k9 := h.k.c 9 (by decide)
  have kl := h.k.lt
  have hok := h.ok
  simp only [Kd.f] at k5 k6 k9
  rcases hH : d.H with ⟨ha, hn2, hcap⟩
  rw [hH] at hn hc k9
  dsimp only at hn hc
  subst hn
  unfold slV at k9
  have hsh := fun s (q : s ∈ d.hid) w => share_any (d.A i).p d.b.p s oa ob (hok s q) w
  unfold spV at hsh
  clear h hH
  generalize d.hid = L at *
  generalize (d.A i).p = X at *
  generalize d.b.p = B at *
  generalize d.kb = kb at *
  generalize d.ab = ab at *
  have HC : Hid (_ ∧ _) := ⟨hc, hsh⟩
  clear hc hsh hok oa ob
  go_enter Tryd.func76, Tryd.ntmps76
  go_wp2
  go_loopw [12] (fun t wr => ∃ j : Nat, j ≤ L.length ∧ t = .int .i64 (j : Int) ∧ Below w.heap.size w wr ∧ ∀ m s, m < j → L[m]? = some s → W.share X B s = false) (fun t _ => L.length - (intOf t).toNat)
  case atStart => exact ⟨0, by omega, rfl, Below.refl _ _, fun m s hm => by omega⟩
  case round =>
    obtain ⟨j, hj, rfl, bw, hall⟩ := hrel
    by_cases hlt : j < L.length
    · obtain ⟨g, rfl, gl, hc⟩ := HC.out.1 (by omega)
      have ex : L[j]? = some L[j] := List.getElem?_eq_getElem hlt
      obtain ⟨g0, g1⟩ := hc j L[j] ex
      have hsh := HC.out.2 L[j] (List.getElem_mem hlt)
      obtain ⟨cw, _⟩ := bcell bw
      have ws := bw.size
      have y0 := (cw _ _ gl).trans g0
      have y1 := (cw _ _ gl).trans g1
      have z0 := (cw _ _ al).trans x0
      have z1 := (cw _ _ al).trans x1
      have z5 := (cw _ _ kl).trans k5
      have z6 := (cw _ _ kl).trans k6
      have gl' : g < wr.heap.size := by omega
      have al' : ab < wr.heap.size := by omega
      have kl' : kb < wr.heap.size := by omega
      clear hc cw g0 g1
      generalize L[j] = s at *
      have HH : Hid (_ ∧ _ ∧ _) := ⟨hall, ex, hsh⟩
      clear hall ex hsh
      cases hs : W.share X B s
      · have E : Hid (∀ m s', m < j + 1 → L[m]? = some s' → W.share X B s' = false) := show ∀ m s', m < j + 1 → L[m]? = some s' → W.share X B s' = false from fun m s' hm e => by
          by_cases q : m < j
          · exact HH.out.1 m s' q e
          · have q2 : m = j := by omega
            subst q2
            rw [HH.out.2.1] at e
            cases e
            exact hs
        rw [hs] at HH
        go_wp2
        refine wp_region_quiet (C := fun w' => Below wr.heap.size wr w' ∧ ab < w'.heap.size ∧ kb < w'.heap.size ∧ wr.heap.size < w'.heap.size ∧ w'.cell? ⟨ab, i * 3, none⟩ = some (.int .u32 X.f) ∧ w'.cell? ⟨ab, i * 3 + 1, none⟩ = some (.int .u64 X.s) ∧ w'.cell? ⟨kb, 5, none⟩ = some (.int .u32 B.f) ∧ w'.cell? ⟨kb, 6, none⟩ = some (.int .u64 B.s) ∧ w'.cell? ⟨wr.heap.size, 0, none⟩ = some (.int .u32 s.f) ∧ w'.cell? ⟨wr.heap.size, 1, none⟩ = some (.int .u64 s.s)) (by kernel_rfl) (by kernel_rfl) (six_start _ al' kl' z0 z1 z5 z6) ?_
        clear y0 y1 z0 z1 z5 z6 gl' al' kl'
        simp only [List.toList_toArray]
        repeat (first
          | go_big_quiet_skip
          | (go_big_quiet_want; go_big_quiet_op; go_big_quiet_on)
          | (go_big_quiet_want
             apply Exists.intro
             refine ⟨fun wq hw => ?_, ?_⟩
             · (try dsimp only at hw)
               go_simp
               first
                 | rfl
                 | (go_at_call 78; refine (HH.out.2.2 _).mono ?_; rintro e w5 ⟨rfl, hm⟩; exact ⟨rfl, six_below hw hm⟩)
             (try simp only [Act.put, List.setIfInBounds_toArray, List.set_cons_zero, List.set_cons_succ])
             go_big_quiet_on))
        refine wpQuiet_nil ?_
        intro w9 hS9
        go_wp2
        go_roundw
        case rel => exact ⟨j + 1, by omega, by go_num, bw.trans (hS9.1.mono bw.size), E.out⟩
        case measure => simp [intOf]; omega
      · have E := W.sees_not HH.out.2.1 hs
        have E2 : Hid (W.sees L X B = false) := E
        clear E
        rw [hs] at HH
        go_wp2
        refine wp_region_quiet (C := fun w' => Below wr.heap.size wr w' ∧ ab < w'.heap.size ∧ kb < w'.heap.size ∧ wr.heap.size < w'.heap.size ∧ w'.cell? ⟨ab, i * 3, none⟩ = some (.int .u32 X.f) ∧ w'.cell? ⟨ab, i * 3 + 1, none⟩ = some (.int .u64 X.s) ∧ w'.cell? ⟨kb, 5, none⟩ = some (.int .u32 B.f) ∧ w'.cell? ⟨kb, 6, none⟩ = some (.int .u64 B.s) ∧ w'.cell? ⟨wr.heap.size, 0, none⟩ = some (.int .u32 s.f) ∧ w'.cell? ⟨wr.heap.size, 1, none⟩ = some (.int .u64 s.s)) (by kernel_rfl) (by kernel_rfl) (six_start _ al' kl' z0 z1 z5 z6) ?_
        clear y0 y1 z0 z1 z5 z6 gl' al' kl'
        simp only [List.toList_toArray]
        repeat (first
          | go_big_quiet_skip
          | (go_big_quiet_want; go_big_quiet_op; go_big_quiet_on)
          | (go_big_quiet_want
             apply Exists.intro
             refine ⟨fun wq hw => ?_, ?_⟩
             · (try dsimp only at hw)
               go_simp
               first
                 | rfl
                 | (go_at_call 78; refine (HH.out.2.2 _).mono ?_; rintro e w5 ⟨rfl, hm⟩; exact ⟨rfl, six_below hw hm⟩)
             (try simp only [Act.put, List.setIfInBounds_toArray, List.set_cons_zero, List.set_cons_succ])
             go_big_quiet_on))
        refine wpQuiet_nil ?_
        intro w9 hS9
        go_wp2
        rw [E2.out]
        go_ret
        exact ⟨rfl, bw.trans (hS9.1.mono bw.size)⟩
    · have hj' : j = L.length := by omega
      subst hj'
      have E2 : Hid (W.sees L X B = true) := W.sees_all hall
      clear hall
      go_wp2
      rw [E2.out]
      go_ret
      exact ⟨rfl, bw⟩
end Go.Proofs.YtibohlbkkaghkaaDoor

/- hide. -/
namespace Go.Proofs.YtibohlbkkaghkaaDoor
open Go.ChangeShapes Go.WideShapes Go.ChangeAt Go.RowKit
set_option linter.unusedVariables false
set_option linter.unusedSimpArgs false
variable {F : Nat → Option Obj}

theorem step_lies {P : Program} (w : World) {ops : Array Oper} {a : Act} {K : Act → World → Prop} {Q : Exit → Act → World → Prop} {E : Prop} (d s x t : Nat) {ty : TypeId} {ps : String} {af : Array Edge}
    (base : Nat) (e : TypeId) (i : TypeInfo) (z : Value) (size bytes : Nat) (ht : P.underlying t = some (.slice e)) (hi : P.info? e = some i) (hz : i.zero = some z)
    (hsize : i.size = size) (hby : i.bytes = bytes) (hzs : z.cells.size = size) (hsz : 0 < size)
    (v : Value) (n : Nat) (xs : List Value) (hs : a.eval (.tmp s) = v) (hown : w.ownsRow base e size v n xs)
    (ad : Addr) (m c : Nat) (news : List Value) (hx : a.eval (.tmp x) = .slice (some ad) m c) (hl : news.length = m * size) (hnews : ∀ j u, news[j]? = some u → w.cell? (ad.add j) = some u) (h1 : ∀ u ∈ news, u.oneCell' = true)
    (hm : 0 < m) (h63 : n + m ≤ maxLen) (hbytes : (n + m) * bytes ≤ 140737488355328) (hbase : base ≤ w.heap.size)
    (h : ∀ g cap w', w'.ownsRow base e size (.slice (some ⟨g, 0, none⟩) (n + m) cap) (n + m) (xs ++ news) → w.grownBy w' v.ownBlock → (v.ownBlock = some g ∨ g = w.heap.size) → g < w'.heap.size → K (a.put (some d) (.slice (some ⟨g, 0, none⟩) (n + m) cap)) w') :
    if Region.wanted { dst := some d, op := .call { callee := .builtin .append, args := #[.tmp s, .tmp x], argTypes := #[t, t] }, type := ty, pos := ps, after := af, guard := none } (yielded ops a.tmps) = true then Oper.wp P { dst := some d, op := .call { callee := .builtin .append, args := #[.tmp s, .tmp x], argTypes := #[t, t] }, type := ty, pos := ps, after := af, guard := none } a w K Q else E := by
  rw [if_pos (by simp [Region.wanted])]
  exact wp_append_lies w _ _ t rfl base e i z size bytes ht hi hz hsize hby hzs hsz v n xs hs hown ad m c news hx hl hnews h1 hm h63 hbytes hbase _ rfl h
theorem W.hide_all {h : List W.Sp} {x : W.Sp} (e : ∀ m s, m < h.length → h[m]? = some s → W.inside x s = false) : W.hide h x = h ++ [x] := by
  unfold W.hide
  have : (h.any fun s => W.inside x s) = false := by
    rw [List.any_eq_false]
    intro s hs
    obtain ⟨m, hm, e2⟩ := List.getElem_of_mem hs
    rw [e m s hm (by rw [List.getElem?_eq_getElem hm, e2])]
    decide
  rw [this]
  rfl
theorem W.hide_not {h : List W.Sp} {x s : W.Sp} {j : Nat} (hj : h[j]? = some s) (e : W.inside x s = true) : W.hide h x = h := by
  unfold W.hide
  have : (h.any fun s => W.inside x s) = true := List.any_eq_true.2 ⟨s, List.mem_of_getElem? hj, e⟩
  rw [this]
  rfl
theorem spX_app (L : List W.Sp) (q : W.Sp) : spX (L ++ [q]) = spX L ++ [.int .u32 q.f, .int .u64 q.s] := by simp [spX]
theorem infoSp : (Tryd.prog.info? 114).map (fun i => (i.zero, i.size, i.bytes)) = some (some (.agg #[.int .u32 0, .int .u64 0]), 2, 16) := by kernel_rfl
set_option maxHeartbeats 1600000 in
theorem hide_any (w0 : World) (d : Kd) (w : World) (h : LkF F w0 d w) (s : W.Sp) (os : W.SpOk s) (hm : d.hid.length ≤ 4096) :
    Calls Tryd.prog 77 #[.pointer (some ⟨d.kb, 0, none⟩), spV s] w fun e w' => e = .returned (.tuple #[]) ∧ ∃ P, LkF F w0 { d with H := P, hid := W.hide d.hid s } w' := by
  obtain ⟨ti, hi, hzz⟩ := Option.map_eq_some_iff.1 infoSp
  simp only [Prod.mk.injEq] at hzz
  obtain ⟨hz0, hz1, hz2⟩ := hzz
  have hbox : Below w.heap.size w (w.alloc (.cells #[.int .u32 s.f, .int .u64 s.s] 114)) := (Below.refl _ _).alloc (Nat.le_refl _) _
  have L1 := h.below hbox
  have bx0 : (w.alloc (.cells #[.int .u32 s.f, .int .u64 s.s] 114)).cell? ⟨w.heap.size, 0, none⟩ = some (.int .u32 s.f) := cell_of_row _ _ 0 _ _ (0, 0) (heap_alloc_last w _)
  have bx1 : (w.alloc (.cells #[.int .u32 s.f, .int .u64 s.s] 114)).cell? ⟨w.heap.size, 1, none⟩ = some (.int .u64 s.s) := cell_of_row _ _ 1 _ _ (0, 0) (heap_alloc_last w _)
  have bl : w.heap.size < (w.alloc (.cells #[.int .u32 s.f, .int .u64 s.s] 114)).heap.size := by simp
  have k9 := L1.k.c 9 (by decide)
  have kl := L1.k.lt
  simp only [Kd.f] at k9
  have hn := L1.hids.1
  have hob := h.hk
  clear h hbox
  unfold spV
  rcases hH : d.H with ⟨ha, hn2, hcap⟩
  rw [hH] at hn k9
  dsimp only at hn
  subst hn
  unfold slV at k9
  dsimp only at k9
  have HL : Hid (_ ∧ _) := ⟨L1, hH⟩
  clear L1 hH
  go_enter Tryd.func77, Tryd.ntmps77
  go_wp2
  generalize w.alloc _ = W1 at *
  go_loopw [11] (fun t wr => ∃ j : Nat, j ≤ d.hid.length ∧ t = .int .i64 (j : Int) ∧ Below W1.heap.size W1 wr ∧ ∀ m q, m < j → d.hid[m]? = some q → W.inside s q = false) (fun t _ => d.hid.length - (intOf t).toNat)
  case atStart => exact ⟨0, by omega, rfl, Below.refl _ _, fun m q hm => by omega⟩
  case round =>
    obtain ⟨j, hj, rfl, bw, hall⟩ := hrel
    obtain ⟨cw, fw⟩ := bcell bw
    have ws := bw.size
    have y0 := (cw _ _ bl).trans bx0
    have y1 := (cw _ _ bl).trans bx1
    have bl' : w.heap.size < wr.heap.size := by omega
    by_cases hlt : j < d.hid.length
    · obtain ⟨g, eg, gl, hc⟩ := (HL.out.1.below bw).hids.2 (by omega)
      rw [HL.out.2] at eg
      dsimp only at eg
      subst eg
      have ex : d.hid[j]? = some d.hid[j] := List.getElem?_eq_getElem hlt
      obtain ⟨g0, g1⟩ := hc j d.hid[j] ex
      have hin := fun w => inside_any s d.hid[j] os (HL.out.1.ok _ (List.getElem_mem hlt)) w
      unfold spV at hin
      clear hc cw fw
      generalize d.hid[j] = q at *
      have HH : Hid (_ ∧ _ ∧ _) := ⟨hall, ex, hin⟩
      clear hall ex hin
      cases hs : W.inside s q
      · have E : Hid (∀ m s', m < j + 1 → d.hid[m]? = some s' → W.inside s s' = false) := show ∀ m s', m < j + 1 → d.hid[m]? = some s' → W.inside s s' = false from fun m s' hm e => by
          by_cases q : m < j
          · exact HH.out.1 m s' q e
          · have q2 : m = j := by omega
            subst q2
            rw [HH.out.2.1] at e
            cases e
            exact hs
        rw [hs] at HH
        go_wp2_with (fail)
        refine (HH.out.2.2 _).mono ?_
        rintro e w2 ⟨rfl, b2⟩
        have B2 := bw.trans ((((Below.refl wr.heap.size wr).alloc (Nat.le_refl _) _).trans (b2.mono (by simp))).mono bw.size)
        clear y0 y1 g0 g1 b2
        go_wp2
        go_roundw
        case rel => exact ⟨j + 1, by omega, by go_num, B2, E.out⟩
        case measure => simp [intOf]; omega
      · rw [hs] at HH
        go_wp2_with (fail)
        refine (HH.out.2.2 _).mono ?_
        rintro e w2 ⟨rfl, b2⟩
        have B2 := bw.trans ((((Below.refl wr.heap.size wr).alloc (Nat.le_refl _) _).trans (b2.mono (by simp))).mono bw.size)
        have X : Hid (∃ P, LkF F w0 { d with H := P, hid := W.hide d.hid s } w2) := ⟨d.H, by rw [W.hide_not HH.out.2.1 hs]; exact HL.out.1.below B2⟩
        clear y0 y1 g0 g1 b2
        go_wp2
        exact bodyPost_ret (v := .tuple #[]) (by simp [results, Tryd.results77, go_sem]) rfl ⟨rfl, X.out⟩
    · have hj' : j = d.hid.length := by omega
      subst hj'
      have E := W.hide_all hall
      have kl2 : d.kb < wr.heap.size := Nat.lt_of_lt_of_le kl ws
      have r9 := (cw _ _ kl).trans k9
      have L2 := HL.out.1.below bw
      have la0 := ((L2.below (Below.refl _ _).drew).k.c 9 (by decide))
      have la1 := fun o => (((L2.below ((Below.refl _ _).alloc (Nat.le_refl _) o)).below (Below.refl _ _).drew).k.c 9 (by decide))
      simp only [Kd.f] at la0 la1
      rw [HL.out.2] at la0 la1
      unfold slV at la0 la1
      dsimp only at la0 la1
      have lz0 := fun o => (((Below.refl wr.heap.size wr).alloc (Nat.le_refl _) o).drew.cell (p := ⟨w.heap.size, 0, none⟩) bl').trans y0
      have lz1 := fun o => (((Below.refl wr.heap.size wr).alloc (Nat.le_refl _) o).drew.cell (p := ⟨w.heap.size, 1, none⟩) bl').trans y1
      clear hall cw fw
      have L5 : LkF F w0 d (wr.alloc (.cells #[.int .u32 s.f, .int .u64 s.s] 114)).drew := (L2.below ((Below.refl _ _).alloc (Nat.le_refl _) _)).below (Below.refl _ _).drew
      have own5 := L5.h
      have hk5 := L5.hk
      rw [HL.out.2] at own5 hk5
      have nw : ∀ j u, [Value.int .u32 s.f, Value.int .u64 s.s][j]? = some u → (wr.alloc (.cells #[.int .u32 s.f, .int .u64 s.s] 114)).drew.cell? ((⟨wr.heap.size, 0, none⟩ : Addr).add j) = some u := fun j u hu => by
        rw [Addr.add_lit]
        refine (cell_of_row _ _ _ _ _ (0, 0) (heap_alloc_last wr _)).trans ?_
        simpa using hu
      have one : ∀ u ∈ [Value.int .u32 s.f, Value.int .u64 s.s], u.oneCell' = true := fun u hu => by
        simp at hu
        rcases hu with h | h <;> rw [h] <;> rfl
      have fin : ∀ g cap w6, w6.ownsRow w0.heap.size 114 2 (.slice (some ⟨g, 0, none⟩) (d.hid.length + 1) cap) (d.hid.length + 1) (spX d.hid ++ [.int .u32 s.f, .int .u64 s.s]) → (wr.alloc (.cells #[.int .u32 s.f, .int .u64 s.s] 114)).drew.grownBy w6 (Value.slice ha d.hid.length hcap).ownBlock → ((Value.slice ha d.hid.length hcap).ownBlock = some g ∨ g = (wr.alloc (.cells #[.int .u32 s.f, .int .u64 s.s] 114)).drew.heap.size) → ∃ P, LkF F w0 { d with H := P, hid := W.hide d.hid s } (w6.setCell ⟨d.kb, 9, none⟩ (.slice (some ⟨g, 0, none⟩) (d.hid.length + 1) cap)) := fun g cap w6 o1 g1 e1 => by
        have hg1 : (wr.alloc (.cells #[.int .u32 s.f, .int .u64 s.s] 114)).drew.grownBy w6 (slV d.H).ownBlock := by rw [HL.out.2]; exact g1
        rw [E]
        refine ⟨⟨some ⟨g, 0, none⟩, d.hid.length + 1, cap⟩, L5.setH ⟨some ⟨g, 0, none⟩, d.hid.length + 1, cap⟩ (d.hid ++ [s]) (fun q hq => ?_) hg1 ?_ (fun b hb => ?_)⟩
        · rcases List.mem_append.1 hq with hq | hq
          · exact L5.ok q hq
          · obtain rfl : q = s := by simpa using hq
            exact os
        · rw [spX_app, List.length_append]
          exact o1
        · have hb' : b = g := by simpa [slV, Value.ownBlock] using hb
          subst hb'
          rcases e1 with h | h
          · left; rw [HL.out.2]; exact h.symm
          · right; omega
      have bs5 := L5.bl.size
      have kk5 := L5.k
      have HL2 : Hid (_ ∧ _ ∧ _ ∧ _ ∧ _ ∧ _ ∧ _) := ⟨own5, nw, one, fin, bs5, kk5, hk5⟩
      clear L2 E hob L5 own5 nw one fin bs5 kk5 hk5
      go_wp2_with (fail)
      go_region_law (first
          | ((refine step_lies _ 26 23 25 _ w0.heap.size 114 ti (.agg #[.int .u32 0, .int .u64 0]) 2 16 Tryd.underlying118 hi hz0 hz1 hz2 rfl (by decide) (.slice ha d.hid.length hcap) d.hid.length (spX d.hid) ?a1 ?a3 ⟨wr.heap.size, 0, none⟩ 1 1 [.int .u32 s.f, .int .u64 s.s] ?a2 rfl ?a4 ?a5 (by decide) ?a6 ?a7 ?a8 ?_
              case a1 => rfl
              case a2 => rfl
              case a3 => exact HL2.out.1
              case a4 => exact HL2.out.2.1
              case a5 => exact HL2.out.2.2.1
              case a6 => unfold maxLen; omega
              case a7 => omega
              case a8 => exact HL2.out.2.2.2.2.1
              intro g cap w6 hown6 hg6 hat6 hlt6
              have kk6 := HL2.out.2.2.2.2.2.1.grown hg6 HL2.out.2.2.2.2.2.2
              have r9' := kk6.c 9 (by decide)
              simp only [Kd.f] at r9'
              rw [HL.out.2] at r9'
              unfold slV at r9'
              dsimp only at r9'
              have kl6 := kk6.lt
              have rf := kk6.fz 9
              clear kk6))
          | (fail))
      all_goals
        have X := HL2.out.2.2.2.1 g cap w6 hown6 hg6 hat6
        have HX : Hid _ := X
        clear X HL2 HL r9' rf hown6 hg6
        go_wp2
        go_end0
        exact ⟨rfl, HX.out⟩
end Go.Proofs.YtibohlbkkaghkaaDoor
