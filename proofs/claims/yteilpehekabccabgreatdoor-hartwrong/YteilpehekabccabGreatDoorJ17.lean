/- Texts in one: HartG1, HartG2, HartF0. -/
import Derived.Deep.RegionHeld3
import Derived.Deep.RegionWith
import Derived.Test.YteilpehekabccabGreatDoorJ06
import Derived.Test.YteilpehekabccabGreatDoorJ11
import Derived.Test.YteilpehekabccabGreatDoorJ13
import Derived.Test.YteilpehekabccabGreatDoorJ16
/- The walk of a hart by its entries. -/
namespace Go.Proofs.YteilpehekabccabGreatDoor
open Go.ChangeShapes Go.WideShapes Go.ChangeAt Go.RowKit
set_option linter.unusedVariables false
set_option linter.unusedSimpArgs false

theorem askAll_succ (satp mode va acc bytes : Int) (A V : Nat → Int) (n : Nat) : W.askAll satp mode va acc bytes A V (n + 1) = (W.askAll satp mode va acc bytes A V n && W.ask satp mode va acc bytes A V n) := rfl

/-- Within walk: the result in block B. -/
structure Hw (B : Nat) (w0 w : World) : Prop where
  base : Below w0.heap.size w0 w
  hB : w0.heap.size = B
  res : w.heap[B]? = some (.cells #[.int .i64 0, .int .u32 0, .int .u32 0, .int .u32 0, .int .u32 0] 94)
theorem Hw.lt {B : Nat} {w0 w : World} (h : Hw B w0 w) : B < w.heap.size := (Array.getElem?_eq_some_iff.1 h.res).1
theorem Hw.below {B : Nat} {w0 w w' : World} (h : Hw B w0 w) (hb : Below w.heap.size w w') : Hw B w0 w' := ⟨h.base.trans (hb.mono h.base.size), h.hB, (hb.block _ h.lt).trans h.res⟩
theorem Hw.alloc {B : Nat} {w0 w : World} (h : Hw B w0 w) (o : Obj) : Hw B w0 (w.alloc o) := h.below ((Below.refl _ _).alloc (Nat.le_refl _) _)
theorem Hw.drew {B : Nat} {w0 w : World} (h : Hw B w0 w) : Hw B w0 w.drew := h.below (Below.refl w.heap.size w).drew
theorem Hw.first (w : World) : Hw w.heap.size w (w.alloc (.cells #[.int .i64 0, .int .u32 0, .int .u32 0, .int .u32 0, .int .u32 0] 94)).drew :=
  ⟨((Below.refl _ _).alloc (Nat.le_refl _) _).drew, rfl, by show (w.heap.push _)[w.heap.size]? = _; simp⟩

theorem Hw.set {B : Nat} {w0 w : World} (h : Hw B w0 w) {g : Nat} (hg : B < g) (o : Nat) (v : Value) : Hw B w0 (w.setCell ⟨g, o, none⟩ v) :=
  have hB := h.hB
  ⟨h.base.setCell (by show w0.heap.size ≤ g; omega) v, h.hB, (Below.heap_setCell _ _ _ _ (by show B ≠ g; omega)).trans h.res⟩
theorem set1 {w : World} {g : Nat} {c c' : Array Value} {T : TypeId} (h : w.heap[g]? = some (.cells c T)) (o : Nat) (v : Value) (e : c.setIfInBounds o v = c') : (w.setCell ⟨g, o, none⟩ v).heap[g]? = some (.cells c' T) := by
  simp only [World.setCell, Array.getElem?_modify, if_true, h, Option.map_some]
  simp [e]
theorem set5 {w : World} {g : Nat} {x0 x1 x2 x3 x4 : Value} {T : TypeId} (h : w.heap[g]? = some (.cells #[x0, x1, x2, x3, x4] T)) (v0 v1 v2 v3 v4 : Value) :
    (((((w.setCell ⟨g, 0, none⟩ v0).setCell ⟨g, 1, none⟩ v1).setCell ⟨g, 2, none⟩ v2).setCell ⟨g, 3, none⟩ v3).setCell ⟨g, 4, none⟩ v4).heap[g]? = some (.cells #[v0, v1, v2, v3, v4] T) :=
  set1 (set1 (set1 (set1 (set1 h 0 v0 rfl) 1 v1 rfl) 2 v2 rfl) 3 v3 rfl) 4 v4 rfl
theorem off5 {w : World} {g q : Nat} {o : Obj} (h : w.heap[q]? = some o) (hq : q ≠ g) (v0 v1 v2 v3 v4 : Value) :
    (((((w.setCell ⟨g, 0, none⟩ v0).setCell ⟨g, 1, none⟩ v1).setCell ⟨g, 2, none⟩ v2).setCell ⟨g, 3, none⟩ v3).setCell ⟨g, 4, none⟩ v4).heap[q]? = some o :=
  (Below.heap_setCell _ _ _ _ hq).trans ((Below.heap_setCell _ _ _ _ hq).trans ((Below.heap_setCell _ _ _ _ hq).trans ((Below.heap_setCell _ _ _ _ hq).trans ((Below.heap_setCell _ _ _ _ hq).trans h))))
theorem ask_no {satp mode va acc bytes : Int} {A V : Nat → Int} {k n : Nat} (hk : k < n) (h : W.ask satp mode va acc bytes A V k = false) : W.askAll satp mode va acc bytes A V n = false := by
  induction n with
  | zero => omega
  | succ m ih =>
    rw [askAll_succ]
    by_cases e : k = m
    · subst e; rw [h]; simp
    · rw [ih (by omega)]; rfl

set_option maxHeartbeats 3200000 in
theorem hwalk_any (b : Nat) (S : W.St) (va acc : Int) (v : W.Rg va) (hG : W.FOk S.h.G) (a : Option Addr) (n cap : Nat) (hcap : n ≤ cap) (p : Nat → W.Pt) (w : World) (h : SAt b S w) (hr : Reads a n p w) : Calls Tryz.prog 46 #[.pointer (some ⟨b, 0, none⟩), .int .u32 va, .int .i64 acc, .slice a n cap] w fun x w' => x = .returned (.agg #[.int .i64 (W.hwalk S.h va acc n (fun j => (p j).a) (fun j => (p j).v)).k, .int .u32 (W.hwalk S.h va acc n (fun j => (p j).a) (fun j => (p j).v)).pa, .int .u32 (W.hwalk S.h va acc n (fun j => (p j).a) (fun j => (p j).v)).ad, .int .u32 (W.hwalk S.h va acc n (fun j => (p j).a) (fun j => (p j).v)).vl, .int .u32 (W.hwalk S.h va acc n (fun j => (p j).a) (fun j => (p j).v)).ca]) ∧ Below w.heap.size w w' := by
  generalize hX : W.hwalk S.h va acc n (fun j => (p j).a) (fun j => (p j).v) = X
  have HX : Hid (W.walkS S.h.G.satp S.h.G.m va acc S.h.by_ n (fun j => (p j).a) (fun j => (p j).v) = X) := hX
  clear hX
  have d0 : Hw w.heap.size w (w.alloc (.cells #[.int .i64 0, .int .u32 0, .int .u32 0, .int .u32 0, .int .u32 0] 94)).drew := Hw.first w
  go_enter Tryz.func46, Tryz.ntmps46
  go_wp2_with (fail)
  have h1 : SAt b S (w.alloc (.cells #[.int .i64 0, .int .u32 0, .int .u32 0, .int .u32 0, .int .u32 0] 94)).drew := h.below d0.base
  have hlt := h.lt
  have hbB : b ≠ w.heap.size := by omega
  have s1 := satp_s b S _ h1
  have s2 := mode_s b S _ h1
  go_region_with (first
    | (go_at_call 61; refine s1.mono ?_; rintro e w1 ⟨rfl, rfl⟩)
    | (go_at_call 62; refine s2.mono ?_; rintro e w1 ⟨rfl, rfl⟩))
  all_goals
    clear s1 s2
    generalize World.drew (World.alloc w _) = W1 at *
    have s0 := hG.satp.1
    have s1 := hG.satp.2
    have v0 := v.1
    have v1 := v.2
    clear hG v
    have HR : Hid (Reads a n p w) := hr
    have hn47 := hr.1
    unfold maxLen at hn47
    clear hr
    have HS : Hid (SAt b S w) := h
    clear h h1
    go_wp2_with (fail)
    go_loopw [24] (fun i wr => ∃ k : Nat, k ≤ n ∧ i = .int .i64 k ∧ Hw w.heap.size w wr ∧ W.askAll S.h.G.satp S.h.G.m va acc S.h.by_ (fun j => (p j).a) (fun j => (p j).v) k = true) (fun i _ => n - (intOf i).toNat)
    case atStart => exact ⟨0, by omega, rfl, d0, rfl⟩
    case round =>
      obtain ⟨k, hk, rfl, d, hask⟩ := hrel
      have HA : Hid (W.askAll S.h.G.satp S.h.G.m va acc S.h.by_ (fun j => (p j).a) (fun j => (p j).v) k = true) := hask
      clear hask d0
      have hs := HS.out.below d.base
      have c11 : wr.cell? ⟨b, 11, none⟩ = some (.int .i64 S.h.by_) := hs.ch 0 rfl
      have hbl := hs.lt
      by_cases hlt2 : k < n
      · obtain ⟨b', off, rfl, hb', hrd⟩ := HR.out.2.1 (by omega)
        obtain ⟨q0, q1, q2, q3, q4⟩ := (hrd.below d.base hb') k hlt2
        have hl1 : b' < wr.heap.size := Nat.lt_of_lt_of_le hb' d.base.size
        obtain ⟨N, hNe⟩ : ∃ N, W.nextS S.h.G.satp S.h.G.m va acc S.h.by_ k (fun j => (p j).a) (fun j => (p j).v) = N := ⟨_, rfl⟩
        have hrk : Reads (some ⟨b', off, none⟩) k p w := ⟨by have := HR.out.1; omega, fun hk0 => ⟨b', off, rfl, hb', fun j hj => hrd j (by omega)⟩, HR.out.2.2⟩
        have hN := fun w' (hR : Reads (some ⟨b', off, none⟩) k p w') => wnext_any S.h.G.satp S.h.G.m va acc S.h.by_ s0 s1 v0 v1 (some ⟨b', off, none⟩) k cap p w' hR N hNe
        have HN : Hid (W.ask S.h.G.satp S.h.G.m va acc S.h.by_ (fun j => (p j).a) (fun j => (p j).v) k = ((N.k == 3) && (N.ad == (p k).a))) := (by unfold W.ask; rw [hNe] : W.ask S.h.G.satp S.h.G.m va acc S.h.by_ (fun j => (p j).a) (fun j => (p j).v) k = ((N.k == 3) && (N.ad == (p k).a)))
        clear hrd hNe
        have HK : Hid (Reads (some ⟨b', off, none⟩) k p w) := hrk
        clear hrk
        go_wp2_with (fail)
        generalize hpk : p k = P at *
        obtain ⟨pa, pv, po, pt, pf⟩ := P
        dsimp only at *
        have HP : Hid (p k = ⟨pa, pv, po, pt, pf⟩) := hpk
        clear hpk
        have d2 := (d.alloc (.cells #[.int .u32 pa, .int .u32 pv, .int .u32 po, .int .i64 pt, .bool pf] 32))
        have e2 : (wr.alloc (.cells #[.int .u32 pa, .int .u32 pv, .int .u32 po, .int .i64 pt, .bool pf] 32)).heap[wr.heap.size]? = some (.cells #[.int .u32 pa, .int .u32 pv, .int .u32 po, .int .i64 pt, .bool pf] 32) := by show (wr.heap.push _)[wr.heap.size]? = _; simp
        generalize hW2 : World.alloc wr (.cells #[.int .u32 pa, .int .u32 pv, .int .u32 po, .int .i64 pt, .bool pf] 32) = W2 at *
        generalize hg2 : wr.heap.size = g2 at *
        have lg2 : g2 < W2.heap.size := (Array.getElem?_eq_some_iff.1 e2).1
        have c11' : W2.drew.cell? ⟨b, 11, none⟩ = some (.int .i64 S.h.by_) := (HS.out.below d2.drew.base).ch 0 rfl
        have c11a : ∀ o, (W2.alloc o).drew.cell? ⟨b, 11, none⟩ = some (.int .i64 S.h.by_) := fun o => (HS.out.below (d2.alloc o).drew.base).ch 0 rfl
        have c11b : ∀ o, (W2.drew.alloc o).cell? ⟨b, 11, none⟩ = some (.int .i64 S.h.by_) := fun o => (HS.out.below (d2.drew.alloc o).base).ch 0 rfl
        have hbl2 : b < W2.heap.size := (HS.out.below d2.base).lt
        have hkc : k ≤ cap := by omega
        clear c11 hW2 hg2 d q0 q1 q2 q3 q4
        go_region_with
          (first
            | (go_at_call 63; refine (hN _ ?hh).mono ?_; (case hh => first | exact HK.out.below d2.drew.base | exact HK.out.below (d2.alloc _).drew.base); rintro e w5 ⟨rfl, hb5⟩; (first | (have d5 := d2.drew.below hb5; have e5 := (hb5.block _ lg2).trans e2) | (have d5 := (d2.alloc _).drew.below hb5; have e5 := (hb5.block g2 (by simp; omega)).trans (((Below.refl W2.heap.size W2).alloc (Nat.le_refl _) _).block g2 lg2 |>.trans e2); have z5 : w5.heap[W2.heap.size]? = some (.cells #[.int .i64 0, .int .u32 0, .int .u32 0, .int .u32 0, .int .u32 0] 94) := (hb5.block W2.heap.size (by simp)).trans (by show (W2.heap.push _)[W2.heap.size]? = _; simp); obtain ⟨t0, t1, t2, t3, t4, tz⟩ := res_cells z5; have lz := (Array.getElem?_eq_some_iff.1 z5).1)); have c5 : w5.cell? ⟨b, 11, none⟩ = some (.int .i64 S.h.by_) := (HS.out.below d5.base).ch 0 rfl))
        all_goals
          have hBg : w.heap.size < W2.heap.size := d2.lt
          first
          | (have _q := z5
             have d6 := ((((d5.set (g := W2.heap.size) hBg 0 (.int .i64 N.k)).set (g := W2.heap.size) hBg 1 (.int .u32 N.pa)).set (g := W2.heap.size) hBg 2 (.int .u32 N.ad)).set (g := W2.heap.size) hBg 3 (.int .u32 N.vl)).set (g := W2.heap.size) hBg 4 (.int .u32 N.ca)
             have a6 := set5 z5 (.int .i64 N.k) (.int .u32 N.pa) (.int .u32 N.ad) (.int .u32 N.vl) (.int .u32 N.ca)
             have e6 := off5 (g := W2.heap.size) e5 (by omega) (.int .i64 N.k) (.int .u32 N.pa) (.int .u32 N.ad) (.int .u32 N.vl) (.int .u32 N.ca)
             generalize World.setCell (World.setCell (World.setCell (World.setCell (World.setCell w5 _ _) _ _) _ _) _ _) _ _ = W6 at *
             generalize W2.heap.size = ga at *
             clear t0 t1 t2 t3 t4 tz z5 lz)
          | (have d6 := d5.alloc (.cells #[.int .i64 N.k, .int .u32 N.pa, .int .u32 N.ad, .int .u32 N.vl, .int .u32 N.ca] 94)
             have a6 : (w5.alloc (.cells #[.int .i64 N.k, .int .u32 N.pa, .int .u32 N.ad, .int .u32 N.vl, .int .u32 N.ca] 94)).heap[w5.heap.size]? = some (.cells #[.int .i64 N.k, .int .u32 N.pa, .int .u32 N.ad, .int .u32 N.vl, .int .u32 N.ca] 94) := by show (w5.heap.push _)[w5.heap.size]? = _; simp
             have e6 := (((Below.refl w5.heap.size w5).alloc (Nat.le_refl _) (.cells #[.int .i64 N.k, .int .u32 N.pa, .int .u32 N.ad, .int .u32 N.vl, .int .u32 N.ca] 94)).block g2 (Array.getElem?_eq_some_iff.1 e5).1).trans e5
             generalize World.alloc w5 _ = W6 at *
             generalize w5.heap.size = ga at *)
          clear d5 e5 c5 hb5 d2 e2 c11' c11a c11b hN HK lg2 hbl2
          have lB := d6.lt
          have la := (Array.getElem?_eq_some_iff.1 a6).1
          have le := (Array.getElem?_eq_some_iff.1 e6).1
          obtain ⟨n0, n1, n2, n3, n4, nz⟩ := st_cells a6
          have p0 : W6.cell? ⟨g2, 0, none⟩ = some (.int .u32 pa) := by simp [World.cell?, e6]
          obtain ⟨f0, f1, f2, f3, f4, fz⟩ := res_cells d6.res
          clear a6 e6
          cases h1 : (N.k != 3)
          · cases h2 : (N.ad != pa)
            · have hq : Hid (W.askAll S.h.G.satp S.h.G.m va acc S.h.by_ (fun j => (p j).a) (fun j => (p j).v) (k + 1) = true) := (by rw [askAll_succ, HA.out, HN.out]; simp at h1 h2; simp [h1, h2] : W.askAll S.h.G.satp S.h.G.m va acc S.h.by_ (fun j => (p j).a) (fun j => (p j).v) (k + 1) = true)
              go_wp2
              go_roundw
              case rel => exact ⟨k + 1, by omega, by go_num, d6, hq.out⟩
              case measure => simp [intOf]; omega
            · have hq : X = W.noS := by
                rw [← HX.out, W.walkS, ask_no (k := k) hlt2 (by rw [HN.out]; simp at h2; simp [h2])]
                rfl
              subst hq
              go_wp2
              exact bodyPost_ret (v := .agg #[.int .i64 0, .int .u32 0, .int .u32 0, .int .u32 0, .int .u32 0]) (by simp [results, Tryz.results46, go_sem, *]) rfl ⟨rfl, fin5 d6.base (by have := d6.hB; omega) _ _ _ _ _⟩
          · have hq : X = W.noS := by
              rw [← HX.out, W.walkS, ask_no (k := k) hlt2 (by rw [HN.out]; simp at h1; simp [h1])]
              rfl
            subst hq
            go_wp2
            exact bodyPost_ret (v := .agg #[.int .i64 0, .int .u32 0, .int .u32 0, .int .u32 0, .int .u32 0]) (by simp [results, Tryz.results46, go_sem, *]) rfl ⟨rfl, fin5 d6.base (by have := d6.hB; omega) _ _ _ _ _⟩
      · obtain rfl : k = n := by omega
        go_wp2_with (fail)
        refine (wnext_any S.h.G.satp S.h.G.m va acc S.h.by_ s0 s1 v0 v1 a k cap p wr (HR.out.below d.base) X (by rw [← HX.out, W.walkS, HA.out]; rfl)).mono ?_
        rintro e w5 ⟨rfl, hb5⟩
        have d5 := d.below hb5
        have l5 := d5.lt
        obtain ⟨f0, f1, f2, f3, f4, fz⟩ := res_cells d5.res
        go_wp2
        exact bodyPost_ret (v := .agg #[.int .i64 X.k, .int .u32 X.pa, .int .u32 X.ad, .int .u32 X.vl, .int .u32 X.ca]) (by simp [results, Tryz.results46, go_sem, *]) rfl ⟨rfl, fin5 d5.base (by have := d5.hB; omega) _ _ _ _ _⟩
end Go.Proofs.YteilpehekabccabGreatDoor

/- Where an address lies by its entries. -/
namespace Go.Proofs.YteilpehekabccabGreatDoor
open Go.ChangeShapes Go.WideShapes Go.ChangeAt Go.RowKit
set_option linter.unusedVariables false
set_option linter.unusedSimpArgs false

set_option maxHeartbeats 1600000 in
theorem place_a (b : Nat) (S : W.St) (va acc : Int) (v : W.Rg va) (hG : W.FOk S.h.G) (a : Option Addr) (n cap : Nat) (hcap : n ≤ cap) (p : Nat → W.Pt) (w : World) (h : SAt b S w) (hr : Reads a n p w) : Calls Tryz.prog 32 #[.pointer (some ⟨b, 0, none⟩), .int .u32 va, .int .i64 acc, .slice a n cap] w fun x w' => x = .returned (.tuple #[.int .u32 (W.hwalk S.h va acc n (fun j => (p j).a) (fun j => (p j).v)).pa, .bool ((W.hwalk S.h va acc n (fun j => (p j).a) (fun j => (p j).v)).k == 1)]) ∧ SAt b (W.splace S va acc n (fun j => (p j).a) (fun j => (p j).v)) w' ∧ w.grownBy w' (some b) := by
  have hw := hwalk_any b S va acc v hG a n cap hcap p w h hr
  unfold W.splace
  generalize W.hwalk S.h va acc n (fun j => (p j).a) (fun j => (p j).v) = X at *
  obtain ⟨k, pa, ad, vl, ca⟩ := X
  dsimp only at *
  have hlt := h.lt
  cases h2 : (k == 2)
  · dsimp only [cond_false]
    go_enter Tryz.func32, Tryz.ntmps32
    go_wp2_with (fail)
    refine hw.mono ?_
    rintro e w1 ⟨rfl, hb⟩
    go_wp2
    go_region_with (fail)
    all_goals
      go_wp2
      exact bodyPost_ret (v := .tuple #[.int .u32 pa, .bool (k == 1)]) (by simp [results, Tryz.results32, go_sem]) rfl ⟨rfl, ((h.below hb).alloc _).drew, gtrans (gtrans (gbelow hb) (galloc _ _ _)) (gdrew _ _)⟩
  · dsimp only [cond_true]
    obtain rfl := beq_iff_eq.1 h2
    go_enter Tryz.func32, Tryz.ntmps32
    go_wp2_with (fail)
    refine hw.mono ?_
    rintro e w1 ⟨rfl, hb⟩
    have h1 := (h.below hb).alloc (.cells #[.int .i64 2, .int .u32 pa, .int .u32 ad, .int .u32 vl, .int .u32 ca] 94)
    have sp : (w1.alloc (.cells #[.int .i64 2, .int .u32 pa, .int .u32 ad, .int .u32 vl, .int .u32 ca] 94)).heap[w1.heap.size]? = some (.cells #[.int .i64 2, .int .u32 pa, .int .u32 ad, .int .u32 vl, .int .u32 ca] 94) := by show (w1.heap.push _)[w1.heap.size]? = _; simp
    have hn : w1.heap.size ≠ b := Nat.ne_of_gt (h.below hb).lt
    go_wp2_with (fail)
    refine (htrap_any b _ _ _ _ h1).mono ?_
    rintro e w2 ⟨rfl, h2, g2⟩
    have sp2 := (g2.block _ (Array.getElem?_eq_some_iff.1 sp).1 (by simpa using hn)).trans sp
    obtain ⟨m0, m1, m2, m3, m4, mz⟩ := st_cells sp2
    have hl2 := (Array.getElem?_eq_some_iff.1 sp2).1
    go_wp2
    go_region_with (fail)
    all_goals
      go_wp2
      exact bodyPost_ret (v := .tuple #[.int .u32 pa, .bool false]) (by simp [results, Tryz.results32, go_sem]) rfl ⟨rfl, h2.drew, gtrans (gtrans (gtrans (gbelow hb) (galloc _ _ _)) g2) (gdrew _ _)⟩
end Go.Proofs.YteilpehekabccabGreatDoor

/- Within a method of a step: the step in block b, an instruction in block g, an effect in the next one, and a second behind it. -/
namespace Go.Proofs.YteilpehekabccabGreatDoor
open Go.ChangeShapes Go.WideShapes Go.ChangeAt Go.RowKit
set_option linter.unusedVariables false
set_option linter.unusedSimpArgs false

structure Cy (w0 : World) (b g : Nat) (i : W.I) (e : W.Ef) (S : W.St) (w : World) : Prop where
  s : SAt b S w
  ins : w.heap[g]? = some (.cells (inCells i) 53)
  eff : w.heap[g + 1]? = some (.cells (efCells e) 35)
  gr : w0.grownBy w (some b)
  ne : b < g
  le : w0.heap.size ≤ g
theorem Cy.lt {w0 : World} {b g : Nat} {i : W.I} {e : W.Ef} {S : W.St} {w : World} (c : Cy w0 b g i e S w) : g + 1 < w.heap.size := (Array.getElem?_eq_some_iff.1 c.eff).1
theorem Cy.start {w0 : World} {b : Nat} {S : W.St} {w : World} (i : W.I) (e : W.Ef) (h : SAt b S w) (gr : w0.grownBy w (some b)) : Cy w0 b w.heap.size i e S ((w.alloc (.cells (inCells i) 53)).alloc (.cells (efCells e) 35)) :=
  ⟨(h.alloc _).alloc _, by show ((w.heap.push _).push _)[w.heap.size]? = _; rw [Array.getElem?_push, Array.getElem?_push]; simp, by show ((w.heap.push _).push _)[w.heap.size + 1]? = _; rw [Array.getElem?_push]; simp, gtrans (gtrans gr (galloc _ _ _)) (galloc _ _ _), h.lt, gr.size⟩
theorem Cy.step {w0 : World} {b g : Nat} {i : W.I} {e : W.Ef} {S S' : W.St} {w w' : World} (c : Cy w0 b g i e S w) (h : SAt b S' w') (gr : w.grownBy w' (some b)) : Cy w0 b g i e S' w' :=
  have l := c.lt
  have n := c.ne
  ⟨h, (gr.block g (by omega) (by simp; omega)).trans c.ins, (gr.block (g + 1) (by omega) (by simp; omega)).trans c.eff, gtrans c.gr gr, c.ne, c.le⟩
theorem Cy.below {w0 : World} {b g : Nat} {i : W.I} {e : W.Ef} {S : W.St} {w w' : World} (c : Cy w0 b g i e S w) (hb : Below w.heap.size w w') : Cy w0 b g i e S w' := c.step (c.s.below hb) (gbelow hb)
theorem Cy.drew {w0 : World} {b g : Nat} {i : W.I} {e : W.Ef} {S : W.St} {w : World} (c : Cy w0 b g i e S w) : Cy w0 b g i e S w.drew := c.below (Below.refl w.heap.size w).drew
theorem Cy.alloc {w0 : World} {b g : Nat} {i : W.I} {e : W.Ef} {S : W.St} {w : World} (c : Cy w0 b g i e S w) (o : Obj) : Cy w0 b g i e S (w.alloc o) := c.below ((Below.refl _ _).alloc (Nat.le_refl _) _)
theorem Cy.ci {w0 : World} {b g : Nat} {i : W.I} {e : W.Ef} {S : W.St} {w : World} (c : Cy w0 b g i e S w) : w.cell? ⟨g, 0, none⟩ = some (.int .i64 i.op) ∧ w.cell? ⟨g, 1, none⟩ = some (.int .i64 i.rd) ∧ w.cell? ⟨g, 2, none⟩ = some (.int .i64 i.rs1) ∧ w.cell? ⟨g, 3, none⟩ = some (.int .i64 i.rs2) ∧ w.cell? ⟨g, 4, none⟩ = some (.int .i64 i.csr) ∧ w.cell? ⟨g, 5, none⟩ = some (.int .u32 i.imm) ∧ w.cell? ⟨g, 6, none⟩ = some (.bool i.aq) ∧ w.cell? ⟨g, 7, none⟩ = some (.bool i.rl) := by
  have e := c.ins
  simp [World.cell?, e, inCells]
theorem ef_cells {g : Nat} {e : W.Ef} {T : TypeId} {w : World} (h : w.heap[g]? = some (.cells (efCells e) T)) : w.cell? ⟨g, 0, none⟩ = some (.int .i64 e.k) ∧ w.cell? ⟨g, 1, none⟩ = some (.int .u32 e.ad) ∧ w.cell? ⟨g, 2, none⟩ = some (.int .i64 e.sz) ∧ w.cell? ⟨g, 3, none⟩ = some (.int .u32 e.vl) ∧ w.cell? ⟨g, 4, none⟩ = some (.bool e.fi) ∧ w.cell? ⟨g, 5, none⟩ = some (.bool e.sf) ∧ w.cell? ⟨g, 6, none⟩ = some (.bool e.wt) ∧ ∀ o, w.frozen? ⟨g, o, none⟩ = false := by
  simp [World.cell?, World.frozen?, h, efCells]
theorem Cy.ce {w0 : World} {b g : Nat} {i : W.I} {e : W.Ef} {S : W.St} {w : World} (c : Cy w0 b g i e S w) : w.cell? ⟨g + 1, 0, none⟩ = some (.int .i64 e.k) ∧ w.cell? ⟨g + 1, 1, none⟩ = some (.int .u32 e.ad) ∧ w.cell? ⟨g + 1, 2, none⟩ = some (.int .i64 e.sz) ∧ w.cell? ⟨g + 1, 3, none⟩ = some (.int .u32 e.vl) ∧ w.cell? ⟨g + 1, 4, none⟩ = some (.bool e.fi) ∧ w.cell? ⟨g + 1, 5, none⟩ = some (.bool e.sf) ∧ w.cell? ⟨g + 1, 6, none⟩ = some (.bool e.wt) ∧ ∀ o, w.frozen? ⟨g + 1, o, none⟩ = false := ef_cells c.eff
/-- What is written behind the first world's end. -/
theorem gnew {a w : World} {b g : Nat} (h : a.grownBy w (some b)) (hg : a.heap.size ≤ g) (o : Nat) (v : Value) : a.grownBy (w.setCell ⟨g, o, none⟩ v) (some b) :=
  ⟨h.os, h.tape, h.output, by simpa [World.setCell] using h.size, fun k hk hne => (Below.heap_setCell _ _ _ _ (by show k ≠ g; omega)).trans (h.block k hk hne)⟩
theorem At.other {T : TT} {b g : Nat} {G : W.F} {w : World} (h : At T b G w) (hg : b < g) (o : Nat) (v : Value) : At T b G (w.setCell ⟨g, o, none⟩ v) :=
  ⟨(Below.heap_setCell _ _ _ _ (by show b ≠ g; omega)).trans h.out⟩
theorem Cy.pe {w0 : World} {b g : Nat} {i : W.I} {e e' : W.Ef} {S : W.St} {w : World} (c : Cy w0 b g i e S w) (o : Nat) {v : Value} (he : (efCells e).setIfInBounds o v = efCells e') : Cy w0 b g i e' S (w.setCell ⟨g + 1, o, none⟩ v) :=
  have n := c.ne
  have l := c.le
  ⟨c.s.other (by omega) _ _, (Below.heap_setCell _ _ _ _ (by show g ≠ g + 1; omega)).trans c.ins, by
    have e0 := c.eff
    simp only [World.setCell, Array.getElem?_modify, if_true, e0, Option.map_some]
    simp [he], gnew c.gr (by omega) _ _, c.ne, c.le⟩
theorem Cy.pes {w0 : World} {b g : Nat} {i : W.I} {a : W.Ef} {S : W.St} {w : World} (c : Cy w0 b g i a S w) (e : W.Ef) : Cy w0 b g i e S (((((((w.setCell ⟨g + 1, 0, none⟩ (.int .i64 e.k)).setCell ⟨g + 1, 1, none⟩ (.int .u32 e.ad)).setCell ⟨g + 1, 2, none⟩ (.int .i64 e.sz)).setCell ⟨g + 1, 3, none⟩ (.int .u32 e.vl)).setCell ⟨g + 1, 4, none⟩ (.bool e.fi)).setCell ⟨g + 1, 5, none⟩ (.bool e.sf)).setCell ⟨g + 1, 6, none⟩ (.bool e.wt)) := by
  have q0 := c.pe (e' := ⟨e.k, a.ad, a.sz, a.vl, a.fi, a.sf, a.wt⟩) 0 (v := .int .i64 e.k) rfl
  have q1 := q0.pe (e' := ⟨e.k, e.ad, a.sz, a.vl, a.fi, a.sf, a.wt⟩) 1 (v := .int .u32 e.ad) rfl
  have q2 := q1.pe (e' := ⟨e.k, e.ad, e.sz, a.vl, a.fi, a.sf, a.wt⟩) 2 (v := .int .i64 e.sz) rfl
  have q3 := q2.pe (e' := ⟨e.k, e.ad, e.sz, e.vl, a.fi, a.sf, a.wt⟩) 3 (v := .int .u32 e.vl) rfl
  have q4 := q3.pe (e' := ⟨e.k, e.ad, e.sz, e.vl, e.fi, a.sf, a.wt⟩) 4 (v := .bool e.fi) rfl
  have q5 := q4.pe (e' := ⟨e.k, e.ad, e.sz, e.vl, e.fi, e.sf, a.wt⟩) 5 (v := .bool e.sf) rfl
  exact q5.pe (e' := e) 6 (v := .bool e.wt) rfl
/-- An effect in a block. -/
def Re (g : Nat) (e : W.Ef) (w : World) : Prop := w.heap[g]? = some (.cells (efCells e) 35)
theorem Re.lt {g : Nat} {e : W.Ef} {w : World} (h : Re g e w) : g < w.heap.size := (Array.getElem?_eq_some_iff.1 h).1
theorem Re.step {b g : Nat} {e : W.Ef} {w w' : World} (h : Re g e w) (gr : w.grownBy w' (some b)) (hg : b < g) : Re g e w' := (gr.block g h.lt (by simp; omega)).trans h
theorem Re.below {g : Nat} {e : W.Ef} {w w' : World} (h : Re g e w) (hb : Below w.heap.size w w') : Re g e w' := (hb.block g h.lt).trans h
theorem Re.drew {g : Nat} {e : W.Ef} {w : World} (h : Re g e w) : Re g e w.drew := h.below (Below.refl w.heap.size w).drew
theorem Re.cells {g : Nat} {e : W.Ef} {w : World} (h : Re g e w) : w.cell? ⟨g, 0, none⟩ = some (.int .i64 e.k) ∧ w.cell? ⟨g, 1, none⟩ = some (.int .u32 e.ad) ∧ w.cell? ⟨g, 2, none⟩ = some (.int .i64 e.sz) ∧ w.cell? ⟨g, 3, none⟩ = some (.int .u32 e.vl) ∧ w.cell? ⟨g, 4, none⟩ = some (.bool e.fi) ∧ w.cell? ⟨g, 5, none⟩ = some (.bool e.sf) ∧ w.cell? ⟨g, 6, none⟩ = some (.bool e.wt) ∧ ∀ o, w.frozen? ⟨g, o, none⟩ = false := ef_cells h
theorem Re.set {b g : Nat} {e : W.Ef} {w : World} (h : Re g e w) (hg : b ≠ g) (o : Nat) (v : Value) : Re g e (w.setCell ⟨b, o, none⟩ v) := (Below.heap_setCell _ _ _ _ (by show g ≠ b; omega)).trans h
theorem Re.new (w : World) (e : W.Ef) : Re w.heap.size e (w.alloc (.cells (efCells e) 35)) := by show (w.heap.push _)[w.heap.size]? = _; simp
theorem Re.third (w : World) (A B : Obj) (e : W.Ef) : Re (w.heap.size + 1 + 1) e (((w.alloc A).alloc B).alloc (.cells (efCells e) 35)) := by
  show (((w.heap.push A).push B).push _)[w.heap.size + 1 + 1]? = _
  rw [Array.getElem?_push]
  simp
/-- A result of seven cells, written. -/
theorem g7 {a w : World} {b g : Nat} (h : a.grownBy w (some b)) (hg : a.heap.size ≤ g) (v0 v1 v2 v3 v4 v5 v6 : Value) : a.grownBy (((((((w.setCell ⟨g, 0, none⟩ v0).setCell ⟨g, 1, none⟩ v1).setCell ⟨g, 2, none⟩ v2).setCell ⟨g, 3, none⟩ v3).setCell ⟨g, 4, none⟩ v4).setCell ⟨g, 5, none⟩ v5).setCell ⟨g, 6, none⟩ v6) (some b) :=
  gnew (gnew (gnew (gnew (gnew (gnew (gnew h hg _ _) hg _ _) hg _ _) hg _ _) hg _ _) hg _ _) hg _ _
theorem At.o7 {T : TT} {b g : Nat} {G : W.F} {w : World} (h : At T b G w) (hg : b < g) (v0 v1 v2 v3 v4 v5 v6 : Value) : At T b G (((((((w.setCell ⟨g, 0, none⟩ v0).setCell ⟨g, 1, none⟩ v1).setCell ⟨g, 2, none⟩ v2).setCell ⟨g, 3, none⟩ v3).setCell ⟨g, 4, none⟩ v4).setCell ⟨g, 5, none⟩ v5).setCell ⟨g, 6, none⟩ v6) :=
  ((((((h.other hg _ _).other hg _ _).other hg _ _).other hg _ _).other hg _ _).other hg _ _).other hg _ _
end Go.Proofs.YteilpehekabccabGreatDoor
