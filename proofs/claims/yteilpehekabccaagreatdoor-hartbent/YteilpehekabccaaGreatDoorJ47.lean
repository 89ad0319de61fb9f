/- Texts in one: HartBentFt, HartBentFf, HartBentCt, HartBentCf, HartBentTt, HartBentTf, HartBentKt, HartBentKf, HartBentWalk. -/
import Derived.Deep.RegionWith
import Derived.Deep.RegionHeld3
import Derived.Test.YteilpehekabccaaGreatDoorJ46
/- HartBent, walked: a step, turned. -/
namespace Go.Proofs.YteilpehekabccaaGreatDoor
open Go.ChangeShapes Go.WideShapes Go.ChangeAt Go.RowKit
set_option linter.unusedVariables false
set_option linter.unusedSimpArgs false

attribute [local go_sem ↓] ldE_eq
set_option maxRecDepth 100000 in
set_option maxHeartbeats 1000000 in
theorem hb_Ft (E : Addr) (ev : W.Ev) (at' v : Int) (hwd : W.Rg ev.wd) (f0 : ev.fw.n = 0) (w0 : ev.wk.n = 0) (hok : (!((W.rrun (W.H0 0 4096) ev 0 (fun _ => (0 : Int)) (fun _ => (0 : Int)) 0 (fun _ => (0 : Int)) (fun _ => (0 : Int))).w.k == 0) && W.sameE ev (W.rrun (W.H0 0 4096) ev 0 (fun _ => (0 : Int)) (fun _ => (0 : Int)) 0 (fun _ => (0 : Int)) (fun _ => (0 : Int))).w) = true) (hT : ∀ w, Calls Tryz.prog 19 #[.int .i64 at', .int .i64 5] w fun z w' => z = .returned (.int .i64 1) ∧ w = w') (hq : W.likeB (({ ev with fw := W.Sl.nil, wk := W.Sl.nil, fpa := v } : W.Ev)) ev = true) (w : World) (hE : Tr E w) :
    Calls Tryz.prog 4 #[.agg (evCells ev), .int .i64 at', .int .u32 v] w fun e w' => e = .returned (.bool true) ∧ Below w.heap.size w w' := by
  have hF := fun w1 (k : Tr E w1) => first10_any E w1 k
  have hN := hnew_any 0 4096
  have hC := fun c w1 (k : HAt c (W.H0 0 4096) w1) => clone_any c (W.H0 0 4096) w1 k
  have hR := fun c w1 (k : HAt c (W.H0 0 4096) w1) (t : Tr E w1) => replay_e c (W.H0 0 4096) ev E (H0_ok 0 4096) hwd f0 w0 true _ rfl hok w1 k t
  have hB : ∀ o : Obj, Below w.heap.size w (w.alloc o) := fun o => (Below.refl _ _).alloc (Nat.le_refl _) _
  have c6 : (evCells ev)[6]? = some (.slice ev.fw.a 0 ev.fw.c) := by rw [← f0]; rfl
  have c7 : (evCells ev)[7]? = some (.slice ev.wk.a 0 ev.wk.c) := by rw [← w0]; rfl
  have hvs : ∀ c d g n w0 w, Hv E c d g (W.H0 0 4096) (W.H0 0 4096) ev n w0 w → (ldE ⟨g, 0, none⟩).run Tryz.prog w = .ok (.agg (evCells ev)) w := fun c d g n w0 w h => h.ld
  have hv2 : ∀ c d g n (L : W.Ht) w0 w, Hv E c d g L (W.H0 0 4096) ev n w0 w → (ldE ⟨g, 0, none⟩).run Tryz.prog w = .ok (.agg (evCells ev)) w := fun c d g n L w0 w h => h.ld
  have hG : ∀ x y : Option Addr, (!((W.rrun (W.H0 0 4096) ({ ev with fw := ⟨x, 0, 0⟩, wk := ⟨y, 0, 0⟩, fpa := v } : W.Ev) 0 (fun _ => (0 : Int)) (fun _ => (0 : Int)) 0 (fun _ => (0 : Int)) (fun _ => (0 : Int))).w.k == 0) && W.sameE ({ ev with fw := ⟨x, 0, 0⟩, wk := ⟨y, 0, 0⟩, fpa := v } : W.Ev) (W.rrun (W.H0 0 4096) ({ ev with fw := ⟨x, 0, 0⟩, wk := ⟨y, 0, 0⟩, fpa := v } : W.Ev) 0 (fun _ => (0 : Int)) (fun _ => (0 : Int)) 0 (fun _ => (0 : Int)) (fun _ => (0 : Int))).w) = true := fun x y => by
    rw [← hq]
    exact W.bent_law (W.H0 0 4096) (by decide +kernel) ev ({ ev with fw := ⟨x, 0, 0⟩, wk := ⟨y, 0, 0⟩, fpa := v } : W.Ev) f0 w0 rfl rfl rfl rfl rfl 0 (fun _ => (0 : Int)) (fun _ => (0 : Int)) 0 (fun _ => (0 : Int)) (fun _ => (0 : Int)) hok
  have hRG := fun (x y : Option Addr) d w1 (k : HAt d (W.H0 0 4096) w1) (t : Tr E w1) => replay_e d (W.H0 0 4096) ({ ev with fw := ⟨x, 0, 0⟩, wk := ⟨y, 0, 0⟩, fpa := v } : W.Ev) E (H0_ok 0 4096) hwd rfl rfl true _ rfl (hG x y) w1 k t
  simp only [cond_true, cond_false, efCells, W.Ef.no] at hRG
  have hEv := fun w => event_0 ev f0 w0 w
  have hSm : ∀ (x y : Option Addr) w, Calls Tryz.prog 22 #[.agg (evCells ({ ev with fw := ⟨x, 0, 0⟩, wk := ⟨y, 0, 0⟩, fpa := v } : W.Ev)), .agg (evCells ev)] w fun z w' => z = .returned (.bool true) ∧ Below w.heap.size w w' := fun x y w => by
    have h := samee_0 ({ ev with fw := ⟨x, 0, 0⟩, wk := ⟨y, 0, 0⟩, fpa := v } : W.Ev) ev rfl rfl f0 w0 w
    have e : ((ev.fat == ev.fat) && ((ev.at_ == ev.at_) && W.likeE ({ ev with fw := ⟨x, 0, 0⟩, wk := ⟨y, 0, 0⟩, fpa := v } : W.Ev) ev)) = true := by
      rw [like_eq]
      have : W.likeB ({ ev with fw := ⟨x, 0, 0⟩, wk := ⟨y, 0, 0⟩, fpa := v } : W.Ev) ev = true := hq
      rw [this]
      simp
    exact h.mono fun z w' ⟨h1, h2⟩ => ⟨h1.trans (by rw [← e]), h2⟩
  have hlg : ∀ (x y : Option Addr) g w, w.heap[g]? = some (.cells (evCells ({ ev with fw := ⟨x, 0, 0⟩, wk := ⟨y, 0, 0⟩, fpa := v } : W.Ev)) 27) → (ldE ⟨g, 0, none⟩).run Tryz.prog w = .ok (.agg (evCells ({ ev with fw := ⟨x, 0, 0⟩, wk := ⟨y, 0, 0⟩, fpa := v } : W.Ev))) w := fun x y g w h => ev_load h
  have hln : ∀ (W9 : World) (x y : Option Addr), (ldE ⟨W9.heap.size, 0, none⟩).run Tryz.prog (W9.alloc (.cells (evCells ({ ev with fw := ⟨x, 0, 0⟩, wk := ⟨y, 0, 0⟩, fpa := v } : W.Ev)) 27)) = .ok (.agg (evCells ({ ev with fw := ⟨x, 0, 0⟩, wk := ⟨y, 0, 0⟩, fpa := v } : W.Ev))) (W9.alloc (.cells (evCells ({ ev with fw := ⟨x, 0, 0⟩, wk := ⟨y, 0, 0⟩, fpa := v } : W.Ev)) 27)) := fun W9 x y => ev_load (heap_alloc_last W9 _)
  have hv3 : ∀ c d g n (L K : W.Ht) w0 w, Hv E c d g L K ev n w0 w → (ldE ⟨g, 0, none⟩).run Tryz.prog w = .ok (.agg (evCells ev)) w := fun c d g n L K w0 w h => h.ld
  clear hG hq
  simp only [cond_true, cond_false, efCells, W.Ef.no] at hR
  have hmk : ∀ c d g n w0 w, HAt c (W.H0 0 4096) w → HAt d (W.H0 0 4096) w → Tr E w → Below n w0 w → n ≤ w.heap.size → n ≤ c → n ≤ d → c ≠ d → g < n → w.heap[g]? = some (.cells (evCells ev) 27) → Hv E c d g (W.H0 0 4096) (W.H0 0 4096) ev n w0 w := fun c d g n w0 w a1 a2 a3 a4 a5 a6 a7 a8 a9 a10 => ⟨a1, a2, a3, a4, a5, a6, a7, a8, a9, a10⟩
  generalize hRR : W.rrun (W.H0 0 4096) ev 0 (fun _ => (0 : Int)) (fun _ => (0 : Int)) 0 (fun _ => (0 : Int)) (fun _ => (0 : Int)) = rr at *
  generalize evCells ev = ES at *
  simp only [evCells] at hRG hEv hSm hlg hln
  generalize W.H0 0 4096 = h0 at *
  have HH : Hid (_ ∧ _ ∧ _ ∧ _ ∧ _ ∧ _ ∧ _ ∧ _ ∧ _ ∧ _ ∧ _ ∧ _ ∧ _ ∧ _ ∧ _) := ⟨hF, hN, hC, hR, hvs, hv2, hmk, c6, c7, hT, hRG, hEv, hSm, hv3, hlg⟩
  clear hF hN hC hR hvs hv2 hmk c6 c7 hok hT hRG hEv hSm hv3 hlg
  go_enter Tryz.func4, Tryz.ntmps4
  go_wp2_with (fail)
  refine (HH.out.1 _ (hE.below (hB _))).mono ?_
  rintro e w1 ⟨rfl, b1⟩
  have B1 := (hB (.cells ES 27)).trans (b1.mono (by simp))
  have gg : w1.heap[w.heap.size]? = some (.cells ES 27) := (b1.block w.heap.size (by simp)).trans (heap_alloc_last w _)
  have gl : w.heap.size < w1.heap.size := (Array.getElem?_eq_some_iff.1 gg).1
  have e6 : w1.cell? ⟨w.heap.size, 6, none⟩ = some (.slice ev.fw.a 0 ev.fw.c) := by simp only [World.cell?, gg]; exact HH.out.2.2.2.2.2.2.2.1
  have e7 : w1.cell? ⟨w.heap.size, 7, none⟩ = some (.slice ev.wk.a 0 ev.wk.c) := by simp only [World.cell?, gg]; exact HH.out.2.2.2.2.2.2.2.2.1
  have T1 := hE.below B1
  go_wp2_with (fail)
  refine (HH.out.2.1 _).mono ?_
  rintro e w2 ⟨c, hc, rfl, k2, b2⟩
  have l2 := k2.lt
  go_wp2_with (fail)
  refine (HH.out.2.2.1 c _ k2).mono ?_
  rintro e w3 ⟨rfl, kd, b3⟩
  have S3 := HH.out.2.2.2.2.2.2.1 c w2.heap.size w.heap.size w1.heap.size w1 w3 (k2.below b3) kd ((T1.below b2).below b3) (b2.trans (b3.mono b2.size)) (Nat.le_trans b2.size b3.size) hc b2.size (by omega) gl ((b3.block _ (Nat.lt_of_lt_of_le gl b2.size)).trans ((b2.block _ gl).trans gg))
  clear k2 kd b3 e6 e7
  have ld3 := HH.out.2.2.2.2.1 _ _ _ _ _ _ S3
  have g3 : w.heap.size < w3.heap.size := Nat.lt_of_lt_of_le gl S3.s
  go_wp2_with (fail)
  refine (HH.out.2.2.2.1 c _ S3.k S3.t).mono ?_
  rintro e w4 ⟨rfl, k4, g4⟩
  have S4 := S3.stepc k4 g4
  clear k4 g4 ld3 S3
  have ld4 := fun o => HH.out.2.2.2.2.2.1 _ _ _ _ _ _ _ (S4.alloc o)
  have g4 : w.heap.size < w4.heap.size := Nat.lt_of_lt_of_le gl S4.s
  go_wp2_with (fail)
  refine (HH.out.2.2.2.2.2.2.2.2.2.2.2.1 _).mono ?_
  rintro e w5 ⟨⟨x, y, rfl⟩, b5⟩
  have S5 := (S4.alloc _).below b5
  clear S4 ld4 b5
  have ld5 := fun o => HH.out.2.2.2.2.2.1 _ _ _ _ _ _ _ (S5.alloc o)
  have g5 : w.heap.size < w5.heap.size := Nat.lt_of_lt_of_le gl S5.s
  go_wp2_with (fail)
  refine (HH.out.2.2.2.2.2.2.2.2.2.1 _).mono ?_
  rintro e w' ⟨rfl, rfl⟩
  have hn5 := hln w5 x y
  go_wp2_with (fail)
  refine (HH.out.2.2.2.2.2.2.2.2.2.2.1 x y _ _ (S5.alloc _).kd (S5.alloc _).t).mono ?_
  rintro e w6 ⟨rfl, k6, g6⟩
  have S6 := (S5.alloc _).stepd k6 g6
  have hg6 : w6.heap[w5.heap.size]? = some (.cells #[.int .i64 ev.k, .int .u32 ev.pc, .int .u32 ev.wd, .int .u32 v, .int .u32 ev.pa, .int .u32 ev.ld, .slice x 0 0, .slice y 0 0, .int .u32 ev.ca, .int .u32 ev.tv, .bool ev.dn, .int .i64 ev.fat, .int .i64 ev.at_] 27) := (g6.block w5.heap.size (by simp) (by have := S5.kd.lt; simp; omega)).trans (heap_alloc_last w5 _)
  have hl6 : w5.heap.size < w6.heap.size := (Array.getElem?_eq_some_iff.1 hg6).1
  have lg6 := fun o => HH.out.2.2.2.2.2.2.2.2.2.2.2.2.2.2 x y w5.heap.size (w6.alloc o).drew (((Below.refl _ _).alloc (Nat.le_refl _) o).block w5.heap.size hl6 |>.trans hg6)
  have ld6 := fun o => HH.out.2.2.2.2.2.2.2.2.2.2.2.2.2.1 _ _ _ _ _ _ _ _ ((S6.alloc o).below (Below.refl _ _).drew)
  clear k6 g6 hn5 ld5 hln
  go_wp2_with (fail)
  go_region_held3 (fun w' => (ldE ⟨w5.heap.size, 0, none⟩).run Tryz.prog w' = .ok (.agg #[.int .i64 ev.k, .int .u32 ev.pc, .int .u32 ev.wd, .int .u32 v, .int .u32 ev.pa, .int .u32 ev.ld, .slice x 0 0, .slice y 0 0, .int .u32 ev.ca, .int .u32 ev.tv, .bool ev.dn, .int .i64 ev.fat, .int .i64 ev.at_]) w' ∧ (ldE ⟨w.heap.size, 0, none⟩).run Tryz.prog w' = .ok (.agg ES) w')
    (first
      | (refine ⟨?_, ?_⟩; exact lg6 _; exact ld6 _)
      | exact ⟨HH.out.2.2.2.2.2.2.2.2.2.2.2.2.2.2 x y w5.heap.size w7 ((b7.block w5.heap.size (by simp; omega)).trans (((Below.refl _ _).alloc (Nat.le_refl _) _).block w5.heap.size hl6 |>.trans hg6)), HH.out.2.2.2.2.2.2.2.2.2.2.2.2.2.1 _ _ _ _ _ _ _ _ (((S6.alloc _).below (Below.refl _ _).drew).below b7)⟩)
    ((go_at_call 22; refine (HH.out.2.2.2.2.2.2.2.2.2.2.2.2.1 x y _).mono ?_; rintro e w7 ⟨rfl, b7⟩))
  all_goals
    go_wp2
    go_ret
    exact ⟨rfl, B1.trans (((((S6.alloc _).below (Below.refl _ _).drew).below b7).b).mono B1.size)⟩
end Go.Proofs.YteilpehekabccaaGreatDoor

/- HartBent, walked: a step, turned. -/
namespace Go.Proofs.YteilpehekabccaaGreatDoor
open Go.ChangeShapes Go.WideShapes Go.ChangeAt Go.RowKit
set_option linter.unusedVariables false
set_option linter.unusedSimpArgs false

attribute [local go_sem ↓] ldE_eq
set_option maxRecDepth 100000 in
set_option maxHeartbeats 1000000 in
theorem hb_Ff (E : Addr) (ev : W.Ev) (at' v : Int) (hwd : W.Rg ev.wd) (f0 : ev.fw.n = 0) (w0 : ev.wk.n = 0) (hok : (!((W.rrun (W.H0 0 4096) ev 0 (fun _ => (0 : Int)) (fun _ => (0 : Int)) 0 (fun _ => (0 : Int)) (fun _ => (0 : Int))).w.k == 0) && W.sameE ev (W.rrun (W.H0 0 4096) ev 0 (fun _ => (0 : Int)) (fun _ => (0 : Int)) 0 (fun _ => (0 : Int)) (fun _ => (0 : Int))).w) = true) (hT : ∀ w, Calls Tryz.prog 19 #[.int .i64 at', .int .i64 5] w fun z w' => z = .returned (.int .i64 1) ∧ w = w') (hq : W.likeB (({ ev with fw := W.Sl.nil, wk := W.Sl.nil, fpa := v } : W.Ev)) ev = false) (w : World) (hE : Tr E w) :
    Calls Tryz.prog 4 #[.agg (evCells ev), .int .i64 at', .int .u32 v] w fun e w' => e = .returned (.bool true) ∧ Below w.heap.size w w' := by
  have hF := fun w1 (k : Tr E w1) => first10_any E w1 k
  have hN := hnew_any 0 4096
  have hC := fun c w1 (k : HAt c (W.H0 0 4096) w1) => clone_any c (W.H0 0 4096) w1 k
  have hR := fun c w1 (k : HAt c (W.H0 0 4096) w1) (t : Tr E w1) => replay_e c (W.H0 0 4096) ev E (H0_ok 0 4096) hwd f0 w0 true _ rfl hok w1 k t
  have hB : ∀ o : Obj, Below w.heap.size w (w.alloc o) := fun o => (Below.refl _ _).alloc (Nat.le_refl _) _
  have c6 : (evCells ev)[6]? = some (.slice ev.fw.a 0 ev.fw.c) := by rw [← f0]; rfl
  have c7 : (evCells ev)[7]? = some (.slice ev.wk.a 0 ev.wk.c) := by rw [← w0]; rfl
  have hvs : ∀ c d g n w0 w, Hv E c d g (W.H0 0 4096) (W.H0 0 4096) ev n w0 w → (ldE ⟨g, 0, none⟩).run Tryz.prog w = .ok (.agg (evCells ev)) w := fun c d g n w0 w h => h.ld
  have hv2 : ∀ c d g n (L : W.Ht) w0 w, Hv E c d g L (W.H0 0 4096) ev n w0 w → (ldE ⟨g, 0, none⟩).run Tryz.prog w = .ok (.agg (evCells ev)) w := fun c d g n L w0 w h => h.ld
  have hG : ∀ x y : Option Addr, (!((W.rrun (W.H0 0 4096) ({ ev with fw := ⟨x, 0, 0⟩, wk := ⟨y, 0, 0⟩, fpa := v } : W.Ev) 0 (fun _ => (0 : Int)) (fun _ => (0 : Int)) 0 (fun _ => (0 : Int)) (fun _ => (0 : Int))).w.k == 0) && W.sameE ({ ev with fw := ⟨x, 0, 0⟩, wk := ⟨y, 0, 0⟩, fpa := v } : W.Ev) (W.rrun (W.H0 0 4096) ({ ev with fw := ⟨x, 0, 0⟩, wk := ⟨y, 0, 0⟩, fpa := v } : W.Ev) 0 (fun _ => (0 : Int)) (fun _ => (0 : Int)) 0 (fun _ => (0 : Int)) (fun _ => (0 : Int))).w) = false := fun x y => by
    rw [← hq]
    exact W.bent_law (W.H0 0 4096) (by decide +kernel) ev ({ ev with fw := ⟨x, 0, 0⟩, wk := ⟨y, 0, 0⟩, fpa := v } : W.Ev) f0 w0 rfl rfl rfl rfl rfl 0 (fun _ => (0 : Int)) (fun _ => (0 : Int)) 0 (fun _ => (0 : Int)) (fun _ => (0 : Int)) hok
  have hRG := fun (x y : Option Addr) d w1 (k : HAt d (W.H0 0 4096) w1) (t : Tr E w1) => replay_e d (W.H0 0 4096) ({ ev with fw := ⟨x, 0, 0⟩, wk := ⟨y, 0, 0⟩, fpa := v } : W.Ev) E (H0_ok 0 4096) hwd rfl rfl false _ rfl (hG x y) w1 k t
  simp only [cond_true, cond_false, efCells, W.Ef.no] at hRG
  have hEv := fun w => event_0 ev f0 w0 w
  have hSm : ∀ (x y : Option Addr) w, Calls Tryz.prog 22 #[.agg (evCells ({ ev with fw := ⟨x, 0, 0⟩, wk := ⟨y, 0, 0⟩, fpa := v } : W.Ev)), .agg (evCells ev)] w fun z w' => z = .returned (.bool false) ∧ Below w.heap.size w w' := fun x y w => by
    have h := samee_0 ({ ev with fw := ⟨x, 0, 0⟩, wk := ⟨y, 0, 0⟩, fpa := v } : W.Ev) ev rfl rfl f0 w0 w
    have e : ((ev.fat == ev.fat) && ((ev.at_ == ev.at_) && W.likeE ({ ev with fw := ⟨x, 0, 0⟩, wk := ⟨y, 0, 0⟩, fpa := v } : W.Ev) ev)) = false := by
      rw [like_eq]
      have : W.likeB ({ ev with fw := ⟨x, 0, 0⟩, wk := ⟨y, 0, 0⟩, fpa := v } : W.Ev) ev = false := hq
      rw [this]
      simp
    exact h.mono fun z w' ⟨h1, h2⟩ => ⟨h1.trans (by rw [← e]), h2⟩
  have hlg : ∀ (x y : Option Addr) g w, w.heap[g]? = some (.cells (evCells ({ ev with fw := ⟨x, 0, 0⟩, wk := ⟨y, 0, 0⟩, fpa := v } : W.Ev)) 27) → (ldE ⟨g, 0, none⟩).run Tryz.prog w = .ok (.agg (evCells ({ ev with fw := ⟨x, 0, 0⟩, wk := ⟨y, 0, 0⟩, fpa := v } : W.Ev))) w := fun x y g w h => ev_load h
  have hln : ∀ (W9 : World) (x y : Option Addr), (ldE ⟨W9.heap.size, 0, none⟩).run Tryz.prog (W9.alloc (.cells (evCells ({ ev with fw := ⟨x, 0, 0⟩, wk := ⟨y, 0, 0⟩, fpa := v } : W.Ev)) 27)) = .ok (.agg (evCells ({ ev with fw := ⟨x, 0, 0⟩, wk := ⟨y, 0, 0⟩, fpa := v } : W.Ev))) (W9.alloc (.cells (evCells ({ ev with fw := ⟨x, 0, 0⟩, wk := ⟨y, 0, 0⟩, fpa := v } : W.Ev)) 27)) := fun W9 x y => ev_load (heap_alloc_last W9 _)
  have hv3 : ∀ c d g n (L K : W.Ht) w0 w, Hv E c d g L K ev n w0 w → (ldE ⟨g, 0, none⟩).run Tryz.prog w = .ok (.agg (evCells ev)) w := fun c d g n L K w0 w h => h.ld
  clear hG hq
  simp only [cond_true, cond_false, efCells, W.Ef.no] at hR
  have hmk : ∀ c d g n w0 w, HAt c (W.H0 0 4096) w → HAt d (W.H0 0 4096) w → Tr E w → Below n w0 w → n ≤ w.heap.size → n ≤ c → n ≤ d → c ≠ d → g < n → w.heap[g]? = some (.cells (evCells ev) 27) → Hv E c d g (W.H0 0 4096) (W.H0 0 4096) ev n w0 w := fun c d g n w0 w a1 a2 a3 a4 a5 a6 a7 a8 a9 a10 => ⟨a1, a2, a3, a4, a5, a6, a7, a8, a9, a10⟩
  generalize hRR : W.rrun (W.H0 0 4096) ev 0 (fun _ => (0 : Int)) (fun _ => (0 : Int)) 0 (fun _ => (0 : Int)) (fun _ => (0 : Int)) = rr at *
  generalize evCells ev = ES at *
  simp only [evCells] at hRG hEv hSm hlg hln
  generalize W.H0 0 4096 = h0 at *
  have HH : Hid (_ ∧ _ ∧ _ ∧ _ ∧ _ ∧ _ ∧ _ ∧ _ ∧ _ ∧ _ ∧ _ ∧ _ ∧ _ ∧ _ ∧ _) := ⟨hF, hN, hC, hR, hvs, hv2, hmk, c6, c7, hT, hRG, hEv, hSm, hv3, hlg⟩
  clear hF hN hC hR hvs hv2 hmk c6 c7 hok hT hRG hEv hSm hv3 hlg
  go_enter Tryz.func4, Tryz.ntmps4
  go_wp2_with (fail)
  refine (HH.out.1 _ (hE.below (hB _))).mono ?_
  rintro e w1 ⟨rfl, b1⟩
  have B1 := (hB (.cells ES 27)).trans (b1.mono (by simp))
  have gg : w1.heap[w.heap.size]? = some (.cells ES 27) := (b1.block w.heap.size (by simp)).trans (heap_alloc_last w _)
  have gl : w.heap.size < w1.heap.size := (Array.getElem?_eq_some_iff.1 gg).1
  have e6 : w1.cell? ⟨w.heap.size, 6, none⟩ = some (.slice ev.fw.a 0 ev.fw.c) := by simp only [World.cell?, gg]; exact HH.out.2.2.2.2.2.2.2.1
  have e7 : w1.cell? ⟨w.heap.size, 7, none⟩ = some (.slice ev.wk.a 0 ev.wk.c) := by simp only [World.cell?, gg]; exact HH.out.2.2.2.2.2.2.2.2.1
  have T1 := hE.below B1
  go_wp2_with (fail)
  refine (HH.out.2.1 _).mono ?_
  rintro e w2 ⟨c, hc, rfl, k2, b2⟩
  have l2 := k2.lt
  go_wp2_with (fail)
  refine (HH.out.2.2.1 c _ k2).mono ?_
  rintro e w3 ⟨rfl, kd, b3⟩
  have S3 := HH.out.2.2.2.2.2.2.1 c w2.heap.size w.heap.size w1.heap.size w1 w3 (k2.below b3) kd ((T1.below b2).below b3) (b2.trans (b3.mono b2.size)) (Nat.le_trans b2.size b3.size) hc b2.size (by omega) gl ((b3.block _ (Nat.lt_of_lt_of_le gl b2.size)).trans ((b2.block _ gl).trans gg))
  clear k2 kd b3 e6 e7
  have ld3 := HH.out.2.2.2.2.1 _ _ _ _ _ _ S3
  have g3 : w.heap.size < w3.heap.size := Nat.lt_of_lt_of_le gl S3.s
  go_wp2_with (fail)
  refine (HH.out.2.2.2.1 c _ S3.k S3.t).mono ?_
  rintro e w4 ⟨rfl, k4, g4⟩
  have S4 := S3.stepc k4 g4
  clear k4 g4 ld3 S3
  have ld4 := fun o => HH.out.2.2.2.2.2.1 _ _ _ _ _ _ _ (S4.alloc o)
  have g4 : w.heap.size < w4.heap.size := Nat.lt_of_lt_of_le gl S4.s
  go_wp2_with (fail)
  refine (HH.out.2.2.2.2.2.2.2.2.2.2.2.1 _).mono ?_
  rintro e w5 ⟨⟨x, y, rfl⟩, b5⟩
  have S5 := (S4.alloc _).below b5
  clear S4 ld4 b5
  have ld5 := fun o => HH.out.2.2.2.2.2.1 _ _ _ _ _ _ _ (S5.alloc o)
  have g5 : w.heap.size < w5.heap.size := Nat.lt_of_lt_of_le gl S5.s
  go_wp2_with (fail)
  refine (HH.out.2.2.2.2.2.2.2.2.2.1 _).mono ?_
  rintro e w' ⟨rfl, rfl⟩
  have hn5 := hln w5 x y
  go_wp2_with (fail)
  refine (HH.out.2.2.2.2.2.2.2.2.2.2.1 x y _ _ (S5.alloc _).kd (S5.alloc _).t).mono ?_
  rintro e w6 ⟨rfl, k6, g6⟩
  have S6 := (S5.alloc _).stepd k6 g6
  have hg6 : w6.heap[w5.heap.size]? = some (.cells #[.int .i64 ev.k, .int .u32 ev.pc, .int .u32 ev.wd, .int .u32 v, .int .u32 ev.pa, .int .u32 ev.ld, .slice x 0 0, .slice y 0 0, .int .u32 ev.ca, .int .u32 ev.tv, .bool ev.dn, .int .i64 ev.fat, .int .i64 ev.at_] 27) := (g6.block w5.heap.size (by simp) (by have := S5.kd.lt; simp; omega)).trans (heap_alloc_last w5 _)
  have hl6 : w5.heap.size < w6.heap.size := (Array.getElem?_eq_some_iff.1 hg6).1
  have lg6 := fun o => HH.out.2.2.2.2.2.2.2.2.2.2.2.2.2.2 x y w5.heap.size (w6.alloc o).drew (((Below.refl _ _).alloc (Nat.le_refl _) o).block w5.heap.size hl6 |>.trans hg6)
  have ld6 := fun o => HH.out.2.2.2.2.2.2.2.2.2.2.2.2.2.1 _ _ _ _ _ _ _ _ ((S6.alloc o).below (Below.refl _ _).drew)
  clear k6 g6 hn5 ld5 hln
  go_wp2_with (fail)
  go_region_held3 (fun w' => (ldE ⟨w5.heap.size, 0, none⟩).run Tryz.prog w' = .ok (.agg #[.int .i64 ev.k, .int .u32 ev.pc, .int .u32 ev.wd, .int .u32 v, .int .u32 ev.pa, .int .u32 ev.ld, .slice x 0 0, .slice y 0 0, .int .u32 ev.ca, .int .u32 ev.tv, .bool ev.dn, .int .i64 ev.fat, .int .i64 ev.at_]) w' ∧ (ldE ⟨w.heap.size, 0, none⟩).run Tryz.prog w' = .ok (.agg ES) w')
    (first
      | (refine ⟨?_, ?_⟩; exact lg6 _; exact ld6 _)
      | exact ⟨HH.out.2.2.2.2.2.2.2.2.2.2.2.2.2.2 x y w5.heap.size w7 ((b7.block w5.heap.size (by simp; omega)).trans (((Below.refl _ _).alloc (Nat.le_refl _) _).block w5.heap.size hl6 |>.trans hg6)), HH.out.2.2.2.2.2.2.2.2.2.2.2.2.2.1 _ _ _ _ _ _ _ _ (((S6.alloc _).below (Below.refl _ _).drew).below b7)⟩)
    ((go_at_call 22; refine (HH.out.2.2.2.2.2.2.2.2.2.2.2.2.1 x y _).mono ?_; rintro e w7 ⟨rfl, b7⟩))
  all_goals
    go_wp2
    go_ret
    exact ⟨rfl, B1.trans (((((S6.alloc _).below (Below.refl _ _).drew).below b7).b).mono B1.size)⟩
end Go.Proofs.YteilpehekabccaaGreatDoor

/- HartBent, walked: a step, turned. -/
namespace Go.Proofs.YteilpehekabccaaGreatDoor
open Go.ChangeShapes Go.WideShapes Go.ChangeAt Go.RowKit
set_option linter.unusedVariables false
set_option linter.unusedSimpArgs false

attribute [local go_sem ↓] ldE_eq
set_option maxRecDepth 100000 in
set_option maxHeartbeats 1000000 in
theorem hb_Ct (E : Addr) (ev : W.Ev) (at' v : Int) (hwd : W.Rg ev.wd) (f0 : ev.fw.n = 0) (w0 : ev.wk.n = 0) (hok : (!((W.rrun (W.H0 0 4096) ev 0 (fun _ => (0 : Int)) (fun _ => (0 : Int)) 0 (fun _ => (0 : Int)) (fun _ => (0 : Int))).w.k == 0) && W.sameE ev (W.rrun (W.H0 0 4096) ev 0 (fun _ => (0 : Int)) (fun _ => (0 : Int)) 0 (fun _ => (0 : Int)) (fun _ => (0 : Int))).w) = true) (hT : ∀ w, Calls Tryz.prog 19 #[.int .i64 at', .int .i64 5] w fun z w' => z = .returned (.int .i64 2) ∧ w = w') (hq : W.likeB (({ ev with fw := W.Sl.nil, wk := W.Sl.nil, ca := v } : W.Ev)) ev = true) (w : World) (hE : Tr E w) :
    Calls Tryz.prog 4 #[.agg (evCells ev), .int .i64 at', .int .u32 v] w fun e w' => e = .returned (.bool true) ∧ Below w.heap.size w w' := by
  have hF := fun w1 (k : Tr E w1) => first10_any E w1 k
  have hN := hnew_any 0 4096
  have hC := fun c w1 (k : HAt c (W.H0 0 4096) w1) => clone_any c (W.H0 0 4096) w1 k
  have hR := fun c w1 (k : HAt c (W.H0 0 4096) w1) (t : Tr E w1) => replay_e c (W.H0 0 4096) ev E (H0_ok 0 4096) hwd f0 w0 true _ rfl hok w1 k t
  have hB : ∀ o : Obj, Below w.heap.size w (w.alloc o) := fun o => (Below.refl _ _).alloc (Nat.le_refl _) _
  have c6 : (evCells ev)[6]? = some (.slice ev.fw.a 0 ev.fw.c) := by rw [← f0]; rfl
  have c7 : (evCells ev)[7]? = some (.slice ev.wk.a 0 ev.wk.c) := by rw [← w0]; rfl
  have hvs : ∀ c d g n w0 w, Hv E c d g (W.H0 0 4096) (W.H0 0 4096) ev n w0 w → (ldE ⟨g, 0, none⟩).run Tryz.prog w = .ok (.agg (evCells ev)) w := fun c d g n w0 w h => h.ld
  have hv2 : ∀ c d g n (L : W.Ht) w0 w, Hv E c d g L (W.H0 0 4096) ev n w0 w → (ldE ⟨g, 0, none⟩).run Tryz.prog w = .ok (.agg (evCells ev)) w := fun c d g n L w0 w h => h.ld
  have hG : ∀ x y : Option Addr, (!((W.rrun (W.H0 0 4096) ({ ev with fw := ⟨x, 0, 0⟩, wk := ⟨y, 0, 0⟩, ca := v } : W.Ev) 0 (fun _ => (0 : Int)) (fun _ => (0 : Int)) 0 (fun _ => (0 : Int)) (fun _ => (0 : Int))).w.k == 0) && W.sameE ({ ev with fw := ⟨x, 0, 0⟩, wk := ⟨y, 0, 0⟩, ca := v } : W.Ev) (W.rrun (W.H0 0 4096) ({ ev with fw := ⟨x, 0, 0⟩, wk := ⟨y, 0, 0⟩, ca := v } : W.Ev) 0 (fun _ => (0 : Int)) (fun _ => (0 : Int)) 0 (fun _ => (0 : Int)) (fun _ => (0 : Int))).w) = true := fun x y => by
    rw [← hq]
    exact W.bent_law (W.H0 0 4096) (by decide +kernel) ev ({ ev with fw := ⟨x, 0, 0⟩, wk := ⟨y, 0, 0⟩, ca := v } : W.Ev) f0 w0 rfl rfl rfl rfl rfl 0 (fun _ => (0 : Int)) (fun _ => (0 : Int)) 0 (fun _ => (0 : Int)) (fun _ => (0 : Int)) hok
  have hRG := fun (x y : Option Addr) d w1 (k : HAt d (W.H0 0 4096) w1) (t : Tr E w1) => replay_e d (W.H0 0 4096) ({ ev with fw := ⟨x, 0, 0⟩, wk := ⟨y, 0, 0⟩, ca := v } : W.Ev) E (H0_ok 0 4096) hwd rfl rfl true _ rfl (hG x y) w1 k t
  simp only [cond_true, cond_false, efCells, W.Ef.no] at hRG
  have hEv := fun w => event_0 ev f0 w0 w
  have hSm : ∀ (x y : Option Addr) w, Calls Tryz.prog 22 #[.agg (evCells ({ ev with fw := ⟨x, 0, 0⟩, wk := ⟨y, 0, 0⟩, ca := v } : W.Ev)), .agg (evCells ev)] w fun z w' => z = .returned (.bool true) ∧ Below w.heap.size w w' := fun x y w => by
    have h := samee_0 ({ ev with fw := ⟨x, 0, 0⟩, wk := ⟨y, 0, 0⟩, ca := v } : W.Ev) ev rfl rfl f0 w0 w
    have e : ((ev.fat == ev.fat) && ((ev.at_ == ev.at_) && W.likeE ({ ev with fw := ⟨x, 0, 0⟩, wk := ⟨y, 0, 0⟩, ca := v } : W.Ev) ev)) = true := by
      rw [like_eq]
      have : W.likeB ({ ev with fw := ⟨x, 0, 0⟩, wk := ⟨y, 0, 0⟩, ca := v } : W.Ev) ev = true := hq
      rw [this]
      simp
    exact h.mono fun z w' ⟨h1, h2⟩ => ⟨h1.trans (by rw [← e]), h2⟩
  have hlg : ∀ (x y : Option Addr) g w, w.heap[g]? = some (.cells (evCells ({ ev with fw := ⟨x, 0, 0⟩, wk := ⟨y, 0, 0⟩, ca := v } : W.Ev)) 27) → (ldE ⟨g, 0, none⟩).run Tryz.prog w = .ok (.agg (evCells ({ ev with fw := ⟨x, 0, 0⟩, wk := ⟨y, 0, 0⟩, ca := v } : W.Ev))) w := fun x y g w h => ev_load h
  have hln : ∀ (W9 : World) (x y : Option Addr), (ldE ⟨W9.heap.size, 0, none⟩).run Tryz.prog (W9.alloc (.cells (evCells ({ ev with fw := ⟨x, 0, 0⟩, wk := ⟨y, 0, 0⟩, ca := v } : W.Ev)) 27)) = .ok (.agg (evCells ({ ev with fw := ⟨x, 0, 0⟩, wk := ⟨y, 0, 0⟩, ca := v } : W.Ev))) (W9.alloc (.cells (evCells ({ ev with fw := ⟨x, 0, 0⟩, wk := ⟨y, 0, 0⟩, ca := v } : W.Ev)) 27)) := fun W9 x y => ev_load (heap_alloc_last W9 _)
  have hv3 : ∀ c d g n (L K : W.Ht) w0 w, Hv E c d g L K ev n w0 w → (ldE ⟨g, 0, none⟩).run Tryz.prog w = .ok (.agg (evCells ev)) w := fun c d g n L K w0 w h => h.ld
  clear hG hq
  simp only [cond_true, cond_false, efCells, W.Ef.no] at hR
  have hmk : ∀ c d g n w0 w, HAt c (W.H0 0 4096) w → HAt d (W.H0 0 4096) w → Tr E w → Below n w0 w → n ≤ w.heap.size → n ≤ c → n ≤ d → c ≠ d → g < n → w.heap[g]? = some (.cells (evCells ev) 27) → Hv E c d g (W.H0 0 4096) (W.H0 0 4096) ev n w0 w := fun c d g n w0 w a1 a2 a3 a4 a5 a6 a7 a8 a9 a10 => ⟨a1, a2, a3, a4, a5, a6, a7, a8, a9, a10⟩
  generalize hRR : W.rrun (W.H0 0 4096) ev 0 (fun _ => (0 : Int)) (fun _ => (0 : Int)) 0 (fun _ => (0 : Int)) (fun _ => (0 : Int)) = rr at *
  generalize evCells ev = ES at *
  simp only [evCells] at hRG hEv hSm hlg hln
  generalize W.H0 0 4096 = h0 at *
  have HH : Hid (_ ∧ _ ∧ _ ∧ _ ∧ _ ∧ _ ∧ _ ∧ _ ∧ _ ∧ _ ∧ _ ∧ _ ∧ _ ∧ _ ∧ _) := ⟨hF, hN, hC, hR, hvs, hv2, hmk, c6, c7, hT, hRG, hEv, hSm, hv3, hlg⟩
  clear hF hN hC hR hvs hv2 hmk c6 c7 hok hT hRG hEv hSm hv3 hlg
  go_enter Tryz.func4, Tryz.ntmps4
  go_wp2_with (fail)
  refine (HH.out.1 _ (hE.below (hB _))).mono ?_
  rintro e w1 ⟨rfl, b1⟩
  have B1 := (hB (.cells ES 27)).trans (b1.mono (by simp))
  have gg : w1.heap[w.heap.size]? = some (.cells ES 27) := (b1.block w.heap.size (by simp)).trans (heap_alloc_last w _)
  have gl : w.heap.size < w1.heap.size := (Array.getElem?_eq_some_iff.1 gg).1
  have e6 : w1.cell? ⟨w.heap.size, 6, none⟩ = some (.slice ev.fw.a 0 ev.fw.c) := by simp only [World.cell?, gg]; exact HH.out.2.2.2.2.2.2.2.1
  have e7 : w1.cell? ⟨w.heap.size, 7, none⟩ = some (.slice ev.wk.a 0 ev.wk.c) := by simp only [World.cell?, gg]; exact HH.out.2.2.2.2.2.2.2.2.1
  have T1 := hE.below B1
  go_wp2_with (fail)
  refine (HH.out.2.1 _).mono ?_
  rintro e w2 ⟨c, hc, rfl, k2, b2⟩
  have l2 := k2.lt
  go_wp2_with (fail)
  refine (HH.out.2.2.1 c _ k2).mono ?_
  rintro e w3 ⟨rfl, kd, b3⟩
  have S3 := HH.out.2.2.2.2.2.2.1 c w2.heap.size w.heap.size w1.heap.size w1 w3 (k2.below b3) kd ((T1.below b2).below b3) (b2.trans (b3.mono b2.size)) (Nat.le_trans b2.size b3.size) hc b2.size (by omega) gl ((b3.block _ (Nat.lt_of_lt_of_le gl b2.size)).trans ((b2.block _ gl).trans gg))
  clear k2 kd b3 e6 e7
  have ld3 := HH.out.2.2.2.2.1 _ _ _ _ _ _ S3
  have g3 : w.heap.size < w3.heap.size := Nat.lt_of_lt_of_le gl S3.s
  go_wp2_with (fail)
  refine (HH.out.2.2.2.1 c _ S3.k S3.t).mono ?_
  rintro e w4 ⟨rfl, k4, g4⟩
  have S4 := S3.stepc k4 g4
  clear k4 g4 ld3 S3
  have ld4 := fun o => HH.out.2.2.2.2.2.1 _ _ _ _ _ _ _ (S4.alloc o)
  have g4 : w.heap.size < w4.heap.size := Nat.lt_of_lt_of_le gl S4.s
  go_wp2_with (fail)
  refine (HH.out.2.2.2.2.2.2.2.2.2.2.2.1 _).mono ?_
  rintro e w5 ⟨⟨x, y, rfl⟩, b5⟩
  have S5 := (S4.alloc _).below b5
  clear S4 ld4 b5
  have ld5 := fun o => HH.out.2.2.2.2.2.1 _ _ _ _ _ _ _ (S5.alloc o)
  have g5 : w.heap.size < w5.heap.size := Nat.lt_of_lt_of_le gl S5.s
  go_wp2_with (fail)
  refine (HH.out.2.2.2.2.2.2.2.2.2.1 _).mono ?_
  rintro e w' ⟨rfl, rfl⟩
  have hn5 := hln w5 x y
  go_wp2_with (fail)
  refine (HH.out.2.2.2.2.2.2.2.2.2.2.1 x y _ _ (S5.alloc _).kd (S5.alloc _).t).mono ?_
  rintro e w6 ⟨rfl, k6, g6⟩
  have S6 := (S5.alloc _).stepd k6 g6
  have hg6 : w6.heap[w5.heap.size]? = some (.cells #[.int .i64 ev.k, .int .u32 ev.pc, .int .u32 ev.wd, .int .u32 ev.fpa, .int .u32 ev.pa, .int .u32 ev.ld, .slice x 0 0, .slice y 0 0, .int .u32 v, .int .u32 ev.tv, .bool ev.dn, .int .i64 ev.fat, .int .i64 ev.at_] 27) := (g6.block w5.heap.size (by simp) (by have := S5.kd.lt; simp; omega)).trans (heap_alloc_last w5 _)
  have hl6 : w5.heap.size < w6.heap.size := (Array.getElem?_eq_some_iff.1 hg6).1
  have lg6 := fun o => HH.out.2.2.2.2.2.2.2.2.2.2.2.2.2.2 x y w5.heap.size (w6.alloc o).drew (((Below.refl _ _).alloc (Nat.le_refl _) o).block w5.heap.size hl6 |>.trans hg6)
  have ld6 := fun o => HH.out.2.2.2.2.2.2.2.2.2.2.2.2.2.1 _ _ _ _ _ _ _ _ ((S6.alloc o).below (Below.refl _ _).drew)
  clear k6 g6 hn5 ld5 hln
  go_wp2_with (fail)
  go_region_held3 (fun w' => (ldE ⟨w5.heap.size, 0, none⟩).run Tryz.prog w' = .ok (.agg #[.int .i64 ev.k, .int .u32 ev.pc, .int .u32 ev.wd, .int .u32 ev.fpa, .int .u32 ev.pa, .int .u32 ev.ld, .slice x 0 0, .slice y 0 0, .int .u32 v, .int .u32 ev.tv, .bool ev.dn, .int .i64 ev.fat, .int .i64 ev.at_]) w' ∧ (ldE ⟨w.heap.size, 0, none⟩).run Tryz.prog w' = .ok (.agg ES) w')
    (first
      | (refine ⟨?_, ?_⟩; exact lg6 _; exact ld6 _)
      | exact ⟨HH.out.2.2.2.2.2.2.2.2.2.2.2.2.2.2 x y w5.heap.size w7 ((b7.block w5.heap.size (by simp; omega)).trans (((Below.refl _ _).alloc (Nat.le_refl _) _).block w5.heap.size hl6 |>.trans hg6)), HH.out.2.2.2.2.2.2.2.2.2.2.2.2.2.1 _ _ _ _ _ _ _ _ (((S6.alloc _).below (Below.refl _ _).drew).below b7)⟩)
    ((go_at_call 22; refine (HH.out.2.2.2.2.2.2.2.2.2.2.2.2.1 x y _).mono ?_; rintro e w7 ⟨rfl, b7⟩))
  all_goals
    go_wp2
    go_ret
    exact ⟨rfl, B1.trans (((((S6.alloc _).below (Below.refl _ _).drew).below b7).b).mono B1.size)⟩
end Go.Proofs.YteilpehekabccaaGreatDoor

/- HartBent, walked: a step, turned. -/
namespace Go.Proofs.YteilpehekabccaaGreatDoor
open Go.ChangeShapes Go.WideShapes Go.ChangeAt Go.RowKit
set_option linter.unusedVariables false
set_option linter.unusedSimpArgs false

attribute [local go_sem ↓] ldE_eq
set_option maxRecDepth 100000 in
set_option maxHeartbeats 1000000 in
theorem hb_Cf (E : Addr) (ev : W.Ev) (at' v : Int) (hwd : W.Rg ev.wd) (f0 : ev.fw.n = 0) (w0 : ev.wk.n = 0) (hok : (!((W.rrun (W.H0 0 4096) ev 0 (fun _ => (0 : Int)) (fun _ => (0 : Int)) 0 (fun _ => (0 : Int)) (fun _ => (0 : Int))).w.k == 0) && W.sameE ev (W.rrun (W.H0 0 4096) ev 0 (fun _ => (0 : Int)) (fun _ => (0 : Int)) 0 (fun _ => (0 : Int)) (fun _ => (0 : Int))).w) = true) (hT : ∀ w, Calls Tryz.prog 19 #[.int .i64 at', .int .i64 5] w fun z w' => z = .returned (.int .i64 2) ∧ w = w') (hq : W.likeB (({ ev with fw := W.Sl.nil, wk := W.Sl.nil, ca := v } : W.Ev)) ev = false) (w : World) (hE : Tr E w) :
    Calls Tryz.prog 4 #[.agg (evCells ev), .int .i64 at', .int .u32 v] w fun e w' => e = .returned (.bool true) ∧ Below w.heap.size w w' := by
  have hF := fun w1 (k : Tr E w1) => first10_any E w1 k
  have hN := hnew_any 0 4096
  have hC := fun c w1 (k : HAt c (W.H0 0 4096) w1) => clone_any c (W.H0 0 4096) w1 k
  have hR := fun c w1 (k : HAt c (W.H0 0 4096) w1) (t : Tr E w1) => replay_e c (W.H0 0 4096) ev E (H0_ok 0 4096) hwd f0 w0 true _ rfl hok w1 k t
  have hB : ∀ o : Obj, Below w.heap.size w (w.alloc o) := fun o => (Below.refl _ _).alloc (Nat.le_refl _) _
  have c6 : (evCells ev)[6]? = some (.slice ev.fw.a 0 ev.fw.c) := by rw [← f0]; rfl
  have c7 : (evCells ev)[7]? = some (.slice ev.wk.a 0 ev.wk.c) := by rw [← w0]; rfl
  have hvs : ∀ c d g n w0 w, Hv E c d g (W.H0 0 4096) (W.H0 0 4096) ev n w0 w → (ldE ⟨g, 0, none⟩).run Tryz.prog w = .ok (.agg (evCells ev)) w := fun c d g n w0 w h => h.ld
  have hv2 : ∀ c d g n (L : W.Ht) w0 w, Hv E c d g L (W.H0 0 4096) ev n w0 w → (ldE ⟨g, 0, none⟩).run Tryz.prog w = .ok (.agg (evCells ev)) w := fun c d g n L w0 w h => h.ld
  have hG : ∀ x y : Option Addr, (!((W.rrun (W.H0 0 4096) ({ ev with fw := ⟨x, 0, 0⟩, wk := ⟨y, 0, 0⟩, ca := v } : W.Ev) 0 (fun _ => (0 : Int)) (fun _ => (0 : Int)) 0 (fun _ => (0 : Int)) (fun _ => (0 : Int))).w.k == 0) && W.sameE ({ ev with fw := ⟨x, 0, 0⟩, wk := ⟨y, 0, 0⟩, ca := v } : W.Ev) (W.rrun (W.H0 0 4096) ({ ev with fw := ⟨x, 0, 0⟩, wk := ⟨y, 0, 0⟩, ca := v } : W.Ev) 0 (fun _ => (0 : Int)) (fun _ => (0 : Int)) 0 (fun _ => (0 : Int)) (fun _ => (0 : Int))).w) = false := fun x y => by
    rw [← hq]
    exact W.bent_law (W.H0 0 4096) (by decide +kernel) ev ({ ev with fw := ⟨x, 0, 0⟩, wk := ⟨y, 0, 0⟩, ca := v } : W.Ev) f0 w0 rfl rfl rfl rfl rfl 0 (fun _ => (0 : Int)) (fun _ => (0 : Int)) 0 (fun _ => (0 : Int)) (fun _ => (0 : Int)) hok
  have hRG := fun (x y : Option Addr) d w1 (k : HAt d (W.H0 0 4096) w1) (t : Tr E w1) => replay_e d (W.H0 0 4096) ({ ev with fw := ⟨x, 0, 0⟩, wk := ⟨y, 0, 0⟩, ca := v } : W.Ev) E (H0_ok 0 4096) hwd rfl rfl false _ rfl (hG x y) w1 k t
  simp only [cond_true, cond_false, efCells, W.Ef.no] at hRG
  have hEv := fun w => event_0 ev f0 w0 w
  have hSm : ∀ (x y : Option Addr) w, Calls Tryz.prog 22 #[.agg (evCells ({ ev with fw := ⟨x, 0, 0⟩, wk := ⟨y, 0, 0⟩, ca := v } : W.Ev)), .agg (evCells ev)] w fun z w' => z = .returned (.bool false) ∧ Below w.heap.size w w' := fun x y w => by
    have h := samee_0 ({ ev with fw := ⟨x, 0, 0⟩, wk := ⟨y, 0, 0⟩, ca := v } : W.Ev) ev rfl rfl f0 w0 w
    have e : ((ev.fat == ev.fat) && ((ev.at_ == ev.at_) && W.likeE ({ ev with fw := ⟨x, 0, 0⟩, wk := ⟨y, 0, 0⟩, ca := v } : W.Ev) ev)) = false := by
      rw [like_eq]
      have : W.likeB ({ ev with fw := ⟨x, 0, 0⟩, wk := ⟨y, 0, 0⟩, ca := v } : W.Ev) ev = false := hq
      rw [this]
      simp
    exact h.mono fun z w' ⟨h1, h2⟩ => ⟨h1.trans (by rw [← e]), h2⟩
  have hlg : ∀ (x y : Option Addr) g w, w.heap[g]? = some (.cells (evCells ({ ev with fw := ⟨x, 0, 0⟩, wk := ⟨y, 0, 0⟩, ca := v } : W.Ev)) 27) → (ldE ⟨g, 0, none⟩).run Tryz.prog w = .ok (.agg (evCells ({ ev with fw := ⟨x, 0, 0⟩, wk := ⟨y, 0, 0⟩, ca := v } : W.Ev))) w := fun x y g w h => ev_load h
  have hln : ∀ (W9 : World) (x y : Option Addr), (ldE ⟨W9.heap.size, 0, none⟩).run Tryz.prog (W9.alloc (.cells (evCells ({ ev with fw := ⟨x, 0, 0⟩, wk := ⟨y, 0, 0⟩, ca := v } : W.Ev)) 27)) = .ok (.agg (evCells ({ ev with fw := ⟨x, 0, 0⟩, wk := ⟨y, 0, 0⟩, ca := v } : W.Ev))) (W9.alloc (.cells (evCells ({ ev with fw := ⟨x, 0, 0⟩, wk := ⟨y, 0, 0⟩, ca := v } : W.Ev)) 27)) := fun W9 x y => ev_load (heap_alloc_last W9 _)
  have hv3 : ∀ c d g n (L K : W.Ht) w0 w, Hv E c d g L K ev n w0 w → (ldE ⟨g, 0, none⟩).run Tryz.prog w = .ok (.agg (evCells ev)) w := fun c d g n L K w0 w h => h.ld
  clear hG hq
  simp only [cond_true, cond_false, efCells, W.Ef.no] at hR
  have hmk : ∀ c d g n w0 w, HAt c (W.H0 0 4096) w → HAt d (W.H0 0 4096) w → Tr E w → Below n w0 w → n ≤ w.heap.size → n ≤ c → n ≤ d → c ≠ d → g < n → w.heap[g]? = some (.cells (evCells ev) 27) → Hv E c d g (W.H0 0 4096) (W.H0 0 4096) ev n w0 w := fun c d g n w0 w a1 a2 a3 a4 a5 a6 a7 a8 a9 a10 => ⟨a1, a2, a3, a4, a5, a6, a7, a8, a9, a10⟩
  generalize hRR : W.rrun (W.H0 0 4096) ev 0 (fun _ => (0 : Int)) (fun _ => (0 : Int)) 0 (fun _ => (0 : Int)) (fun _ => (0 : Int)) = rr at *
  generalize evCells ev = ES at *
  simp only [evCells] at hRG hEv hSm hlg hln
  generalize W.H0 0 4096 = h0 at *
  have HH : Hid (_ ∧ _ ∧ _ ∧ _ ∧ _ ∧ _ ∧ _ ∧ _ ∧ _ ∧ _ ∧ _ ∧ _ ∧ _ ∧ _ ∧ _) := ⟨hF, hN, hC, hR, hvs, hv2, hmk, c6, c7, hT, hRG, hEv, hSm, hv3, hlg⟩
  clear hF hN hC hR hvs hv2 hmk c6 c7 hok hT hRG hEv hSm hv3 hlg
  go_enter Tryz.func4, Tryz.ntmps4
  go_wp2_with (fail)
  refine (HH.out.1 _ (hE.below (hB _))).mono ?_
  rintro e w1 ⟨rfl, b1⟩
  have B1 := (hB (.cells ES 27)).trans (b1.mono (by simp))
  have gg : w1.heap[w.heap.size]? = some (.cells ES 27) := (b1.block w.heap.size (by simp)).trans (heap_alloc_last w _)
  have gl : w.heap.size < w1.heap.size := (Array.getElem?_eq_some_iff.1 gg).1
  have e6 : w1.cell? ⟨w.heap.size, 6, none⟩ = some (.slice ev.fw.a 0 ev.fw.c) := by simp only [World.cell?, gg]; exact HH.out.2.2.2.2.2.2.2.1
  have e7 : w1.cell? ⟨w.heap.size, 7, none⟩ = some (.slice ev.wk.a 0 ev.wk.c) := by simp only [World.cell?, gg]; exact HH.out.2.2.2.2.2.2.2.2.1
  have T1 := hE.below B1
  go_wp2_with (fail)
  refine (HH.out.2.1 _).mono ?_
  rintro e w2 ⟨c, hc, rfl, k2, b2⟩
  have l2 := k2.lt
  go_wp2_with (fail)
  refine (HH.out.2.2.1 c _ k2).mono ?_
  rintro e w3 ⟨rfl, kd, b3⟩
  have S3 := HH.out.2.2.2.2.2.2.1 c w2.heap.size w.heap.size w1.heap.size w1 w3 (k2.below b3) kd ((T1.below b2).below b3) (b2.trans (b3.mono b2.size)) (Nat.le_trans b2.size b3.size) hc b2.size (by omega) gl ((b3.block _ (Nat.lt_of_lt_of_le gl b2.size)).trans ((b2.block _ gl).trans gg))
  clear k2 kd b3 e6 e7
  have ld3 := HH.out.2.2.2.2.1 _ _ _ _ _ _ S3
  have g3 : w.heap.size < w3.heap.size := Nat.lt_of_lt_of_le gl S3.s
  go_wp2_with (fail)
  refine (HH.out.2.2.2.1 c _ S3.k S3.t).mono ?_
  rintro e w4 ⟨rfl, k4, g4⟩
  have S4 := S3.stepc k4 g4
  clear k4 g4 ld3 S3
  have ld4 := fun o => HH.out.2.2.2.2.2.1 _ _ _ _ _ _ _ (S4.alloc o)
  have g4 : w.heap.size < w4.heap.size := Nat.lt_of_lt_of_le gl S4.s
  go_wp2_with (fail)
  refine (HH.out.2.2.2.2.2.2.2.2.2.2.2.1 _).mono ?_
  rintro e w5 ⟨⟨x, y, rfl⟩, b5⟩
  have S5 := (S4.alloc _).below b5
  clear S4 ld4 b5
  have ld5 := fun o => HH.out.2.2.2.2.2.1 _ _ _ _ _ _ _ (S5.alloc o)
  have g5 : w.heap.size < w5.heap.size := Nat.lt_of_lt_of_le gl S5.s
  go_wp2_with (fail)
  refine (HH.out.2.2.2.2.2.2.2.2.2.1 _).mono ?_
  rintro e w' ⟨rfl, rfl⟩
  have hn5 := hln w5 x y
  go_wp2_with (fail)
  refine (HH.out.2.2.2.2.2.2.2.2.2.2.1 x y _ _ (S5.alloc _).kd (S5.alloc _).t).mono ?_
  rintro e w6 ⟨rfl, k6, g6⟩
  have S6 := (S5.alloc _).stepd k6 g6
  have hg6 : w6.heap[w5.heap.size]? = some (.cells #[.int .i64 ev.k, .int .u32 ev.pc, .int .u32 ev.wd, .int .u32 ev.fpa, .int .u32 ev.pa, .int .u32 ev.ld, .slice x 0 0, .slice y 0 0, .int .u32 v, .int .u32 ev.tv, .bool ev.dn, .int .i64 ev.fat, .int .i64 ev.at_] 27) := (g6.block w5.heap.size (by simp) (by have := S5.kd.lt; simp; omega)).trans (heap_alloc_last w5 _)
  have hl6 : w5.heap.size < w6.heap.size := (Array.getElem?_eq_some_iff.1 hg6).1
  have lg6 := fun o => HH.out.2.2.2.2.2.2.2.2.2.2.2.2.2.2 x y w5.heap.size (w6.alloc o).drew (((Below.refl _ _).alloc (Nat.le_refl _) o).block w5.heap.size hl6 |>.trans hg6)
  have ld6 := fun o => HH.out.2.2.2.2.2.2.2.2.2.2.2.2.2.1 _ _ _ _ _ _ _ _ ((S6.alloc o).below (Below.refl _ _).drew)
  clear k6 g6 hn5 ld5 hln
  go_wp2_with (fail)
  go_region_held3 (fun w' => (ldE ⟨w5.heap.size, 0, none⟩).run Tryz.prog w' = .ok (.agg #[.int .i64 ev.k, .int .u32 ev.pc, .int .u32 ev.wd, .int .u32 ev.fpa, .int .u32 ev.pa, .int .u32 ev.ld, .slice x 0 0, .slice y 0 0, .int .u32 v, .int .u32 ev.tv, .bool ev.dn, .int .i64 ev.fat, .int .i64 ev.at_]) w' ∧ (ldE ⟨w.heap.size, 0, none⟩).run Tryz.prog w' = .ok (.agg ES) w')
    (first
      | (refine ⟨?_, ?_⟩; exact lg6 _; exact ld6 _)
      | exact ⟨HH.out.2.2.2.2.2.2.2.2.2.2.2.2.2.2 x y w5.heap.size w7 ((b7.block w5.heap.size (by simp; omega)).trans (((Below.refl _ _).alloc (Nat.le_refl _) _).block w5.heap.size hl6 |>.trans hg6)), HH.out.2.2.2.2.2.2.2.2.2.2.2.2.2.1 _ _ _ _ _ _ _ _ (((S6.alloc _).below (Below.refl _ _).drew).below b7)⟩)
    ((go_at_call 22; refine (HH.out.2.2.2.2.2.2.2.2.2.2.2.2.1 x y _).mono ?_; rintro e w7 ⟨rfl, b7⟩))
  all_goals
    go_wp2
    go_ret
    exact ⟨rfl, B1.trans (((((S6.alloc _).below (Below.refl _ _).drew).below b7).b).mono B1.size)⟩
end Go.Proofs.YteilpehekabccaaGreatDoor

/- HartBent, walked: a step, turned. -/
namespace Go.Proofs.YteilpehekabccaaGreatDoor
open Go.ChangeShapes Go.WideShapes Go.ChangeAt Go.RowKit
set_option linter.unusedVariables false
set_option linter.unusedSimpArgs false

attribute [local go_sem ↓] ldE_eq
set_option maxRecDepth 100000 in
set_option maxHeartbeats 1000000 in
theorem hb_Tt (E : Addr) (ev : W.Ev) (at' v : Int) (hwd : W.Rg ev.wd) (f0 : ev.fw.n = 0) (w0 : ev.wk.n = 0) (hok : (!((W.rrun (W.H0 0 4096) ev 0 (fun _ => (0 : Int)) (fun _ => (0 : Int)) 0 (fun _ => (0 : Int)) (fun _ => (0 : Int))).w.k == 0) && W.sameE ev (W.rrun (W.H0 0 4096) ev 0 (fun _ => (0 : Int)) (fun _ => (0 : Int)) 0 (fun _ => (0 : Int)) (fun _ => (0 : Int))).w) = true) (hT : ∀ w, Calls Tryz.prog 19 #[.int .i64 at', .int .i64 5] w fun z w' => z = .returned (.int .i64 3) ∧ w = w') (hq : W.likeB (({ ev with fw := W.Sl.nil, wk := W.Sl.nil, tv := v } : W.Ev)) ev = true) (w : World) (hE : Tr E w) :
    Calls Tryz.prog 4 #[.agg (evCells ev), .int .i64 at', .int .u32 v] w fun e w' => e = .returned (.bool true) ∧ Below w.heap.size w w' := by
  have hF := fun w1 (k : Tr E w1) => first10_any E w1 k
  have hN := hnew_any 0 4096
  have hC := fun c w1 (k : HAt c (W.H0 0 4096) w1) => clone_any c (W.H0 0 4096) w1 k
  have hR := fun c w1 (k : HAt c (W.H0 0 4096) w1) (t : Tr E w1) => replay_e c (W.H0 0 4096) ev E (H0_ok 0 4096) hwd f0 w0 true _ rfl hok w1 k t
  have hB : ∀ o : Obj, Below w.heap.size w (w.alloc o) := fun o => (Below.refl _ _).alloc (Nat.le_refl _) _
  have c6 : (evCells ev)[6]? = some (.slice ev.fw.a 0 ev.fw.c) := by rw [← f0]; rfl
  have c7 : (evCells ev)[7]? = some (.slice ev.wk.a 0 ev.wk.c) := by rw [← w0]; rfl
  have hvs : ∀ c d g n w0 w, Hv E c d g (W.H0 0 4096) (W.H0 0 4096) ev n w0 w → (ldE ⟨g, 0, none⟩).run Tryz.prog w = .ok (.agg (evCells ev)) w := fun c d g n w0 w h => h.ld
  have hv2 : ∀ c d g n (L : W.Ht) w0 w, Hv E c d g L (W.H0 0 4096) ev n w0 w → (ldE ⟨g, 0, none⟩).run Tryz.prog w = .ok (.agg (evCells ev)) w := fun c d g n L w0 w h => h.ld
  have hG : ∀ x y : Option Addr, (!((W.rrun (W.H0 0 4096) ({ ev with fw := ⟨x, 0, 0⟩, wk := ⟨y, 0, 0⟩, tv := v } : W.Ev) 0 (fun _ => (0 : Int)) (fun _ => (0 : Int)) 0 (fun _ => (0 : Int)) (fun _ => (0 : Int))).w.k == 0) && W.sameE ({ ev with fw := ⟨x, 0, 0⟩, wk := ⟨y, 0, 0⟩, tv := v } : W.Ev) (W.rrun (W.H0 0 4096) ({ ev with fw := ⟨x, 0, 0⟩, wk := ⟨y, 0, 0⟩, tv := v } : W.Ev) 0 (fun _ => (0 : Int)) (fun _ => (0 : Int)) 0 (fun _ => (0 : Int)) (fun _ => (0 : Int))).w) = true := fun x y => by
    rw [← hq]
    exact W.bent_law (W.H0 0 4096) (by decide +kernel) ev ({ ev with fw := ⟨x, 0, 0⟩, wk := ⟨y, 0, 0⟩, tv := v } : W.Ev) f0 w0 rfl rfl rfl rfl rfl 0 (fun _ => (0 : Int)) (fun _ => (0 : Int)) 0 (fun _ => (0 : Int)) (fun _ => (0 : Int)) hok
  have hRG := fun (x y : Option Addr) d w1 (k : HAt d (W.H0 0 4096) w1) (t : Tr E w1) => replay_e d (W.H0 0 4096) ({ ev with fw := ⟨x, 0, 0⟩, wk := ⟨y, 0, 0⟩, tv := v } : W.Ev) E (H0_ok 0 4096) hwd rfl rfl true _ rfl (hG x y) w1 k t
  simp only [cond_true, cond_false, efCells, W.Ef.no] at hRG
  have hEv := fun w => event_0 ev f0 w0 w
  have hSm : ∀ (x y : Option Addr) w, Calls Tryz.prog 22 #[.agg (evCells ({ ev with fw := ⟨x, 0, 0⟩, wk := ⟨y, 0, 0⟩, tv := v } : W.Ev)), .agg (evCells ev)] w fun z w' => z = .returned (.bool true) ∧ Below w.heap.size w w' := fun x y w => by
    have h := samee_0 ({ ev with fw := ⟨x, 0, 0⟩, wk := ⟨y, 0, 0⟩, tv := v } : W.Ev) ev rfl rfl f0 w0 w
    have e : ((ev.fat == ev.fat) && ((ev.at_ == ev.at_) && W.likeE ({ ev with fw := ⟨x, 0, 0⟩, wk := ⟨y, 0, 0⟩, tv := v } : W.Ev) ev)) = true := by
      rw [like_eq]
      have : W.likeB ({ ev with fw := ⟨x, 0, 0⟩, wk := ⟨y, 0, 0⟩, tv := v } : W.Ev) ev = true := hq
      rw [this]
      simp
    exact h.mono fun z w' ⟨h1, h2⟩ => ⟨h1.trans (by rw [← e]), h2⟩
  have hlg : ∀ (x y : Option Addr) g w, w.heap[g]? = some (.cells (evCells ({ ev with fw := ⟨x, 0, 0⟩, wk := ⟨y, 0, 0⟩, tv := v } : W.Ev)) 27) → (ldE ⟨g, 0, none⟩).run Tryz.prog w = .ok (.agg (evCells ({ ev with fw := ⟨x, 0, 0⟩, wk := ⟨y, 0, 0⟩, tv := v } : W.Ev))) w := fun x y g w h => ev_load h
  have hln : ∀ (W9 : World) (x y : Option Addr), (ldE ⟨W9.heap.size, 0, none⟩).run Tryz.prog (W9.alloc (.cells (evCells ({ ev with fw := ⟨x, 0, 0⟩, wk := ⟨y, 0, 0⟩, tv := v } : W.Ev)) 27)) = .ok (.agg (evCells ({ ev with fw := ⟨x, 0, 0⟩, wk := ⟨y, 0, 0⟩, tv := v } : W.Ev))) (W9.alloc (.cells (evCells ({ ev with fw := ⟨x, 0, 0⟩, wk := ⟨y, 0, 0⟩, tv := v } : W.Ev)) 27)) := fun W9 x y => ev_load (heap_alloc_last W9 _)
  have hv3 : ∀ c d g n (L K : W.Ht) w0 w, Hv E c d g L K ev n w0 w → (ldE ⟨g, 0, none⟩).run Tryz.prog w = .ok (.agg (evCells ev)) w := fun c d g n L K w0 w h => h.ld
  clear hG hq
  simp only [cond_true, cond_false, efCells, W.Ef.no] at hR
  have hmk : ∀ c d g n w0 w, HAt c (W.H0 0 4096) w → HAt d (W.H0 0 4096) w → Tr E w → Below n w0 w → n ≤ w.heap.size → n ≤ c → n ≤ d → c ≠ d → g < n → w.heap[g]? = some (.cells (evCells ev) 27) → Hv E c d g (W.H0 0 4096) (W.H0 0 4096) ev n w0 w := fun c d g n w0 w a1 a2 a3 a4 a5 a6 a7 a8 a9 a10 => ⟨a1, a2, a3, a4, a5, a6, a7, a8, a9, a10⟩
  generalize hRR : W.rrun (W.H0 0 4096) ev 0 (fun _ => (0 : Int)) (fun _ => (0 : Int)) 0 (fun _ => (0 : Int)) (fun _ => (0 : Int)) = rr at *
  generalize evCells ev = ES at *
  simp only [evCells] at hRG hEv hSm hlg hln
  generalize W.H0 0 4096 = h0 at *
  have HH : Hid (_ ∧ _ ∧ _ ∧ _ ∧ _ ∧ _ ∧ _ ∧ _ ∧ _ ∧ _ ∧ _ ∧ _ ∧ _ ∧ _ ∧ _) := ⟨hF, hN, hC, hR, hvs, hv2, hmk, c6, c7, hT, hRG, hEv, hSm, hv3, hlg⟩
  clear hF hN hC hR hvs hv2 hmk c6 c7 hok hT hRG hEv hSm hv3 hlg
  go_enter Tryz.func4, Tryz.ntmps4
  go_wp2_with (fail)
  refine (HH.out.1 _ (hE.below (hB _))).mono ?_
  rintro e w1 ⟨rfl, b1⟩
  have B1 := (hB (.cells ES 27)).trans (b1.mono (by simp))
  have gg : w1.heap[w.heap.size]? = some (.cells ES 27) := (b1.block w.heap.size (by simp)).trans (heap_alloc_last w _)
  have gl : w.heap.size < w1.heap.size := (Array.getElem?_eq_some_iff.1 gg).1
  have e6 : w1.cell? ⟨w.heap.size, 6, none⟩ = some (.slice ev.fw.a 0 ev.fw.c) := by simp only [World.cell?, gg]; exact HH.out.2.2.2.2.2.2.2.1
  have e7 : w1.cell? ⟨w.heap.size, 7, none⟩ = some (.slice ev.wk.a 0 ev.wk.c) := by simp only [World.cell?, gg]; exact HH.out.2.2.2.2.2.2.2.2.1
  have T1 := hE.below B1
  go_wp2_with (fail)
  refine (HH.out.2.1 _).mono ?_
  rintro e w2 ⟨c, hc, rfl, k2, b2⟩
  have l2 := k2.lt
  go_wp2_with (fail)
  refine (HH.out.2.2.1 c _ k2).mono ?_
  rintro e w3 ⟨rfl, kd, b3⟩
  have S3 := HH.out.2.2.2.2.2.2.1 c w2.heap.size w.heap.size w1.heap.size w1 w3 (k2.below b3) kd ((T1.below b2).below b3) (b2.trans (b3.mono b2.size)) (Nat.le_trans b2.size b3.size) hc b2.size (by omega) gl ((b3.block _ (Nat.lt_of_lt_of_le gl b2.size)).trans ((b2.block _ gl).trans gg))
  clear k2 kd b3 e6 e7
  have ld3 := HH.out.2.2.2.2.1 _ _ _ _ _ _ S3
  have g3 : w.heap.size < w3.heap.size := Nat.lt_of_lt_of_le gl S3.s
  go_wp2_with (fail)
  refine (HH.out.2.2.2.1 c _ S3.k S3.t).mono ?_
  rintro e w4 ⟨rfl, k4, g4⟩
  have S4 := S3.stepc k4 g4
  clear k4 g4 ld3 S3
  have ld4 := fun o => HH.out.2.2.2.2.2.1 _ _ _ _ _ _ _ (S4.alloc o)
  have g4 : w.heap.size < w4.heap.size := Nat.lt_of_lt_of_le gl S4.s
  go_wp2_with (fail)
  refine (HH.out.2.2.2.2.2.2.2.2.2.2.2.1 _).mono ?_
  rintro e w5 ⟨⟨x, y, rfl⟩, b5⟩
  have S5 := (S4.alloc _).below b5
  clear S4 ld4 b5
  have ld5 := fun o => HH.out.2.2.2.2.2.1 _ _ _ _ _ _ _ (S5.alloc o)
  have g5 : w.heap.size < w5.heap.size := Nat.lt_of_lt_of_le gl S5.s
  go_wp2_with (fail)
  refine (HH.out.2.2.2.2.2.2.2.2.2.1 _).mono ?_
  rintro e w' ⟨rfl, rfl⟩
  have hn5 := hln w5 x y
  go_wp2_with (fail)
  refine (HH.out.2.2.2.2.2.2.2.2.2.2.1 x y _ _ (S5.alloc _).kd (S5.alloc _).t).mono ?_
  rintro e w6 ⟨rfl, k6, g6⟩
  have S6 := (S5.alloc _).stepd k6 g6
  have hg6 : w6.heap[w5.heap.size]? = some (.cells #[.int .i64 ev.k, .int .u32 ev.pc, .int .u32 ev.wd, .int .u32 ev.fpa, .int .u32 ev.pa, .int .u32 ev.ld, .slice x 0 0, .slice y 0 0, .int .u32 ev.ca, .int .u32 v, .bool ev.dn, .int .i64 ev.fat, .int .i64 ev.at_] 27) := (g6.block w5.heap.size (by simp) (by have := S5.kd.lt; simp; omega)).trans (heap_alloc_last w5 _)
  have hl6 : w5.heap.size < w6.heap.size := (Array.getElem?_eq_some_iff.1 hg6).1
  have lg6 := fun o => HH.out.2.2.2.2.2.2.2.2.2.2.2.2.2.2 x y w5.heap.size (w6.alloc o).drew (((Below.refl _ _).alloc (Nat.le_refl _) o).block w5.heap.size hl6 |>.trans hg6)
  have ld6 := fun o => HH.out.2.2.2.2.2.2.2.2.2.2.2.2.2.1 _ _ _ _ _ _ _ _ ((S6.alloc o).below (Below.refl _ _).drew)
  clear k6 g6 hn5 ld5 hln
  go_wp2_with (fail)
  go_region_held3 (fun w' => (ldE ⟨w5.heap.size, 0, none⟩).run Tryz.prog w' = .ok (.agg #[.int .i64 ev.k, .int .u32 ev.pc, .int .u32 ev.wd, .int .u32 ev.fpa, .int .u32 ev.pa, .int .u32 ev.ld, .slice x 0 0, .slice y 0 0, .int .u32 ev.ca, .int .u32 v, .bool ev.dn, .int .i64 ev.fat, .int .i64 ev.at_]) w' ∧ (ldE ⟨w.heap.size, 0, none⟩).run Tryz.prog w' = .ok (.agg ES) w')
    (first
      | (refine ⟨?_, ?_⟩; exact lg6 _; exact ld6 _)
      | exact ⟨HH.out.2.2.2.2.2.2.2.2.2.2.2.2.2.2 x y w5.heap.size w7 ((b7.block w5.heap.size (by simp; omega)).trans (((Below.refl _ _).alloc (Nat.le_refl _) _).block w5.heap.size hl6 |>.trans hg6)), HH.out.2.2.2.2.2.2.2.2.2.2.2.2.2.1 _ _ _ _ _ _ _ _ (((S6.alloc _).below (Below.refl _ _).drew).below b7)⟩)
    ((go_at_call 22; refine (HH.out.2.2.2.2.2.2.2.2.2.2.2.2.1 x y _).mono ?_; rintro e w7 ⟨rfl, b7⟩))
  all_goals
    go_wp2
    go_ret
    exact ⟨rfl, B1.trans (((((S6.alloc _).below (Below.refl _ _).drew).below b7).b).mono B1.size)⟩
end Go.Proofs.YteilpehekabccaaGreatDoor

/- HartBent, walked: a step, turned. -/
namespace Go.Proofs.YteilpehekabccaaGreatDoor
open Go.ChangeShapes Go.WideShapes Go.ChangeAt Go.RowKit
set_option linter.unusedVariables false
set_option linter.unusedSimpArgs false

attribute [local go_sem ↓] ldE_eq
set_option maxRecDepth 100000 in
set_option maxHeartbeats 1000000 in
theorem hb_Tf (E : Addr) (ev : W.Ev) (at' v : Int) (hwd : W.Rg ev.wd) (f0 : ev.fw.n = 0) (w0 : ev.wk.n = 0) (hok : (!((W.rrun (W.H0 0 4096) ev 0 (fun _ => (0 : Int)) (fun _ => (0 : Int)) 0 (fun _ => (0 : Int)) (fun _ => (0 : Int))).w.k == 0) && W.sameE ev (W.rrun (W.H0 0 4096) ev 0 (fun _ => (0 : Int)) (fun _ => (0 : Int)) 0 (fun _ => (0 : Int)) (fun _ => (0 : Int))).w) = true) (hT : ∀ w, Calls Tryz.prog 19 #[.int .i64 at', .int .i64 5] w fun z w' => z = .returned (.int .i64 3) ∧ w = w') (hq : W.likeB (({ ev with fw := W.Sl.nil, wk := W.Sl.nil, tv := v } : W.Ev)) ev = false) (w : World) (hE : Tr E w) :
    Calls Tryz.prog 4 #[.agg (evCells ev), .int .i64 at', .int .u32 v] w fun e w' => e = .returned (.bool true) ∧ Below w.heap.size w w' := by
  have hF := fun w1 (k : Tr E w1) => first10_any E w1 k
  have hN := hnew_any 0 4096
  have hC := fun c w1 (k : HAt c (W.H0 0 4096) w1) => clone_any c (W.H0 0 4096) w1 k
  have hR := fun c w1 (k : HAt c (W.H0 0 4096) w1) (t : Tr E w1) => replay_e c (W.H0 0 4096) ev E (H0_ok 0 4096) hwd f0 w0 true _ rfl hok w1 k t
  have hB : ∀ o : Obj, Below w.heap.size w (w.alloc o) := fun o => (Below.refl _ _).alloc (Nat.le_refl _) _
  have c6 : (evCells ev)[6]? = some (.slice ev.fw.a 0 ev.fw.c) := by rw [← f0]; rfl
  have c7 : (evCells ev)[7]? = some (.slice ev.wk.a 0 ev.wk.c) := by rw [← w0]; rfl
  have hvs : ∀ c d g n w0 w, Hv E c d g (W.H0 0 4096) (W.H0 0 4096) ev n w0 w → (ldE ⟨g, 0, none⟩).run Tryz.prog w = .ok (.agg (evCells ev)) w := fun c d g n w0 w h => h.ld
  have hv2 : ∀ c d g n (L : W.Ht) w0 w, Hv E c d g L (W.H0 0 4096) ev n w0 w → (ldE ⟨g, 0, none⟩).run Tryz.prog w = .ok (.agg (evCells ev)) w := fun c d g n L w0 w h => h.ld
  have hG : ∀ x y : Option Addr, (!((W.rrun (W.H0 0 4096) ({ ev with fw := ⟨x, 0, 0⟩, wk := ⟨y, 0, 0⟩, tv := v } : W.Ev) 0 (fun _ => (0 : Int)) (fun _ => (0 : Int)) 0 (fun _ => (0 : Int)) (fun _ => (0 : Int))).w.k == 0) && W.sameE ({ ev with fw := ⟨x, 0, 0⟩, wk := ⟨y, 0, 0⟩, tv := v } : W.Ev) (W.rrun (W.H0 0 4096) ({ ev with fw := ⟨x, 0, 0⟩, wk := ⟨y, 0, 0⟩, tv := v } : W.Ev) 0 (fun _ => (0 : Int)) (fun _ => (0 : Int)) 0 (fun _ => (0 : Int)) (fun _ => (0 : Int))).w) = false := fun x y => by
    rw [← hq]
    exact W.bent_law (W.H0 0 4096) (by decide +kernel) ev ({ ev with fw := ⟨x, 0, 0⟩, wk := ⟨y, 0, 0⟩, tv := v } : W.Ev) f0 w0 rfl rfl rfl rfl rfl 0 (fun _ => (0 : Int)) (fun _ => (0 : Int)) 0 (fun _ => (0 : Int)) (fun _ => (0 : Int)) hok
  have hRG := fun (x y : Option Addr) d w1 (k : HAt d (W.H0 0 4096) w1) (t : Tr E w1) => replay_e d (W.H0 0 4096) ({ ev with fw := ⟨x, 0, 0⟩, wk := ⟨y, 0, 0⟩, tv := v } : W.Ev) E (H0_ok 0 4096) hwd rfl rfl false _ rfl (hG x y) w1 k t
  simp only [cond_true, cond_false, efCells, W.Ef.no] at hRG
  have hEv := fun w => event_0 ev f0 w0 w
  have hSm : ∀ (x y : Option Addr) w, Calls Tryz.prog 22 #[.agg (evCells ({ ev with fw := ⟨x, 0, 0⟩, wk := ⟨y, 0, 0⟩, tv := v } : W.Ev)), .agg (evCells ev)] w fun z w' => z = .returned (.bool false) ∧ Below w.heap.size w w' := fun x y w => by
    have h := samee_0 ({ ev with fw := ⟨x, 0, 0⟩, wk := ⟨y, 0, 0⟩, tv := v } : W.Ev) ev rfl rfl f0 w0 w
    have e : ((ev.fat == ev.fat) && ((ev.at_ == ev.at_) && W.likeE ({ ev with fw := ⟨x, 0, 0⟩, wk := ⟨y, 0, 0⟩, tv := v } : W.Ev) ev)) = false := by
      rw [like_eq]
      have : W.likeB ({ ev with fw := ⟨x, 0, 0⟩, wk := ⟨y, 0, 0⟩, tv := v } : W.Ev) ev = false := hq
      rw [this]
      simp
    exact h.mono fun z w' ⟨h1, h2⟩ => ⟨h1.trans (by rw [← e]), h2⟩
  have hlg : ∀ (x y : Option Addr) g w, w.heap[g]? = some (.cells (evCells ({ ev with fw := ⟨x, 0, 0⟩, wk := ⟨y, 0, 0⟩, tv := v } : W.Ev)) 27) → (ldE ⟨g, 0, none⟩).run Tryz.prog w = .ok (.agg (evCells ({ ev with fw := ⟨x, 0, 0⟩, wk := ⟨y, 0, 0⟩, tv := v } : W.Ev))) w := fun x y g w h => ev_load h
  have hln : ∀ (W9 : World) (x y : Option Addr), (ldE ⟨W9.heap.size, 0, none⟩).run Tryz.prog (W9.alloc (.cells (evCells ({ ev with fw := ⟨x, 0, 0⟩, wk := ⟨y, 0, 0⟩, tv := v } : W.Ev)) 27)) = .ok (.agg (evCells ({ ev with fw := ⟨x, 0, 0⟩, wk := ⟨y, 0, 0⟩, tv := v } : W.Ev))) (W9.alloc (.cells (evCells ({ ev with fw := ⟨x, 0, 0⟩, wk := ⟨y, 0, 0⟩, tv := v } : W.Ev)) 27)) := fun W9 x y => ev_load (heap_alloc_last W9 _)
  have hv3 : ∀ c d g n (L K : W.Ht) w0 w, Hv E c d g L K ev n w0 w → (ldE ⟨g, 0, none⟩).run Tryz.prog w = .ok (.agg (evCells ev)) w := fun c d g n L K w0 w h => h.ld
  clear hG hq
  simp only [cond_true, cond_false, efCells, W.Ef.no] at hR
  have hmk : ∀ c d g n w0 w, HAt c (W.H0 0 4096) w → HAt d (W.H0 0 4096) w → Tr E w → Below n w0 w → n ≤ w.heap.size → n ≤ c → n ≤ d → c ≠ d → g < n → w.heap[g]? = some (.cells (evCells ev) 27) → Hv E c d g (W.H0 0 4096) (W.H0 0 4096) ev n w0 w := fun c d g n w0 w a1 a2 a3 a4 a5 a6 a7 a8 a9 a10 => ⟨a1, a2, a3, a4, a5, a6, a7, a8, a9, a10⟩
  generalize hRR : W.rrun (W.H0 0 4096) ev 0 (fun _ => (0 : Int)) (fun _ => (0 : Int)) 0 (fun _ => (0 : Int)) (fun _ => (0 : Int)) = rr at *
  generalize evCells ev = ES at *
  simp only [evCells] at hRG hEv hSm hlg hln
  generalize W.H0 0 4096 = h0 at *
  have HH : Hid (_ ∧ _ ∧ _ ∧ _ ∧ _ ∧ _ ∧ _ ∧ _ ∧ _ ∧ _ ∧ _ ∧ _ ∧ _ ∧ _ ∧ _) := ⟨hF, hN, hC, hR, hvs, hv2, hmk, c6, c7, hT, hRG, hEv, hSm, hv3, hlg⟩
  clear hF hN hC hR hvs hv2 hmk c6 c7 hok hT hRG hEv hSm hv3 hlg
  go_enter Tryz.func4, Tryz.ntmps4
  go_wp2_with (fail)
  refine (HH.out.1 _ (hE.below (hB _))).mono ?_
  rintro e w1 ⟨rfl, b1⟩
  have B1 := (hB (.cells ES 27)).trans (b1.mono (by simp))
  have gg : w1.heap[w.heap.size]? = some (.cells ES 27) := (b1.block w.heap.size (by simp)).trans (heap_alloc_last w _)
  have gl : w.heap.size < w1.heap.size := (Array.getElem?_eq_some_iff.1 gg).1
  have e6 : w1.cell? ⟨w.heap.size, 6, none⟩ = some (.slice ev.fw.a 0 ev.fw.c) := by simp only [World.cell?, gg]; exact HH.out.2.2.2.2.2.2.2.1
  have e7 : w1.cell? ⟨w.heap.size, 7, none⟩ = some (.slice ev.wk.a 0 ev.wk.c) := by simp only [World.cell?, gg]; exact HH.out.2.2.2.2.2.2.2.2.1
  have T1 := hE.below B1
  go_wp2_with (fail)
  refine (HH.out.2.1 _).mono ?_
  rintro e w2 ⟨c, hc, rfl, k2, b2⟩
  have l2 := k2.lt
  go_wp2_with (fail)
  refine (HH.out.2.2.1 c _ k2).mono ?_
  rintro e w3 ⟨rfl, kd, b3⟩
  have S3 := HH.out.2.2.2.2.2.2.1 c w2.heap.size w.heap.size w1.heap.size w1 w3 (k2.below b3) kd ((T1.below b2).below b3) (b2.trans (b3.mono b2.size)) (Nat.le_trans b2.size b3.size) hc b2.size (by omega) gl ((b3.block _ (Nat.lt_of_lt_of_le gl b2.size)).trans ((b2.block _ gl).trans gg))
  clear k2 kd b3 e6 e7
  have ld3 := HH.out.2.2.2.2.1 _ _ _ _ _ _ S3
  have g3 : w.heap.size < w3.heap.size := Nat.lt_of_lt_of_le gl S3.s
  go_wp2_with (fail)
  refine (HH.out.2.2.2.1 c _ S3.k S3.t).mono ?_
  rintro e w4 ⟨rfl, k4, g4⟩
  have S4 := S3.stepc k4 g4
  clear k4 g4 ld3 S3
  have ld4 := fun o => HH.out.2.2.2.2.2.1 _ _ _ _ _ _ _ (S4.alloc o)
  have g4 : w.heap.size < w4.heap.size := Nat.lt_of_lt_of_le gl S4.s
  go_wp2_with (fail)
  refine (HH.out.2.2.2.2.2.2.2.2.2.2.2.1 _).mono ?_
  rintro e w5 ⟨⟨x, y, rfl⟩, b5⟩
  have S5 := (S4.alloc _).below b5
  clear S4 ld4 b5
  have ld5 := fun o => HH.out.2.2.2.2.2.1 _ _ _ _ _ _ _ (S5.alloc o)
  have g5 : w.heap.size < w5.heap.size := Nat.lt_of_lt_of_le gl S5.s
  go_wp2_with (fail)
  refine (HH.out.2.2.2.2.2.2.2.2.2.1 _).mono ?_
  rintro e w' ⟨rfl, rfl⟩
  have hn5 := hln w5 x y
  go_wp2_with (fail)
  refine (HH.out.2.2.2.2.2.2.2.2.2.2.1 x y _ _ (S5.alloc _).kd (S5.alloc _).t).mono ?_
  rintro e w6 ⟨rfl, k6, g6⟩
  have S6 := (S5.alloc _).stepd k6 g6
  have hg6 : w6.heap[w5.heap.size]? = some (.cells #[.int .i64 ev.k, .int .u32 ev.pc, .int .u32 ev.wd, .int .u32 ev.fpa, .int .u32 ev.pa, .int .u32 ev.ld, .slice x 0 0, .slice y 0 0, .int .u32 ev.ca, .int .u32 v, .bool ev.dn, .int .i64 ev.fat, .int .i64 ev.at_] 27) := (g6.block w5.heap.size (by simp) (by have := S5.kd.lt; simp; omega)).trans (heap_alloc_last w5 _)
  have hl6 : w5.heap.size < w6.heap.size := (Array.getElem?_eq_some_iff.1 hg6).1
  have lg6 := fun o => HH.out.2.2.2.2.2.2.2.2.2.2.2.2.2.2 x y w5.heap.size (w6.alloc o).drew (((Below.refl _ _).alloc (Nat.le_refl _) o).block w5.heap.size hl6 |>.trans hg6)
  have ld6 := fun o => HH.out.2.2.2.2.2.2.2.2.2.2.2.2.2.1 _ _ _ _ _ _ _ _ ((S6.alloc o).below (Below.refl _ _).drew)
  clear k6 g6 hn5 ld5 hln
  go_wp2_with (fail)
  go_region_held3 (fun w' => (ldE ⟨w5.heap.size, 0, none⟩).run Tryz.prog w' = .ok (.agg #[.int .i64 ev.k, .int .u32 ev.pc, .int .u32 ev.wd, .int .u32 ev.fpa, .int .u32 ev.pa, .int .u32 ev.ld, .slice x 0 0, .slice y 0 0, .int .u32 ev.ca, .int .u32 v, .bool ev.dn, .int .i64 ev.fat, .int .i64 ev.at_]) w' ∧ (ldE ⟨w.heap.size, 0, none⟩).run Tryz.prog w' = .ok (.agg ES) w')
    (first
      | (refine ⟨?_, ?_⟩; exact lg6 _; exact ld6 _)
      | exact ⟨HH.out.2.2.2.2.2.2.2.2.2.2.2.2.2.2 x y w5.heap.size w7 ((b7.block w5.heap.size (by simp; omega)).trans (((Below.refl _ _).alloc (Nat.le_refl _) _).block w5.heap.size hl6 |>.trans hg6)), HH.out.2.2.2.2.2.2.2.2.2.2.2.2.2.1 _ _ _ _ _ _ _ _ (((S6.alloc _).below (Below.refl _ _).drew).below b7)⟩)
    ((go_at_call 22; refine (HH.out.2.2.2.2.2.2.2.2.2.2.2.2.1 x y _).mono ?_; rintro e w7 ⟨rfl, b7⟩))
  all_goals
    go_wp2
    go_ret
    exact ⟨rfl, B1.trans (((((S6.alloc _).below (Below.refl _ _).drew).below b7).b).mono B1.size)⟩
end Go.Proofs.YteilpehekabccaaGreatDoor

/- HartBent, walked: a step, turned. -/
namespace Go.Proofs.YteilpehekabccaaGreatDoor
open Go.ChangeShapes Go.WideShapes Go.ChangeAt Go.RowKit
set_option linter.unusedVariables false
set_option linter.unusedSimpArgs false

attribute [local go_sem ↓] ldE_eq
set_option maxRecDepth 100000 in
set_option maxHeartbeats 1000000 in
theorem hb_Kt (E : Addr) (ev : W.Ev) (at' v : Int) (hwd : W.Rg ev.wd) (f0 : ev.fw.n = 0) (w0 : ev.wk.n = 0) (hok : (!((W.rrun (W.H0 0 4096) ev 0 (fun _ => (0 : Int)) (fun _ => (0 : Int)) 0 (fun _ => (0 : Int)) (fun _ => (0 : Int))).w.k == 0) && W.sameE ev (W.rrun (W.H0 0 4096) ev 0 (fun _ => (0 : Int)) (fun _ => (0 : Int)) 0 (fun _ => (0 : Int)) (fun _ => (0 : Int))).w) = true) (kk : Int) (v0 : 0 ≤ v) (v1 : v < 4294967296) (hT : ∀ w, Calls Tryz.prog 19 #[.int .i64 at', .int .i64 5] w fun z w' => z = .returned (.int .i64 4) ∧ w = w') (hK : ∀ w, Calls Tryz.prog 19 #[.int .i64 v, .int .i64 5] w fun z w' => z = .returned (.int .i64 kk) ∧ w = w') (hq : W.likeB (({ ev with fw := W.Sl.nil, wk := W.Sl.nil, k := kk } : W.Ev)) ev = true) (w : World) (hE : Tr E w) :
    Calls Tryz.prog 4 #[.agg (evCells ev), .int .i64 at', .int .u32 v] w fun e w' => e = .returned (.bool true) ∧ Below w.heap.size w w' := by
  have hF := fun w1 (k : Tr E w1) => first10_any E w1 k
  have hN := hnew_any 0 4096
  have hC := fun c w1 (k : HAt c (W.H0 0 4096) w1) => clone_any c (W.H0 0 4096) w1 k
  have hR := fun c w1 (k : HAt c (W.H0 0 4096) w1) (t : Tr E w1) => replay_e c (W.H0 0 4096) ev E (H0_ok 0 4096) hwd f0 w0 true _ rfl hok w1 k t
  have hB : ∀ o : Obj, Below w.heap.size w (w.alloc o) := fun o => (Below.refl _ _).alloc (Nat.le_refl _) _
  have c6 : (evCells ev)[6]? = some (.slice ev.fw.a 0 ev.fw.c) := by rw [← f0]; rfl
  have c7 : (evCells ev)[7]? = some (.slice ev.wk.a 0 ev.wk.c) := by rw [← w0]; rfl
  have hvs : ∀ c d g n w0 w, Hv E c d g (W.H0 0 4096) (W.H0 0 4096) ev n w0 w → (ldE ⟨g, 0, none⟩).run Tryz.prog w = .ok (.agg (evCells ev)) w := fun c d g n w0 w h => h.ld
  have hv2 : ∀ c d g n (L : W.Ht) w0 w, Hv E c d g L (W.H0 0 4096) ev n w0 w → (ldE ⟨g, 0, none⟩).run Tryz.prog w = .ok (.agg (evCells ev)) w := fun c d g n L w0 w h => h.ld
  have hG : ∀ x y : Option Addr, (!((W.rrun (W.H0 0 4096) ({ ev with fw := ⟨x, 0, 0⟩, wk := ⟨y, 0, 0⟩, k := kk } : W.Ev) 0 (fun _ => (0 : Int)) (fun _ => (0 : Int)) 0 (fun _ => (0 : Int)) (fun _ => (0 : Int))).w.k == 0) && W.sameE ({ ev with fw := ⟨x, 0, 0⟩, wk := ⟨y, 0, 0⟩, k := kk } : W.Ev) (W.rrun (W.H0 0 4096) ({ ev with fw := ⟨x, 0, 0⟩, wk := ⟨y, 0, 0⟩, k := kk } : W.Ev) 0 (fun _ => (0 : Int)) (fun _ => (0 : Int)) 0 (fun _ => (0 : Int)) (fun _ => (0 : Int))).w) = true := fun x y => by
    rw [← hq]
    exact W.bent_law (W.H0 0 4096) (by decide +kernel) ev ({ ev with fw := ⟨x, 0, 0⟩, wk := ⟨y, 0, 0⟩, k := kk } : W.Ev) f0 w0 rfl rfl rfl rfl rfl 0 (fun _ => (0 : Int)) (fun _ => (0 : Int)) 0 (fun _ => (0 : Int)) (fun _ => (0 : Int)) hok
  have hRG := fun (x y : Option Addr) d w1 (k : HAt d (W.H0 0 4096) w1) (t : Tr E w1) => replay_e d (W.H0 0 4096) ({ ev with fw := ⟨x, 0, 0⟩, wk := ⟨y, 0, 0⟩, k := kk } : W.Ev) E (H0_ok 0 4096) hwd rfl rfl true _ rfl (hG x y) w1 k t
  simp only [cond_true, cond_false, efCells, W.Ef.no] at hRG
  have hEv := fun w => event_0 ev f0 w0 w
  have hSm : ∀ (x y : Option Addr) w, Calls Tryz.prog 22 #[.agg (evCells ({ ev with fw := ⟨x, 0, 0⟩, wk := ⟨y, 0, 0⟩, k := kk } : W.Ev)), .agg (evCells ev)] w fun z w' => z = .returned (.bool true) ∧ Below w.heap.size w w' := fun x y w => by
    have h := samee_0 ({ ev with fw := ⟨x, 0, 0⟩, wk := ⟨y, 0, 0⟩, k := kk } : W.Ev) ev rfl rfl f0 w0 w
    have e : ((ev.fat == ev.fat) && ((ev.at_ == ev.at_) && W.likeE ({ ev with fw := ⟨x, 0, 0⟩, wk := ⟨y, 0, 0⟩, k := kk } : W.Ev) ev)) = true := by
      rw [like_eq]
      have : W.likeB ({ ev with fw := ⟨x, 0, 0⟩, wk := ⟨y, 0, 0⟩, k := kk } : W.Ev) ev = true := hq
      rw [this]
      simp
    exact h.mono fun z w' ⟨h1, h2⟩ => ⟨h1.trans (by rw [← e]), h2⟩
  have hlg : ∀ (x y : Option Addr) g w, w.heap[g]? = some (.cells (evCells ({ ev with fw := ⟨x, 0, 0⟩, wk := ⟨y, 0, 0⟩, k := kk } : W.Ev)) 27) → (ldE ⟨g, 0, none⟩).run Tryz.prog w = .ok (.agg (evCells ({ ev with fw := ⟨x, 0, 0⟩, wk := ⟨y, 0, 0⟩, k := kk } : W.Ev))) w := fun x y g w h => ev_load h
  have hln : ∀ (W9 : World) (x y : Option Addr), (ldE ⟨W9.heap.size, 0, none⟩).run Tryz.prog (W9.alloc (.cells (evCells ({ ev with fw := ⟨x, 0, 0⟩, wk := ⟨y, 0, 0⟩, k := kk } : W.Ev)) 27)) = .ok (.agg (evCells ({ ev with fw := ⟨x, 0, 0⟩, wk := ⟨y, 0, 0⟩, k := kk } : W.Ev))) (W9.alloc (.cells (evCells ({ ev with fw := ⟨x, 0, 0⟩, wk := ⟨y, 0, 0⟩, k := kk } : W.Ev)) 27)) := fun W9 x y => ev_load (heap_alloc_last W9 _)
  have hv3 : ∀ c d g n (L K : W.Ht) w0 w, Hv E c d g L K ev n w0 w → (ldE ⟨g, 0, none⟩).run Tryz.prog w = .ok (.agg (evCells ev)) w := fun c d g n L K w0 w h => h.ld
  clear hG hq
  simp only [cond_true, cond_false, efCells, W.Ef.no] at hR
  have hmk : ∀ c d g n w0 w, HAt c (W.H0 0 4096) w → HAt d (W.H0 0 4096) w → Tr E w → Below n w0 w → n ≤ w.heap.size → n ≤ c → n ≤ d → c ≠ d → g < n → w.heap[g]? = some (.cells (evCells ev) 27) → Hv E c d g (W.H0 0 4096) (W.H0 0 4096) ev n w0 w := fun c d g n w0 w a1 a2 a3 a4 a5 a6 a7 a8 a9 a10 => ⟨a1, a2, a3, a4, a5, a6, a7, a8, a9, a10⟩
  generalize hRR : W.rrun (W.H0 0 4096) ev 0 (fun _ => (0 : Int)) (fun _ => (0 : Int)) 0 (fun _ => (0 : Int)) (fun _ => (0 : Int)) = rr at *
  generalize evCells ev = ES at *
  simp only [evCells] at hRG hEv hSm hlg hln
  generalize W.H0 0 4096 = h0 at *
  have HH : Hid (_ ∧ _ ∧ _ ∧ _ ∧ _ ∧ _ ∧ _ ∧ _ ∧ _ ∧ _ ∧ _ ∧ _ ∧ _ ∧ _ ∧ _ ∧ _) := ⟨hF, hN, hC, hR, hvs, hv2, hmk, c6, c7, hT, hRG, hEv, hSm, hv3, hlg, hK⟩
  clear hF hN hC hR hvs hv2 hmk c6 c7 hok hT hRG hEv hSm hv3 hlg hK
  go_enter Tryz.func4, Tryz.ntmps4
  go_wp2_with (fail)
  refine (HH.out.1 _ (hE.below (hB _))).mono ?_
  rintro e w1 ⟨rfl, b1⟩
  have B1 := (hB (.cells ES 27)).trans (b1.mono (by simp))
  have gg : w1.heap[w.heap.size]? = some (.cells ES 27) := (b1.block w.heap.size (by simp)).trans (heap_alloc_last w _)
  have gl : w.heap.size < w1.heap.size := (Array.getElem?_eq_some_iff.1 gg).1
  have e6 : w1.cell? ⟨w.heap.size, 6, none⟩ = some (.slice ev.fw.a 0 ev.fw.c) := by simp only [World.cell?, gg]; exact HH.out.2.2.2.2.2.2.2.1
  have e7 : w1.cell? ⟨w.heap.size, 7, none⟩ = some (.slice ev.wk.a 0 ev.wk.c) := by simp only [World.cell?, gg]; exact HH.out.2.2.2.2.2.2.2.2.1
  have T1 := hE.below B1
  go_wp2_with (fail)
  refine (HH.out.2.1 _).mono ?_
  rintro e w2 ⟨c, hc, rfl, k2, b2⟩
  have l2 := k2.lt
  go_wp2_with (fail)
  refine (HH.out.2.2.1 c _ k2).mono ?_
  rintro e w3 ⟨rfl, kd, b3⟩
  have S3 := HH.out.2.2.2.2.2.2.1 c w2.heap.size w.heap.size w1.heap.size w1 w3 (k2.below b3) kd ((T1.below b2).below b3) (b2.trans (b3.mono b2.size)) (Nat.le_trans b2.size b3.size) hc b2.size (by omega) gl ((b3.block _ (Nat.lt_of_lt_of_le gl b2.size)).trans ((b2.block _ gl).trans gg))
  clear k2 kd b3 e6 e7
  have ld3 := HH.out.2.2.2.2.1 _ _ _ _ _ _ S3
  have g3 : w.heap.size < w3.heap.size := Nat.lt_of_lt_of_le gl S3.s
  go_wp2_with (fail)
  refine (HH.out.2.2.2.1 c _ S3.k S3.t).mono ?_
  rintro e w4 ⟨rfl, k4, g4⟩
  have S4 := S3.stepc k4 g4
  clear k4 g4 ld3 S3
  have ld4 := fun o => HH.out.2.2.2.2.2.1 _ _ _ _ _ _ _ (S4.alloc o)
  have g4 : w.heap.size < w4.heap.size := Nat.lt_of_lt_of_le gl S4.s
  go_wp2_with (fail)
  refine (HH.out.2.2.2.2.2.2.2.2.2.2.2.1 _).mono ?_
  rintro e w5 ⟨⟨x, y, rfl⟩, b5⟩
  have S5 := (S4.alloc _).below b5
  clear S4 ld4 b5
  have ld5 := fun o => HH.out.2.2.2.2.2.1 _ _ _ _ _ _ _ (S5.alloc o)
  have g5 : w.heap.size < w5.heap.size := Nat.lt_of_lt_of_le gl S5.s
  go_wp2_with (fail)
  refine (HH.out.2.2.2.2.2.2.2.2.2.1 _).mono ?_
  rintro e w' ⟨rfl, rfl⟩
  go_wp2_with (fail)
  refine (HH.out.2.2.2.2.2.2.2.2.2.2.2.2.2.2.2 _).mono ?_
  rintro e w' ⟨rfl, rfl⟩
  have hn5 := hln w5 x y
  go_wp2_with (fail)
  refine (HH.out.2.2.2.2.2.2.2.2.2.2.1 x y _ _ (S5.alloc _).kd (S5.alloc _).t).mono ?_
  rintro e w6 ⟨rfl, k6, g6⟩
  have S6 := (S5.alloc _).stepd k6 g6
  have hg6 : w6.heap[w5.heap.size]? = some (.cells #[.int .i64 kk, .int .u32 ev.pc, .int .u32 ev.wd, .int .u32 ev.fpa, .int .u32 ev.pa, .int .u32 ev.ld, .slice x 0 0, .slice y 0 0, .int .u32 ev.ca, .int .u32 ev.tv, .bool ev.dn, .int .i64 ev.fat, .int .i64 ev.at_] 27) := (g6.block w5.heap.size (by simp) (by have := S5.kd.lt; simp; omega)).trans (heap_alloc_last w5 _)
  have hl6 : w5.heap.size < w6.heap.size := (Array.getElem?_eq_some_iff.1 hg6).1
  have lg6 := fun o => HH.out.2.2.2.2.2.2.2.2.2.2.2.2.2.2.1 x y w5.heap.size (w6.alloc o).drew (((Below.refl _ _).alloc (Nat.le_refl _) o).block w5.heap.size hl6 |>.trans hg6)
  have ld6 := fun o => HH.out.2.2.2.2.2.2.2.2.2.2.2.2.2.1 _ _ _ _ _ _ _ _ ((S6.alloc o).below (Below.refl _ _).drew)
  clear k6 g6 hn5 ld5 hln
  go_wp2_with (fail)
  go_region_held3 (fun w' => (ldE ⟨w5.heap.size, 0, none⟩).run Tryz.prog w' = .ok (.agg #[.int .i64 kk, .int .u32 ev.pc, .int .u32 ev.wd, .int .u32 ev.fpa, .int .u32 ev.pa, .int .u32 ev.ld, .slice x 0 0, .slice y 0 0, .int .u32 ev.ca, .int .u32 ev.tv, .bool ev.dn, .int .i64 ev.fat, .int .i64 ev.at_]) w' ∧ (ldE ⟨w.heap.size, 0, none⟩).run Tryz.prog w' = .ok (.agg ES) w')
    (first
      | (refine ⟨?_, ?_⟩; exact lg6 _; exact ld6 _)
      | exact ⟨HH.out.2.2.2.2.2.2.2.2.2.2.2.2.2.2.1 x y w5.heap.size w7 ((b7.block w5.heap.size (by simp; omega)).trans (((Below.refl _ _).alloc (Nat.le_refl _) _).block w5.heap.size hl6 |>.trans hg6)), HH.out.2.2.2.2.2.2.2.2.2.2.2.2.2.1 _ _ _ _ _ _ _ _ (((S6.alloc _).below (Below.refl _ _).drew).below b7)⟩)
    ((go_at_call 22; refine (HH.out.2.2.2.2.2.2.2.2.2.2.2.2.1 x y _).mono ?_; rintro e w7 ⟨rfl, b7⟩))
  all_goals
    go_wp2
    go_ret
    exact ⟨rfl, B1.trans (((((S6.alloc _).below (Below.refl _ _).drew).below b7).b).mono B1.size)⟩
end Go.Proofs.YteilpehekabccaaGreatDoor

/- HartBent, walked: a step, turned. -/
namespace Go.Proofs.YteilpehekabccaaGreatDoor
open Go.ChangeShapes Go.WideShapes Go.ChangeAt Go.RowKit
set_option linter.unusedVariables false
set_option linter.unusedSimpArgs false

attribute [local go_sem ↓] ldE_eq
set_option maxRecDepth 100000 in
set_option maxHeartbeats 1000000 in
theorem hb_Kf (E : Addr) (ev : W.Ev) (at' v : Int) (hwd : W.Rg ev.wd) (f0 : ev.fw.n = 0) (w0 : ev.wk.n = 0) (hok : (!((W.rrun (W.H0 0 4096) ev 0 (fun _ => (0 : Int)) (fun _ => (0 : Int)) 0 (fun _ => (0 : Int)) (fun _ => (0 : Int))).w.k == 0) && W.sameE ev (W.rrun (W.H0 0 4096) ev 0 (fun _ => (0 : Int)) (fun _ => (0 : Int)) 0 (fun _ => (0 : Int)) (fun _ => (0 : Int))).w) = true) (kk : Int) (v0 : 0 ≤ v) (v1 : v < 4294967296) (hT : ∀ w, Calls Tryz.prog 19 #[.int .i64 at', .int .i64 5] w fun z w' => z = .returned (.int .i64 4) ∧ w = w') (hK : ∀ w, Calls Tryz.prog 19 #[.int .i64 v, .int .i64 5] w fun z w' => z = .returned (.int .i64 kk) ∧ w = w') (hq : W.likeB (({ ev with fw := W.Sl.nil, wk := W.Sl.nil, k := kk } : W.Ev)) ev = false) (w : World) (hE : Tr E w) :
    Calls Tryz.prog 4 #[.agg (evCells ev), .int .i64 at', .int .u32 v] w fun e w' => e = .returned (.bool true) ∧ Below w.heap.size w w' := by
  have hF := fun w1 (k : Tr E w1) => first10_any E w1 k
  have hN := hnew_any 0 4096
  have hC := fun c w1 (k : HAt c (W.H0 0 4096) w1) => clone_any c (W.H0 0 4096) w1 k
  have hR := fun c w1 (k : HAt c (W.H0 0 4096) w1) (t : Tr E w1) => replay_e c (W.H0 0 4096) ev E (H0_ok 0 4096) hwd f0 w0 true _ rfl hok w1 k t
  have hB : ∀ o : Obj, Below w.heap.size w (w.alloc o) := fun o => (Below.refl _ _).alloc (Nat.le_refl _) _
  have c6 : (evCells ev)[6]? = some (.slice ev.fw.a 0 ev.fw.c) := by rw [← f0]; rfl
  have c7 : (evCells ev)[7]? = some (.slice ev.wk.a 0 ev.wk.c) := by rw [← w0]; rfl
  have hvs : ∀ c d g n w0 w, Hv E c d g (W.H0 0 4096) (W.H0 0 4096) ev n w0 w → (ldE ⟨g, 0, none⟩).run Tryz.prog w = .ok (.agg (evCells ev)) w := fun c d g n w0 w h => h.ld
  have hv2 : ∀ c d g n (L : W.Ht) w0 w, Hv E c d g L (W.H0 0 4096) ev n w0 w → (ldE ⟨g, 0, none⟩).run Tryz.prog w = .ok (.agg (evCells ev)) w := fun c d g n L w0 w h => h.ld
  have hG : ∀ x y : Option Addr, (!((W.rrun (W.H0 0 4096) ({ ev with fw := ⟨x, 0, 0⟩, wk := ⟨y, 0, 0⟩, k := kk } : W.Ev) 0 (fun _ => (0 : Int)) (fun _ => (0 : Int)) 0 (fun _ => (0 : Int)) (fun _ => (0 : Int))).w.k == 0) && W.sameE ({ ev with fw := ⟨x, 0, 0⟩, wk := ⟨y, 0, 0⟩, k := kk } : W.Ev) (W.rrun (W.H0 0 4096) ({ ev with fw := ⟨x, 0, 0⟩, wk := ⟨y, 0, 0⟩, k := kk } : W.Ev) 0 (fun _ => (0 : Int)) (fun _ => (0 : Int)) 0 (fun _ => (0 : Int)) (fun _ => (0 : Int))).w) = false := fun x y => by
    rw [← hq]
    exact W.bent_law (W.H0 0 4096) (by decide +kernel) ev ({ ev with fw := ⟨x, 0, 0⟩, wk := ⟨y, 0, 0⟩, k := kk } : W.Ev) f0 w0 rfl rfl rfl rfl rfl 0 (fun _ => (0 : Int)) (fun _ => (0 : Int)) 0 (fun _ => (0 : Int)) (fun _ => (0 : Int)) hok
  have hRG := fun (x y : Option Addr) d w1 (k : HAt d (W.H0 0 4096) w1) (t : Tr E w1) => replay_e d (W.H0 0 4096) ({ ev with fw := ⟨x, 0, 0⟩, wk := ⟨y, 0, 0⟩, k := kk } : W.Ev) E (H0_ok 0 4096) hwd rfl rfl false _ rfl (hG x y) w1 k t
  simp only [cond_true, cond_false, efCells, W.Ef.no] at hRG
  have hEv := fun w => event_0 ev f0 w0 w
  have hSm : ∀ (x y : Option Addr) w, Calls Tryz.prog 22 #[.agg (evCells ({ ev with fw := ⟨x, 0, 0⟩, wk := ⟨y, 0, 0⟩, k := kk } : W.Ev)), .agg (evCells ev)] w fun z w' => z = .returned (.bool false) ∧ Below w.heap.size w w' := fun x y w => by
    have h := samee_0 ({ ev with fw := ⟨x, 0, 0⟩, wk := ⟨y, 0, 0⟩, k := kk } : W.Ev) ev rfl rfl f0 w0 w
    have e : ((ev.fat == ev.fat) && ((ev.at_ == ev.at_) && W.likeE ({ ev with fw := ⟨x, 0, 0⟩, wk := ⟨y, 0, 0⟩, k := kk } : W.Ev) ev)) = false := by
      rw [like_eq]
      have : W.likeB ({ ev with fw := ⟨x, 0, 0⟩, wk := ⟨y, 0, 0⟩, k := kk } : W.Ev) ev = false := hq
      rw [this]
      simp
    exact h.mono fun z w' ⟨h1, h2⟩ => ⟨h1.trans (by rw [← e]), h2⟩
  have hlg : ∀ (x y : Option Addr) g w, w.heap[g]? = some (.cells (evCells ({ ev with fw := ⟨x, 0, 0⟩, wk := ⟨y, 0, 0⟩, k := kk } : W.Ev)) 27) → (ldE ⟨g, 0, none⟩).run Tryz.prog w = .ok (.agg (evCells ({ ev with fw := ⟨x, 0, 0⟩, wk := ⟨y, 0, 0⟩, k := kk } : W.Ev))) w := fun x y g w h => ev_load h
  have hln : ∀ (W9 : World) (x y : Option Addr), (ldE ⟨W9.heap.size, 0, none⟩).run Tryz.prog (W9.alloc (.cells (evCells ({ ev with fw := ⟨x, 0, 0⟩, wk := ⟨y, 0, 0⟩, k := kk } : W.Ev)) 27)) = .ok (.agg (evCells ({ ev with fw := ⟨x, 0, 0⟩, wk := ⟨y, 0, 0⟩, k := kk } : W.Ev))) (W9.alloc (.cells (evCells ({ ev with fw := ⟨x, 0, 0⟩, wk := ⟨y, 0, 0⟩, k := kk } : W.Ev)) 27)) := fun W9 x y => ev_load (heap_alloc_last W9 _)
  have hv3 : ∀ c d g n (L K : W.Ht) w0 w, Hv E c d g L K ev n w0 w → (ldE ⟨g, 0, none⟩).run Tryz.prog w = .ok (.agg (evCells ev)) w := fun c d g n L K w0 w h => h.ld
  clear hG hq
  simp only [cond_true, cond_false, efCells, W.Ef.no] at hR
  have hmk : ∀ c d g n w0 w, HAt c (W.H0 0 4096) w → HAt d (W.H0 0 4096) w → Tr E w → Below n w0 w → n ≤ w.heap.size → n ≤ c → n ≤ d → c ≠ d → g < n → w.heap[g]? = some (.cells (evCells ev) 27) → Hv E c d g (W.H0 0 4096) (W.H0 0 4096) ev n w0 w := fun c d g n w0 w a1 a2 a3 a4 a5 a6 a7 a8 a9 a10 => ⟨a1, a2, a3, a4, a5, a6, a7, a8, a9, a10⟩
  generalize hRR : W.rrun (W.H0 0 4096) ev 0 (fun _ => (0 : Int)) (fun _ => (0 : Int)) 0 (fun _ => (0 : Int)) (fun _ => (0 : Int)) = rr at *
  generalize evCells ev = ES at *
  simp only [evCells] at hRG hEv hSm hlg hln
  generalize W.H0 0 4096 = h0 at *
  have HH : Hid (_ ∧ _ ∧ _ ∧ _ ∧ _ ∧ _ ∧ _ ∧ _ ∧ _ ∧ _ ∧ _ ∧ _ ∧ _ ∧ _ ∧ _ ∧ _) := ⟨hF, hN, hC, hR, hvs, hv2, hmk, c6, c7, hT, hRG, hEv, hSm, hv3, hlg, hK⟩
  clear hF hN hC hR hvs hv2 hmk c6 c7 hok hT hRG hEv hSm hv3 hlg hK
  go_enter Tryz.func4, Tryz.ntmps4
  go_wp2_with (fail)
  refine (HH.out.1 _ (hE.below (hB _))).mono ?_
  rintro e w1 ⟨rfl, b1⟩
  have B1 := (hB (.cells ES 27)).trans (b1.mono (by simp))
  have gg : w1.heap[w.heap.size]? = some (.cells ES 27) := (b1.block w.heap.size (by simp)).trans (heap_alloc_last w _)
  have gl : w.heap.size < w1.heap.size := (Array.getElem?_eq_some_iff.1 gg).1
  have e6 : w1.cell? ⟨w.heap.size, 6, none⟩ = some (.slice ev.fw.a 0 ev.fw.c) := by simp only [World.cell?, gg]; exact HH.out.2.2.2.2.2.2.2.1
  have e7 : w1.cell? ⟨w.heap.size, 7, none⟩ = some (.slice ev.wk.a 0 ev.wk.c) := by simp only [World.cell?, gg]; exact HH.out.2.2.2.2.2.2.2.2.1
  have T1 := hE.below B1
  go_wp2_with (fail)
  refine (HH.out.2.1 _).mono ?_
  rintro e w2 ⟨c, hc, rfl, k2, b2⟩
  have l2 := k2.lt
  go_wp2_with (fail)
  refine (HH.out.2.2.1 c _ k2).mono ?_
  rintro e w3 ⟨rfl, kd, b3⟩
  have S3 := HH.out.2.2.2.2.2.2.1 c w2.heap.size w.heap.size w1.heap.size w1 w3 (k2.below b3) kd ((T1.below b2).below b3) (b2.trans (b3.mono b2.size)) (Nat.le_trans b2.size b3.size) hc b2.size (by omega) gl ((b3.block _ (Nat.lt_of_lt_of_le gl b2.size)).trans ((b2.block _ gl).trans gg))
  clear k2 kd b3 e6 e7
  have ld3 := HH.out.2.2.2.2.1 _ _ _ _ _ _ S3
  have g3 : w.heap.size < w3.heap.size := Nat.lt_of_lt_of_le gl S3.s
  go_wp2_with (fail)
  refine (HH.out.2.2.2.1 c _ S3.k S3.t).mono ?_
  rintro e w4 ⟨rfl, k4, g4⟩
  have S4 := S3.stepc k4 g4
  clear k4 g4 ld3 S3
  have ld4 := fun o => HH.out.2.2.2.2.2.1 _ _ _ _ _ _ _ (S4.alloc o)
  have g4 : w.heap.size < w4.heap.size := Nat.lt_of_lt_of_le gl S4.s
  go_wp2_with (fail)
  refine (HH.out.2.2.2.2.2.2.2.2.2.2.2.1 _).mono ?_
  rintro e w5 ⟨⟨x, y, rfl⟩, b5⟩
  have S5 := (S4.alloc _).below b5
  clear S4 ld4 b5
  have ld5 := fun o => HH.out.2.2.2.2.2.1 _ _ _ _ _ _ _ (S5.alloc o)
  have g5 : w.heap.size < w5.heap.size := Nat.lt_of_lt_of_le gl S5.s
  go_wp2_with (fail)
  refine (HH.out.2.2.2.2.2.2.2.2.2.1 _).mono ?_
  rintro e w' ⟨rfl, rfl⟩
  go_wp2_with (fail)
  refine (HH.out.2.2.2.2.2.2.2.2.2.2.2.2.2.2.2 _).mono ?_
  rintro e w' ⟨rfl, rfl⟩
  have hn5 := hln w5 x y
  go_wp2_with (fail)
  refine (HH.out.2.2.2.2.2.2.2.2.2.2.1 x y _ _ (S5.alloc _).kd (S5.alloc _).t).mono ?_
  rintro e w6 ⟨rfl, k6, g6⟩
  have S6 := (S5.alloc _).stepd k6 g6
  have hg6 : w6.heap[w5.heap.size]? = some (.cells #[.int .i64 kk, .int .u32 ev.pc, .int .u32 ev.wd, .int .u32 ev.fpa, .int .u32 ev.pa, .int .u32 ev.ld, .slice x 0 0, .slice y 0 0, .int .u32 ev.ca, .int .u32 ev.tv, .bool ev.dn, .int .i64 ev.fat, .int .i64 ev.at_] 27) := (g6.block w5.heap.size (by simp) (by have := S5.kd.lt; simp; omega)).trans (heap_alloc_last w5 _)
  have hl6 : w5.heap.size < w6.heap.size := (Array.getElem?_eq_some_iff.1 hg6).1
  have lg6 := fun o => HH.out.2.2.2.2.2.2.2.2.2.2.2.2.2.2.1 x y w5.heap.size (w6.alloc o).drew (((Below.refl _ _).alloc (Nat.le_refl _) o).block w5.heap.size hl6 |>.trans hg6)
  have ld6 := fun o => HH.out.2.2.2.2.2.2.2.2.2.2.2.2.2.1 _ _ _ _ _ _ _ _ ((S6.alloc o).below (Below.refl _ _).drew)
  clear k6 g6 hn5 ld5 hln
  go_wp2_with (fail)
  go_region_held3 (fun w' => (ldE ⟨w5.heap.size, 0, none⟩).run Tryz.prog w' = .ok (.agg #[.int .i64 kk, .int .u32 ev.pc, .int .u32 ev.wd, .int .u32 ev.fpa, .int .u32 ev.pa, .int .u32 ev.ld, .slice x 0 0, .slice y 0 0, .int .u32 ev.ca, .int .u32 ev.tv, .bool ev.dn, .int .i64 ev.fat, .int .i64 ev.at_]) w' ∧ (ldE ⟨w.heap.size, 0, none⟩).run Tryz.prog w' = .ok (.agg ES) w')
    (first
      | (refine ⟨?_, ?_⟩; exact lg6 _; exact ld6 _)
      | exact ⟨HH.out.2.2.2.2.2.2.2.2.2.2.2.2.2.2.1 x y w5.heap.size w7 ((b7.block w5.heap.size (by simp; omega)).trans (((Below.refl _ _).alloc (Nat.le_refl _) _).block w5.heap.size hl6 |>.trans hg6)), HH.out.2.2.2.2.2.2.2.2.2.2.2.2.2.1 _ _ _ _ _ _ _ _ (((S6.alloc _).below (Below.refl _ _).drew).below b7)⟩)
    ((go_at_call 22; refine (HH.out.2.2.2.2.2.2.2.2.2.2.2.2.1 x y _).mono ?_; rintro e w7 ⟨rfl, b7⟩))
  all_goals
    go_wp2
    go_ret
    exact ⟨rfl, B1.trans (((((S6.alloc _).below (Below.refl _ _).drew).below b7).b).mono B1.size)⟩
end Go.Proofs.YteilpehekabccaaGreatDoor

/- HartBent, walked: it returns true, whatever the event, the place and the number. -/
namespace Go.Proofs.YteilpehekabccaaGreatDoor
open Go.ChangeShapes Go.WideShapes Go.ChangeAt Go.RowKit
set_option linter.unusedVariables false
set_option linter.unusedSimpArgs false

theorem hartbent_walk (E : Addr) (ev : W.Ev) (at' v : Int) (hwd : W.Rg ev.wd) (n0 : -9223372036854775808 ≤ at') (n1 : at' ≤ 9223372036854775807) (v0 : 0 ≤ v) (v1 : v < 4294967296) (w : World) (hE : Tr E w) :
    Calls Tryz.prog 4 #[.agg (evCells ev), .int .i64 at', .int .u32 v] w fun e w' => e = .returned (.bool true) ∧ Below w.heap.size w w' := by
  by_cases hf : 0 < ev.fw.n
  · obtain ⟨k, pc, wd, fpa, pa, ld, ⟨fa, fn, fc⟩, ⟨wa, wn, wc⟩, ca, tv, dn, fat, at_⟩ := ev
    exact hb_f E k pc wd fpa pa ld fa wa fn fc wn wc ca tv dn fat at_ at' v hf w hE
  · have f0 : ev.fw.n = 0 := by omega
    by_cases hk : 0 < ev.wk.n
    · obtain ⟨k, pc, wd, fpa, pa, ld, ⟨fa, fn, fc⟩, ⟨wa, wn, wc⟩, ca, tv, dn, fat, at_⟩ := ev
      exact hb_w E k pc wd fpa pa ld fa wa fn fc wn wc ca tv dn fat at_ at' v f0 hk w hE
    · have k0 : ev.wk.n = 0 := by omega
      cases hok : (!((W.rrun (W.H0 0 4096) ev 0 (fun _ => (0 : Int)) (fun _ => (0 : Int)) 0 (fun _ => (0 : Int)) (fun _ => (0 : Int))).w.k == 0) && W.sameE ev (W.rrun (W.H0 0 4096) ev 0 (fun _ => (0 : Int)) (fun _ => (0 : Int)) 0 (fun _ => (0 : Int)) (fun _ => (0 : Int))).w)
      · exact hb_n E ev at' v hwd f0 k0 hok w hE
      · have hT := fun w => number_any at' 5 n0 n1 (by decide) (by decide) w
        have hK := fun w => number_any v 5 (by omega) (by omega) (by decide) (by decide) w
        have j0 : at' % 5 = 0 ∨ at' % 5 = 1 ∨ at' % 5 = 2 ∨ at' % 5 = 3 ∨ at' % 5 = 4 := by omega
        rcases j0 with h | h | h | h | h <;> rw [h] at hT
        · cases hq : W.likeB ({ ev with fw := W.Sl.nil, wk := W.Sl.nil, pc := v } : W.Ev) ev
          · exact hb_Pf E ev at' v hwd f0 k0 hok hT hq w hE
          · exact hb_Pt E ev at' v hwd f0 k0 hok hT hq w hE
        · cases hq : W.likeB ({ ev with fw := W.Sl.nil, wk := W.Sl.nil, fpa := v } : W.Ev) ev
          · exact hb_Ff E ev at' v hwd f0 k0 hok hT hq w hE
          · exact hb_Ft E ev at' v hwd f0 k0 hok hT hq w hE
        · cases hq : W.likeB ({ ev with fw := W.Sl.nil, wk := W.Sl.nil, ca := v } : W.Ev) ev
          · exact hb_Cf E ev at' v hwd f0 k0 hok hT hq w hE
          · exact hb_Ct E ev at' v hwd f0 k0 hok hT hq w hE
        · cases hq : W.likeB ({ ev with fw := W.Sl.nil, wk := W.Sl.nil, tv := v } : W.Ev) ev
          · exact hb_Tf E ev at' v hwd f0 k0 hok hT hq w hE
          · exact hb_Tt E ev at' v hwd f0 k0 hok hT hq w hE
        · cases hq : W.likeB ({ ev with fw := W.Sl.nil, wk := W.Sl.nil, k := (v % 5) } : W.Ev) ev
          · exact hb_Kf E ev at' v hwd f0 k0 hok _ v0 v1 hT hK hq w hE
          · exact hb_Kt E ev at' v hwd f0 k0 hok _ v0 v1 hT hK hq w hE
end Go.Proofs.YteilpehekabccaaGreatDoor
