/- A file that is told anything. -/
import Derived.Test.YtbagmlcakmhhaaaCsrZ
import Derived.Deep.RegionHeld3
import Derived.Deep.CutRange
import Derived.Deep.CutBlock
namespace Go.Proofs.Ytbagmlcakmhhaaa
open Go.ChangeShapes Go.WideShapes Go.ChangeAt Go.RowKit
set_option linter.unusedVariables false
set_option linter.unusedSimpArgs false

theorem same_q (ba bx : Nat) (G1 : W.F) (wT wE : World) (hC : Below wT.heap.size wT wE) (hW : Wo ba G1 wT) (hx : At RT bx G1 wT) : Calls Try.prog 28 #[.slice (some ⟨ba, 0, none⟩) 10 10, .slice (some ⟨bx, 1, none⟩) 10 10] wE fun x w' => x = .returned (.bool true) ∧ Below wT.heap.size wT w' :=
  (same_any ba 0 bx 1 10 10 10 (wordAt G1) wE (by decide) (fun j hj => (hW.below hC).at_ j hj) (fun j hj => (hx.below hC).words j hj)).mono fun x w' ⟨a, k, hk⟩ => ⟨a, by rw [hk]; exact below_drewN hC k⟩
theorem same_r (n bw : Nat) (G : W.F) (wT wE : World) (hC : Below wT.heap.size wT wE) (hW : wE.heap[n]? = some (.cells (wordCells G) 24)) (h2 : Wo bw G wT) : Calls Try.prog 28 #[.slice (some ⟨n, 0, none⟩) 10 10, .slice (some ⟨bw, 0, none⟩) 10 10] wE fun x w' => x = .returned (.bool true) ∧ Below wT.heap.size wT w' :=
  (same_any n 0 bw 0 10 10 10 (wordAt G) wE (by decide) (fun j hj => Wo.at_ ⟨hW⟩ j hj) (fun j hj => (h2.below hC).at_ j hj)).mono fun x w' ⟨a, k, hk⟩ => ⟨a, by rw [hk]; exact below_drewN hC k⟩

theorem Wo.open0 {b : Nat} {G : W.F} {w : World} (h : Wo b G w) : w.cell? ⟨b, 0, none⟩ = some (.int .u32 G.satp) ∧ w.frozen? ⟨b, 0, none⟩ = false := by
  have e := h.out
  simp [World.cell?, World.frozen?, e, wordCells]
theorem Pl.of {w : World} {bf bx bd bk bw ba : Nat} {d : W.D} {G1 G : W.F} {wT wE : World} (h : Pw w bf bx bd bk bw d G1 G1 G wT) (hC : Below wT.heap.size wT wE) (hg : W.Good G1) (a1 : ba ≠ bf) (a2 : ba ≠ bx) (a3 : w.heap.size ≤ ba) (v : Value) : Pl w bf bx G1 (wE.setCell ⟨ba, 0, none⟩ v) :=
  ⟨(h.bel.trans (hC.mono h.bel.size)).setCell (by exact a3) v, (h.f.below hC).kept (gset _ _ _ _) (Ne.symm a1), (h.x.below hC).kept (gset _ _ _ _) (Ne.symm a2), h.lf, h.lx, h.fx, hg.m, hg.s0, hg.s1⟩

set_option maxRecDepth 100000 in
set_option maxHeartbeats 12800000 in
theorem plays_some (hart : Int) (b off len cap : Nat) (K N V U P : Nat → Int) (w : World) (hl : len ≤ 60) (hbB : b < w.heap.size)
    (hV : ∀ j, j < len → 0 ≤ V j ∧ V j < 4294967296)
    (e0 : ∀ j, j < len → w.cell? ⟨b, off + j * 5, none⟩ = some (.int .i64 (K j))) (e1 : ∀ j, j < len → w.cell? ⟨b, off + j * 5 + 1, none⟩ = some (.int .i64 (N j)))
    (e2 : ∀ j, j < len → w.cell? ⟨b, off + j * 5 + 2, none⟩ = some (.int .u32 (V j))) (e3 : ∀ j, j < len → w.cell? ⟨b, off + j * 5 + 3, none⟩ = some (.int .u32 (U j))) (e4 : ∀ j, j < len → w.cell? ⟨b, off + j * 5 + 4, none⟩ = some (.int .u32 (P j))) :
    Calls Try.prog 3 #[.int .i64 hart, .slice (some ⟨b, off, none⟩) len cap] w fun e w' => e = .returned (.bool true) ∧ Below w.heap.size w w' := by
  have hb : Below w.heap.size w w := Below.refl _ _
  go_enter Try.func3, Try.ntmps3
  go_wp2_with (first
    | (go_at_call 9; refine (from_ (first6_any _) hb).mono ?_; clear hb; rintro e w1 ⟨rfl, hb⟩)
    | (go_at_call 10; refine (from_ (new_any _ _) hb).mono ?_; clear hb; rintro e w2 ⟨rfl, hb⟩; unfold fileCells W.fnew))
  have hF := At.new (T := FT) (G := W.fnew hart) w2
  have hs2 := hb.size
  have hb' := hb.alloc hb.size (.cells (fileCells (W.fnew hart)) FT)
  refine (rnew_any _ _).mono ?_
  rintro e w3 ⟨rfl, hb3⟩
  have hF3 := hF.below hb3
  have hb4 := hb'.trans (hb3.mono (by simp; omega))
  have hlt3 := hF3.lt
  clear hF hb hb' hb3
  unfold fileCells W.fnew
  go_wp2_with fail
  generalize hW : World.alloc w3 _ = W3
  have hPl : Pl w w2.heap.size w3.heap.size (W.fnew hart) W3 := by
    rw [← hW]
    exact ⟨hb4.alloc hb4.size _, hF3.alloc _, At.new w3, hs2, hb4.size, by omega, (W.Good.new hart).m, (W.Good.new hart).s0, (W.Good.new hart).s1⟩
  clear hW hF3 hb4
  generalize w2.heap.size = bf at *
  generalize w3.heap.size = bx at *
  go_loopw [8] (fun i wr => ∃ k : Nat, k ≤ len ∧ i = .int .i64 k ∧ ∃ G, Pl w bf bx G wr) (fun i _ => len - (intOf i).toNat)
  case atStart => exact ⟨0, by omega, rfl, _, hPl⟩
  case round =>
    obtain ⟨k, hk, rfl, G, hP⟩ := hrel
    clear hPl
    by_cases hlt : k < len
    · have g0 : wr.cell? ⟨b, off + k * 5, none⟩ = some (.int .i64 (K k)) := (hP.bel.cell (by exact hbB)).trans (e0 k hlt)
      have g1 : wr.cell? ⟨b, off + k * 5 + 1, none⟩ = some (.int .i64 (N k)) := (hP.bel.cell (by exact hbB)).trans (e1 k hlt)
      have g2 : wr.cell? ⟨b, off + k * 5 + 2, none⟩ = some (.int .u32 (V k)) := (hP.bel.cell (by exact hbB)).trans (e2 k hlt)
      have g3 : wr.cell? ⟨b, off + k * 5 + 3, none⟩ = some (.int .u32 (U k)) := (hP.bel.cell (by exact hbB)).trans (e3 k hlt)
      have g4 : wr.cell? ⟨b, off + k * 5 + 4, none⟩ = some (.int .u32 (P k)) := (hP.bel.cell (by exact hbB)).trans (e4 k hlt)
      have hv := hV k hlt
      clear e0 e1 e2 e3 e4 hV
      generalize K k = dk at *
      generalize N k = dn at *
      generalize V k = dv at *
      generalize U k = du at *
      generalize P k = dp at *
      obtain ⟨c0, c1, c2, c3, c4, c5, c6, c7, c8, c9, c10, hz⟩ := hP.f.cells
      have hfl := hP.f.lt
      go_wp2_with fail
      have hK0 : At FT (wr.heap.size + 1) G ((wr.alloc (.cells (doCells ⟨dk, dn, dv, du, dp⟩) 33)).alloc (.cells (fileCells G) FT)) := by
        have := At.new (T := FT) (G := G) (wr.alloc (.cells (doCells ⟨dk, dn, dv, du, dp⟩) 33))
        rw [show (wr.alloc (.cells (doCells ⟨dk, dn, dv, du, dp⟩) 33)).heap.size = wr.heap.size + 1 from by simp] at this
        exact this
      have hbb : Below wr.heap.size wr ((wr.alloc (.cells (doCells ⟨dk, dn, dv, du, dp⟩) 33)).alloc (.cells (fileCells G) FT)) := ((Below.refl _ _).alloc (Nat.le_refl _) _).alloc (by simp) _
      have hD0 : Dt wr.heap.size ⟨dk, dn, dv, du, dp⟩ ((wr.alloc (.cells (doCells ⟨dk, dn, dv, du, dp⟩) 33)).alloc (.cells (fileCells G) FT)) := ⟨by show ((wr.heap.push _).push _)[wr.heap.size]? = _; rw [Array.getElem?_push, if_neg (by simp), Array.getElem?_push, if_pos rfl]⟩
      refine (all_any FT (wr.heap.size + 1) G _ hK0).mono ?_
      rintro e wA ⟨rfl, hWo, hbA⟩
      have hfb := hP.f.lt
      have hxb := hP.x.lt
      have hQ : Pw w bf bx wr.heap.size (wr.heap.size + 1) (wr.heap.size + 2) ⟨dk, dn, dv, du, dp⟩ G G G wA := by
        have q : ((wr.alloc (.cells (doCells ⟨dk, dn, dv, du, dp⟩) 33)).alloc (.cells (fileCells G) FT)).heap.size = wr.heap.size + 2 := by simp
        have hb2 : Below wr.heap.size wr wA := hbb.trans (hbA.mono (by omega))
        refine ⟨hP.bel.trans (hb2.mono hP.bel.size), hP.f.below hb2, hP.x.below hb2, hD0.below hbA, hK0.below hbA, ⟨?_⟩, hP.lf, hP.lx, hP.fx, by omega, by omega, by omega, by omega, by omega, by omega⟩
        rw [← q]
        exact hWo
      have hgood : W.Good G := ⟨hP.m, hP.s0, hP.s1⟩
      clear hK0 hbb hD0 hWo hbA hP g0 g1 g2 g3 g4 c0 c1 c2 c3 c4 c5 c6 c7 c8 c9 c10 hz hfl hfb hxb
      rw [show ((wr.alloc _).alloc _).heap.size = wr.heap.size + 2 from by simp]
      generalize wr.heap.size + 2 = bw at *
      generalize wr.heap.size + 1 = bk at *
      generalize wr.heap.size = bd at *
      obtain ⟨d0, d1, d2, d3, d4⟩ := hQ.d.cells
      simp only at d0 d1 d2 d3 d4
      go_upto_block 2 with fail
      go_cut [12, 13, 14, 15] from 35 to 157 (fun _ _ _ _ wx => ∃ G', Pw w bf bx bd bk bw ⟨dk, dn, dv, du, dp⟩ G' G' G wx ∧ W.Good G')
      case first =>
        have v0 := hv.1
        have v1 := hv.2
        cases k1 : (dk == 1)
        case true =>
          go_wp2_with fail
          have hQd := hQ.drew
          obtain ⟨d0', d1', d2', d3', d4'⟩ := hQd.d.cells
          simp only at d0' d1' d2' d3' d4'
          go_region_held3 (fun w' => w'.cell? ⟨bd, 1, none⟩ = some (.int .i64 dn) ∧ w'.cell? ⟨bd, 2, none⟩ = some (.int .u32 dv))
            (first | (refine ⟨?_, ?_⟩ <;> assumption) | go_keep)
            (first
              | (go_at_call 13; refine (set_any FT bf G dn dv _ (by exact ⟨hQ.f.out⟩)).mono ?_; rintro e wB ⟨rfl, hA1, hg1⟩; have hQ1 := hQd.onF hA1 hg1; obtain ⟨p0, p1, p2, p3, p4⟩ := hQ1.d.cells; simp only at p0 p1 p2 p3 p4)
              | (go_at_call 14; refine (rset_any bx G dn dv v0 v1 _ (by exact ⟨hQ1.x.out⟩)).mono ?_; rintro e wC ⟨rfl, hA2, hg2⟩; have hQ2 := hQ1.onX hA2 hg2; obtain ⟨q0, q1, q2, q3, q4⟩ := hQ2.d.cells; simp only at q0 q1 q2 q3 q4))
          all_goals
            go_wp2
            go_meet
            case rel => exact ⟨_, hQ2, hgood.set dn dv v0 v1⟩
        cases k2 : (dk == 2)
        case true =>
          go_wp2_with (first
            | (go_at_call 15; refine (bell_any FT bf G _ _ hQ.f).mono ?_; rintro e wB ⟨rfl, hA1, hg1⟩; have hQ1 := hQ.onF hA1 hg1; clear d0 d1 d2 d3 d4; obtain ⟨d0, d1, d2, d3, d4⟩ := hQ1.d.cells; simp only at d0 d1 d2 d3 d4)
            | (go_at_call 16; refine (rbell_any bx G _ _ hQ1.x).mono ?_; rintro e wC ⟨rfl, hA2, hg2⟩; have hQ2 := hQ1.onX hA2 hg2))
          go_meet
          case rel => exact ⟨_, hQ2, hgood.bell _⟩
        cases k3 : (dk == 3)
        case true =>
          go_wp2_with fail
          have hQd := hQ.drew
          obtain ⟨d0', d1', d2', d3', d4'⟩ := hQd.d.cells
          simp only at d0' d1' d2' d3' d4'
          go_region_held3 (fun w' => w'.cell? ⟨bd, 2, none⟩ = some (.int .u32 dv) ∧ w'.cell? ⟨bd, 3, none⟩ = some (.int .u32 du) ∧ w'.cell? ⟨bd, 4, none⟩ = some (.int .u32 dp))
            (first | (refine ⟨?_, ?_, ?_⟩ <;> assumption) | go_keep)
            (first
              | (go_at_call 17; refine (trap_any FT bf G dv du dp _ (by exact ⟨hQ.f.out⟩)).mono ?_; rintro e wB ⟨rfl, hA1, hg1⟩; have hQ1 := hQd.onF hA1 hg1; obtain ⟨p0, p1, p2, p3, p4⟩ := hQ1.d.cells; simp only at p0 p1 p2 p3 p4)
              | (go_at_call 18; refine (rtrap_any bx G dv du dp _ (by exact ⟨hQ1.x.out⟩) hgood.s0 hgood.s1 hgood.m).mono ?_; rintro e wC ⟨rfl, hA2, hg2⟩; have hQ2 := hQ1.onX hA2 hg2; obtain ⟨q0, q1, q2, q3, q4⟩ := hQ2.d.cells; simp only at q0 q1 q2 q3 q4))
          all_goals
            go_wp2
            go_meet
            case rel => exact ⟨_, hQ2, hgood.trap dv du dp⟩
        cases k4 : (dk == 4)
        case true =>
          go_wp2_with (first
            | (go_at_call 19; refine (return_any FT bf G _ hQ.f).mono ?_; rintro e wB ⟨rfl, hA1, hg1⟩; have hQ1 := hQ.onF hA1 hg1)
            | (go_at_call 20; refine (rret_any bx G _ hQ1.x hgood.s0 hgood.s1).mono ?_; rintro e wC ⟨rfl, hA2, hg2⟩; have hQ2 := hQ1.onX hA2 hg2))
          go_meet
          case rel => exact ⟨_, hQ2, hgood.fret⟩
        obtain ⟨x0, x1, x2, x3, x4, x5, x6, x7, x8, x9, x10, xz⟩ := hQ.x.cells
        have xlt := hQ.x.lt
        go_wp2_with (first
          | (go_at_call 21; refine (get_any FT bf G _ _ hQ.f).mono ?_; rintro e wB ⟨rfl, rfl⟩)
          | (go_at_call 22; refine (rget_any G _ _).mono ?_; rintro e wC ⟨rfl, hb2⟩; have hQ2 := hQ.below hb2))
        go_meet
        case rel => exact ⟨_, hQ2, hgood⟩
      case rest =>
        obtain ⟨G1, hQ1, hg1⟩ := hcut
        clear hQ hgood d0 d1 d2 d3 d4
        obtain ⟨x0, x1, x2, x3, x4, x5, x6, x7, x8, x9, x10, xz⟩ := hQ1.x.cells
        have xlt := hQ1.x.lt
        have hpv : W.pendV G1 = bif W.pend G1 then 2147483651 else 0 := rfl
        have s0 := hg1.s0
        have s1 := hg1.s1
        cases hp : W.pend G1
        all_goals
          rw [hp] at hpv
          simp only [cond_true, cond_false] at hpv
          go_wp2_with (first
            | (go_at_call 23; refine (pending_any FT bf G1 _ hQ1.f).mono ?_; rintro e wP ⟨rfl, hbP⟩; have hQ2 := hQ1.below hbP; clear x0 x1 x2 x3 x4 x5 x6 x7 x8 x9 x10 xz xlt; obtain ⟨x0, x1, x2, x3, x4, x5, x6, x7, x8, x9, x10, xz⟩ := hQ2.x.cells; have xlt := hQ2.x.lt; rw [hpv, hp])
            | (go_at_call 24; refine (rpending_any G1 s0 s1 _).mono ?_; rintro e wR ⟨rfl, hbR⟩; have hQ3 := hQ2.below hbR; rw [hp])
            | (go_at_call 12; refine (all_any FT bf G1 _ hQ3.f).mono ?_; rintro e wT ⟨rfl, hWo, hbT⟩))
          have hQT := hQ3.below hbT
          have hWoT : Wo wR.heap.size G1 wT := ⟨hWo⟩
          have a1 : wR.heap.size ≠ bf := by have := hQ3.f.lt; omega
          have a2 : wR.heap.size ≠ bx := by have := hQ3.x.lt; omega
          have a3 : w.heap.size ≤ wR.heap.size := hQ3.bel.size
          clear hWo hbT hQ3 hQ2 hQ1 x0 x1 x2 x3 x4 x5 x6 x7 x8 x9 x10 xz xlt
          generalize wR.heap.size = ba at *
          have hC : Below wT.heap.size wT wT.drew := (Below.refl _ _).drew
          obtain ⟨x0, x1, x2, x3, x4, x5, x6, x7, x8, x9, x10, xz⟩ := (hQT.x.below hC).cells
          have xlt := (hQT.x.below hC).lt
          go_region_held3 (fun w' => w'.cell? ⟨bx, 0, none⟩ = some (.int .i64 G1.m) ∧ w'.cell? ⟨bx, 1, none⟩ = some (.int .u32 G1.satp) ∧ w'.cell? ⟨bx, 2, none⟩ = some (.int .u32 G1.st) ∧ w'.cell? ⟨bx, 3, none⟩ = some (.int .u32 G1.mie) ∧ w'.cell? ⟨bx, 4, none⟩ = some (.int .u32 G1.tvec) ∧ w'.cell? ⟨bx, 5, none⟩ = some (.int .u32 G1.scr) ∧ w'.cell? ⟨bx, 6, none⟩ = some (.int .u32 G1.epc) ∧ w'.cell? ⟨bx, 7, none⟩ = some (.int .u32 G1.cause) ∧ w'.cell? ⟨bx, 8, none⟩ = some (.int .u32 G1.tval) ∧ w'.cell? ⟨bx, 9, none⟩ = some (.int .u32 G1.mip) ∧ w'.cell? ⟨bx, 10, none⟩ = some (.int .u32 G1.hart))
            (first | (refine ⟨?_, ?_, ?_, ?_, ?_, ?_, ?_, ?_, ?_, ?_, ?_⟩ <;> assumption) | go_keep)
            (first
              | (go_at_call 24; refine (rpending_any G1 s0 s1 _).mono ?_; rintro e wE ⟨rfl, hbE⟩; replace hC : Below wT.heap.size wT wE := hC.trans (hbE.mono hC.size); clear x0 x1 x2 x3 x4 x5 x6 x7 x8 x9 x10 xz xlt; obtain ⟨x0, x1, x2, x3, x4, x5, x6, x7, x8, x9, x10, xz⟩ := (hQT.x.below hC).cells; have xlt := (hQT.x.below hC).lt; rw [hp])
              | (go_at_call 25; refine (mode_any FT bf G1 _ (hQT.f.below hC)).mono ?_; rintro e wE ⟨rfl, rfl⟩)
              | (go_at_call 26; refine (satp_any FT bf G1 _ (hQT.f.below hC)).mono ?_; rintro e wE ⟨rfl, rfl⟩)
              | (go_at_call 27; refine (rreg_g G1 384 G1.satp rfl rfl _).mono ?_; rintro e wE ⟨rfl, hbE⟩; replace hC : Below wT.heap.size wT wE := hC.trans (hbE.mono hC.size); clear x0 x1 x2 x3 x4 x5 x6 x7 x8 x9 x10 xz xlt; obtain ⟨x0, x1, x2, x3, x4, x5, x6, x7, x8, x9, x10, xz⟩ := (hQT.x.below hC).cells; have xlt := (hQT.x.below hC).lt)
              | (go_at_call_of 28 (Value.slice (some ⟨ba, 0, none⟩) 10 10); refine (same_q ba bx G1 wT _ hC hWoT hQT.x).mono ?_; clear hC; rintro e wE ⟨rfl, hC⟩; clear x0 x1 x2 x3 x4 x5 x6 x7 x8 x9 x10 xz xlt; obtain ⟨x0, x1, x2, x3, x4, x5, x6, x7, x8, x9, x10, xz⟩ := (hQT.x.below hC).cells; have xlt := (hQT.x.below hC).lt)
              | (go_at_call 12; refine (all_any FT bk G _ (hQT.k.below hC)).mono ?_; rintro e wH ⟨rfl, hWoH, hbH⟩; replace hC : Below wT.heap.size wT wH := hC.trans (hbH.mono hC.size); clear x0 x1 x2 x3 x4 x5 x6 x7 x8 x9 x10 xz xlt; obtain ⟨x0, x1, x2, x3, x4, x5, x6, x7, x8, x9, x10, xz⟩ := (hQT.x.below hC).cells; have xlt := (hQT.x.below hC).lt)
              | (go_at_call_of 28 (Value.slice (some ⟨bw, 0, none⟩) 10 10); refine (same_r _ bw G wT _ hC (by exact hWoH) hQT.wo).mono ?_; clear hC; rintro e wE ⟨rfl, hC⟩; clear x0 x1 x2 x3 x4 x5 x6 x7 x8 x9 x10 xz xlt; obtain ⟨x0, x1, x2, x3, x4, x5, x6, x7, x8, x9, x10, xz⟩ := (hQT.x.below hC).cells; have xlt := (hQT.x.below hC).lt))
          all_goals
            obtain ⟨y0, yz⟩ := (hWoT.below hC).open0
            have ylt := (hWoT.below hC).lt
            go_wp2
            go_roundw
            case rel => exact ⟨k + 1, by omega, by go_num, G1, Pl.of hQT hC hg1 a1 a2 a3 _⟩
            case measure => simp [intOf]; omega
    · go_wp2
      go_ret
      exact ⟨rfl, hP.bel⟩

theorem plays_empty (hart : Int) (a : Option Addr) (cap : Nat) (w : World) : Calls Try.prog 3 #[.int .i64 hart, .slice a 0 cap] w fun e w' => e = .returned (.bool true) ∧ Below w.heap.size w w' := by
  have hb : Below w.heap.size w w := Below.refl _ _
  go_enter Try.func3, Try.ntmps3
  go_wp2_with (first
    | (go_at_call 9; refine (from_ (first6_any _) hb).mono ?_; clear hb; rintro e w1 ⟨rfl, hb⟩)
    | (go_at_call 10; refine (from_ (new_any _ _) hb).mono ?_; clear hb; rintro e w2 ⟨rfl, hb⟩; unfold fileCells W.fnew))
  refine (rnew_any _ _).mono ?_
  rintro e w3 ⟨rfl, hb3⟩
  unfold fileCells W.fnew
  have hb4 := (hb.alloc hb.size (.cells (fileCells (W.fnew hart)) FT)).trans (hb3.mono (by have := hb.size; simp; omega))
  go_wp2_with fail
  generalize hW : World.alloc w3 _ = W3
  have hb5 : Below w.heap.size w W3 := by rw [← hW]; exact hb4.alloc hb4.size _
  clear hW hb4 hb3
  go_loopw [8] (fun i wr => i = .int .i64 0 ∧ wr = W3) (fun i _ => 0)
  case atStart => exact ⟨rfl, rfl⟩
  case round =>
    obtain ⟨rfl, rfl⟩ := hrel
    go_wp2
    go_ret
    exact ⟨rfl, hb5⟩

theorem plays_long (hart : Int) (a : Option Addr) (len cap : Nat) (hl : 60 < len) (hm : len ≤ maxLen) (w : World) : Calls Try.prog 3 #[.int .i64 hart, .slice a len cap] w fun e w' => e = .returned (.bool true) ∧ Below w.heap.size w w' := by
  unfold maxLen at hm
  have hb : Below w.heap.size w w := Below.refl _ _
  have hd : decide ((60 : Int) < (len : Int)) = true := by simp; omega
  go_enter Try.func3, Try.ntmps3
  go_wp2_with (go_at_call 9; refine (from_ (first6_any _) hb).mono ?_; clear hb; rintro e w1 ⟨rfl, hb⟩)
  go_ret
  exact ⟨rfl, hb⟩
end Go.Proofs.Ytbagmlcakmhhaaa
