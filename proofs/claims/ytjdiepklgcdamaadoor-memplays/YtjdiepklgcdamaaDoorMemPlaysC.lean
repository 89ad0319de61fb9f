/- MemPlays, walked: where it plays. -/
import Derived.Test.YtjdiepklgcdamaaDoorMemPlaysB
namespace Go.Proofs.YtjdiepklgcdamaaDoor
open Go.ChangeShapes Go.WideShapes Go.ChangeAt Go.RowKit
set_option linter.unusedVariables false
set_option linter.unusedSimpArgs false

theorem sameW_comm (n : Nat) (f g : Nat → Int) : W.sameW n g f = W.sameW n f g := by
  unfold W.sameW
  congr 1
  funext j
  exact Bool.beq_comm
theorem bytes_m (b c n cap : Nat) (f : Nat → Int) (m : Nat) (hm : 16 * n = m) (w : World) (h : MAt b c n cap f w) : Calls Tryd.prog 12 #[.pointer (some ⟨b, 0, none⟩)] w fun e w' => e = .returned (.int .i64 (m : Int)) ∧ w = w' := by
  subst hm
  exact bytes_any b c n cap f w h

set_option maxRecDepth 100000 in
set_option maxHeartbeats 12800000 in
theorem memPlays_small (A : Nat → Addr) (n m Ad : Nat) (size line : Int) (hAd : Ad < 4294967296) (a : Option Addr) (ba off k cap : Nat) (a2 : Option Addr) (bd od k2 cap2 : Nat) (u : Nat → Int) (dk ds di : Nat → Int) (da : Nat → Nat) (dv : Nat → Int) (dl : Nat → Nat → Int) (w : World) (hS : Sent A w) (hk : k ≤ 2000) (hk2 : k2 ≤ 60) (hm : 16 * n = m) (n1 : 1 ≤ n) (n2 : n ≤ 4096) (hkn : k ≤ 4 * n) (hsm : m ≤ 4096)
    (ha : 0 < k → a = some ⟨ba, off, none⟩ ∧ ba < w.heap.size) (hu : ∀ j, j < k → w.cell? ⟨ba, off + j, none⟩ = some (.int .u32 (u j))) (hur : ∀ j, 0 ≤ u j ∧ u j < 4294967296)
    (ha2 : 0 < k2 → a2 = some ⟨bd, od, none⟩ ∧ bd < w.heap.size)
    (hd : ∀ j, j < k2 → w.cell? ⟨bd, od + j * 9, none⟩ = some (.int .i64 (dk j)) ∧ w.cell? ⟨bd, od + j * 9 + 1, none⟩ = some (.int .i64 (ds j)) ∧ w.cell? ⟨bd, od + j * 9 + 2, none⟩ = some (.int .i64 (di j)) ∧ w.cell? ⟨bd, od + j * 9 + 3, none⟩ = some (.int .u32 ((da j : Nat) : Int)) ∧ w.cell? ⟨bd, od + j * 9 + 4, none⟩ = some (.int .u32 (dv j)) ∧ w.cell? ⟨bd, od + j * 9 + 5, none⟩ = some (.int .u32 (dl j 0)) ∧ w.cell? ⟨bd, od + j * 9 + 6, none⟩ = some (.int .u32 (dl j 1)) ∧ w.cell? ⟨bd, od + j * 9 + 7, none⟩ = some (.int .u32 (dl j 2)) ∧ w.cell? ⟨bd, od + j * 9 + 8, none⟩ = some (.int .u32 (dl j 3)))
    (hda : ∀ j, da j < 4294967296) (hdv : ∀ j, 0 ≤ dv j ∧ dv j < 4294967296) (hdl : ∀ j i, 0 ≤ dl j i ∧ dl j i < 4294967296) : Calls Tryd.prog 3 #[.int .i64 (m : Int), .slice a k cap, .slice a2 k2 cap2, .int .u32 (Ad : Int), .int .i64 size, .int .i64 line] w fun e w' => e = .returned (.bool true) ∧ Below w.heap.size w w' := by
  have HA : Hid (0 < k → a = some ⟨ba, off, none⟩ ∧ ba < w.heap.size) := ha
  have HA2 : Hid (0 < k2 → a2 = some ⟨bd, od, none⟩ ∧ bd < w.heap.size) := ha2
  have HS : Hid (Sent A w) := hS
  have hn : (num 0 == 0) = true := by kernel_rfl
  have HU : Hid (∀ j, j < k → w.cell? ⟨ba, off + j, none⟩ = some (.int .u32 (u j))) := hu
  have HD : Hid (∀ j, j < k2 → w.cell? ⟨bd, od + j * 9, none⟩ = some (.int .i64 (dk j)) ∧ w.cell? ⟨bd, od + j * 9 + 1, none⟩ = some (.int .i64 (ds j)) ∧ w.cell? ⟨bd, od + j * 9 + 2, none⟩ = some (.int .i64 (di j)) ∧ w.cell? ⟨bd, od + j * 9 + 3, none⟩ = some (.int .u32 ((da j : Nat) : Int)) ∧ w.cell? ⟨bd, od + j * 9 + 4, none⟩ = some (.int .u32 (dv j)) ∧ w.cell? ⟨bd, od + j * 9 + 5, none⟩ = some (.int .u32 (dl j 0)) ∧ w.cell? ⟨bd, od + j * 9 + 6, none⟩ = some (.int .u32 (dl j 1)) ∧ w.cell? ⟨bd, od + j * 9 + 7, none⟩ = some (.int .u32 (dl j 2)) ∧ w.cell? ⟨bd, od + j * 9 + 8, none⟩ = some (.int .u32 (dl j 3))) := hd
  have z1 : decide ((4096 : Int) < m) = false := by simp; omega
  have z2 : decide ((2000 : Int) < k) = false := by simp; omega
  have z3 : decide ((60 : Int) < k2) = false := by simp; omega
  have z4 : decide (4096 < m) = false := by simp; omega
  have z5 : decide (2000 < k) = false := by simp; omega
  have z6 : decide (60 < k2) = false := by simp; omega
  clear hS hu ha ha2 hd
  go_enter Tryd.func3, Tryd.ntmps3
  go_wp2_with (first
    | (go_at_call 8; refine (first7_any _).mono ?_; rintro e w1 ⟨rfl, hw1⟩)
    | fail)
  refine (new_gen n m ba off k cap a u w1 (by omega) n1 n2 hkn (fun h => ⟨(HA.out h).1, by have := hw1.size; have := (HA.out h).2; omega⟩) (fun j hj => (hw1.cell (p := ⟨ba, off + j, none⟩) (HA.out (by omega)).2).trans (HU.out j hj)) hur).mono ?_
  rintro e w2 ⟨rfl, hM, hB2⟩
  have hL := Ms.start hw1 hM hB2
  have hg1 := hw1.size
  have hlt2 := hM.lt
  generalize w1.heap.size = g1 at *
  clear hM hB2 hw1
  go_wp2_with fail
  refine (rnew_k n m ba off k cap _ u w2 hm n1 n2 hkn (fun h => ⟨(HA.out h).1, by have := hL.bel.size; have := (HA.out h).2; omega⟩) (fun j hj => (hL.bel.cell (p := ⟨ba, off + j, none⟩) (HA.out (by omega)).2).trans (HU.out j hj)) hur).mono ?_
  rintro e w3 ⟨rfl, hX, hB3⟩
  replace hL := hL.call hB3
  have hs3 := hB3.size
  have hs2 := hX.lt
  generalize w2.heap.size = g2 at *
  clear hB3
  go_wp2_with fail
  refine (is_any A 0 (by decide) 0 _ (HS.out.below hL.bel)).mono ?_
  rw [hn]
  rintro e w4 ⟨rfl, hB4⟩
  replace hL := hL.call hB4
  replace hX := hX.below hB4
  have hs4 := hB4.size
  clear hB4
  go_wp2_with fail
  refine (clone_any _ _ _ _ _ _ hL.at_).mono ?_
  rintro e w5 ⟨bk, ck, capk, rfl, hK, lk1, lk2, hB5⟩
  have hP : Py w (g1 + 1) g1 (g2 + 1) g2 bk ck n capk (W.init k u) (W.init k u) w5 := by
    refine ⟨(hL.call hB5).bel, hL.at_.below hB5, hX.below hB5, hK, ?_, ?_, ?_, ?_, ?_, ?_, ?_, ?_, ?_⟩ <;> omega
  clear hK lk1 lk2 hB5 hX hL hs2 hs3 hs4 hlt2 hg1
  generalize hF0 : W.init k u = F at *
  have HF : Hid (W.init k u = F) := hF0
  clear hF0
  generalize g1 + 1 = bm at *
  generalize g2 + 1 = bx at *
  go_wp2
  go_loopw [19] (fun i wr => ∃ (j : Nat) (G : Nat → Int), j ≤ k2 ∧ i = .int .i64 j ∧ Py w bm g1 bx g2 bk ck n capk F G wr) (fun i _ => k2 - (intOf i).toNat)
  case atStart => exact ⟨0, F, Nat.zero_le _, rfl, hP⟩
  case round =>
    clear hP
    obtain ⟨j, G, hj, rfl, hP⟩ := hrel
    by_cases hlt : j < k2
    · obtain ⟨rfl, hbd⟩ := HA2.out (by omega)
      obtain ⟨e0, e1, e2, e3, e4, e5, e6, e7, e8⟩ := HD.out j hlt
      have f0 := (hP.bel.cell (p := ⟨bd, od + j * 9, none⟩) hbd).trans e0
      have f1 := (hP.bel.cell (p := ⟨bd, od + j * 9 + 1, none⟩) hbd).trans e1
      have f2 := (hP.bel.cell (p := ⟨bd, od + j * 9 + 2, none⟩) hbd).trans e2
      have f3 := (hP.bel.cell (p := ⟨bd, od + j * 9 + 3, none⟩) hbd).trans e3
      have f4 := (hP.bel.cell (p := ⟨bd, od + j * 9 + 4, none⟩) hbd).trans e4
      have f5 := (hP.bel.cell (p := ⟨bd, od + j * 9 + 5, none⟩) hbd).trans e5
      have f6 := (hP.bel.cell (p := ⟨bd, od + j * 9 + 6, none⟩) hbd).trans e6
      have f7 := (hP.bel.cell (p := ⟨bd, od + j * 9 + 7, none⟩) hbd).trans e7
      have f8 := (hP.bel.cell (p := ⟨bd, od + j * 9 + 8, none⟩) hbd).trans e8
      clear e0 e1 e2 e3 e4 e5 e6 e7 e8
      have a1 := hda j
      have a2 := hdv j
      have a3 := hdl j
      have hDt : Dt wr.heap.size (dk j) (ds j) (di j) (da j) (dv j) (dl j) (wr.alloc (.cells #[.int .i64 (dk j), .int .i64 (ds j), .int .i64 (di j), .int .u32 ((da j : Nat) : Int), .int .u32 (dv j), .int .u32 (dl j 0), .int .u32 (dl j 1), .int .u32 (dl j 2), .int .u32 (dl j 3)] 40)) := ⟨heap_alloc_new _ _⟩
      have hQ := hP.call ((Below.refl _ _).alloc (Nat.le_refl _) (.cells #[.int .i64 (dk j), .int .i64 (ds j), .int .i64 (di j), .int .u32 ((da j : Nat) : Int), .int .u32 (dv j), .int .u32 (dl j 0), .int .u32 (dl j 1), .int .u32 (dl j 2), .int .u32 (dl j 3)] 40))
      have hml := hP.m.lt
      have hxl := hP.x.lt
      clear hP
      cases h1 : (dk j == 1)
      case true =>
        go_wp2_with fail
        generalize World.alloc wr _ = W1 at *
        have hQd := hQ.drew
        have hDd := hDt.below (Below.refl _ _).drew
        obtain ⟨d0, d1, d2, d3, d4, d5, d6, d7, d8⟩ := hDd.cells
        clear f0 f1 f2 f3 f4 f5 f6 f7 f8
        go_region_held3 (fun w' => w'.cell? ⟨wr.heap.size, 1, none⟩ = some (.int .i64 (ds j)) ∧ w'.cell? ⟨wr.heap.size, 3, none⟩ = some (.int .u32 ((da j : Nat) : Int)) ∧ w'.cell? ⟨wr.heap.size, 4, none⟩ = some (.int .u32 (dv j)))
          (first | (refine ⟨?_, ?_, ?_⟩ <;> assumption) | go_keep)
          (first
            | (go_at_call 14; refine (store_any bm g1 n n G (da j) (ds j) (dv j) _ a1 hQd.m).mono ?_; rintro e wB ⟨rfl, hA1, hg1⟩; have hZ := hQd.onM hA1 hg1; have hDB := hDd.kept hg1 (by omega); obtain ⟨s0, s1, s2, s3, s4, s5, s6, s7, s8⟩ := hDB.cells)
            | (go_at_call 15; refine (rstore_any bx g2 n G (da j) (ds j) (dv j) a2.1 a2.2 _ a1 hZ.x).mono ?_; rintro e wC ⟨rfl, hA2, hg2⟩; have hR := hZ.onX hA2 hg2; have hDC := hDB.kept hg2 (by omega); obtain ⟨r0, r1, r2, r3, r4, r5, r6, r7, r8⟩ := hDC.cells))
        all_goals
          generalize W.stored n G (da j) (ds j) (dv j) = GG at *
          go_wp2_with fail
          refine (load_any bm g1 n n _ Ad size _ hAd hR.m).mono ?_
          rintro e v1 ⟨rfl, hb⟩
          replace hR := hR.call hb
          clear hb
          go_wp2_with fail
          refine (rload_any bx g2 n _ Ad size _ hAd hR.x).mono ?_
          rintro e v2 ⟨rfl, rfl⟩
          go_wp2_with fail
          refine (line_any bm g1 n n _ line _ hR.m).mono ?_
          unfold lineV
          rintro e v2 ⟨rfl, hb⟩
          replace hR := hR.call hb
          clear hb
          go_wp2_with fail
          generalize hLL : W.lineOf n GG line = LL at *
          have qp := Ln.new LL v2
          replace hR := hR.call ((Below.refl _ _).alloc (Nat.le_refl _) (.cells #[.int .u32 (LL 0), .int .u32 (LL 1), .int .u32 (LL 2), .int .u32 (LL 3)] 38))
          refine (rline_any bx g2 n _ line _ hR.x).mono ?_
          rw [hLL]
          unfold lineV
          rintro e v3 ⟨rfl, hb⟩
          replace hR := hR.call hb
          replace qp := qp.below hb
          clear hb
          have qq := Ln.new LL v3
          have ba := (Below.refl v3.heap.size v3).alloc (Nat.le_refl _) (.cells #[.int .u32 (LL 0), .int .u32 (LL 1), .int .u32 (LL 2), .int .u32 (LL 3)] 38)
          replace hR := hR.call ba
          replace qp := qp.below ba
          clear ba
          obtain ⟨p0, p1, p2, p3, pz⟩ := qp.cells
          obtain ⟨q0, q1, q2, q3, qz⟩ := qq.cells
          go_wp2_with fail
          refine (has_any bm g1 n n _ Ad size _ hAd hR.m).mono ?_
          rintro e v4 ⟨rfl, rfl⟩
          go_wp2_with fail
          refine (sameLine_yes LL _).mono ?_
          rintro e v5 ⟨rfl, hb⟩
          replace hR := hR.call hb
          go_wp2
          go_roundw
          case rel => exact ⟨j + 1, GG, by omega, by go_num, hR⟩
          case measure => simp [intOf]; omega
      case false =>
        go_wp2_with fail
        generalize World.alloc wr _ = W1 at *
        have hQd := hQ.drew
        have hDd := hDt.below (Below.refl _ _).drew
        obtain ⟨d0, d1, d2, d3, d4, d5, d6, d7, d8⟩ := hDd.cells
        clear f0 f1 f2 f3 f4 f5 f6 f7 f8
        go_region_held3 (fun w' => w'.cell? ⟨wr.heap.size, 2, none⟩ = some (.int .i64 (di j)) ∧ w'.cell? ⟨wr.heap.size, 5, none⟩ = some (.int .u32 (dl j 0)) ∧ w'.cell? ⟨wr.heap.size, 6, none⟩ = some (.int .u32 (dl j 1)) ∧ w'.cell? ⟨wr.heap.size, 7, none⟩ = some (.int .u32 (dl j 2)) ∧ w'.cell? ⟨wr.heap.size, 8, none⟩ = some (.int .u32 (dl j 3)))
          (first | (refine ⟨?_, ?_, ?_, ?_, ?_⟩ <;> assumption) | go_keep)
          (first
            | (go_at_call 16; refine (setLine_any bm g1 n n G (di j) (dl j) a3 _ hQd.m).mono ?_; rintro e wB ⟨rfl, hA1, hg1⟩; have hZ := hQd.onM hA1 hg1; have hDB := hDd.kept hg1 (by omega); obtain ⟨s0, s1, s2, s3, s4, s5, s6, s7, s8⟩ := hDB.cells)
            | (go_at_call 17; refine (rsetLine_any bx g2 n G (di j) (dl j) a3 _ hZ.x).mono ?_; rintro e wC ⟨rfl, hA2, hg2⟩; have hR := hZ.onX hA2 hg2; have hDC := hDB.kept hg2 (by omega); obtain ⟨r0, r1, r2, r3, r4, r5, r6, r7, r8⟩ := hDC.cells))
        all_goals
          generalize W.lined n G (di j) (dl j) = GG at *
          go_wp2_with fail
          refine (load_any bm g1 n n _ Ad size _ hAd hR.m).mono ?_
          rintro e v1 ⟨rfl, hb⟩
          replace hR := hR.call hb
          clear hb
          go_wp2_with fail
          refine (rload_any bx g2 n _ Ad size _ hAd hR.x).mono ?_
          rintro e v2 ⟨rfl, rfl⟩
          go_wp2_with fail
          refine (line_any bm g1 n n _ line _ hR.m).mono ?_
          unfold lineV
          rintro e v2 ⟨rfl, hb⟩
          replace hR := hR.call hb
          clear hb
          go_wp2_with fail
          generalize hLL : W.lineOf n GG line = LL at *
          have qp := Ln.new LL v2
          replace hR := hR.call ((Below.refl _ _).alloc (Nat.le_refl _) (.cells #[.int .u32 (LL 0), .int .u32 (LL 1), .int .u32 (LL 2), .int .u32 (LL 3)] 38))
          refine (rline_any bx g2 n _ line _ hR.x).mono ?_
          rw [hLL]
          unfold lineV
          rintro e v3 ⟨rfl, hb⟩
          replace hR := hR.call hb
          replace qp := qp.below hb
          clear hb
          have qq := Ln.new LL v3
          have ba := (Below.refl v3.heap.size v3).alloc (Nat.le_refl _) (.cells #[.int .u32 (LL 0), .int .u32 (LL 1), .int .u32 (LL 2), .int .u32 (LL 3)] 38)
          replace hR := hR.call ba
          replace qp := qp.below ba
          clear ba
          obtain ⟨p0, p1, p2, p3, pz⟩ := qp.cells
          obtain ⟨q0, q1, q2, q3, qz⟩ := qq.cells
          go_wp2_with fail
          refine (has_any bm g1 n n _ Ad size _ hAd hR.m).mono ?_
          rintro e v4 ⟨rfl, rfl⟩
          go_wp2_with fail
          refine (sameLine_yes LL _).mono ?_
          rintro e v5 ⟨rfl, hb⟩
          replace hR := hR.call hb
          go_wp2
          go_roundw
          case rel => exact ⟨j + 1, GG, by omega, by go_num, hR⟩
          case measure => simp [intOf]; omega
    · have hk' : k2 = j := by omega
      subst hk'
      clear hlt hj
      go_wp2
      go_loopw [29] (fun i wo => ∃ q : Nat, q ≤ m ∧ i = .int .i64 q ∧ Py w bm g1 bx g2 bk ck n capk F G wo) (fun i _ => m - (intOf i).toNat)
      case atStart => exact ⟨0, Nat.zero_le _, rfl, hP⟩
      case round =>
        clear hP
        obtain ⟨q, hq, rfl, hP⟩ := hrel
        by_cases hql : q < m
        · have hbl := byteload n G q (by omega)
          go_wp2_with fail
          refine (load_any bm g1 n n G q 1 _ (by omega) hP.m).mono ?_
          rw [hbl.1, hbl.2]
          rintro e v1 ⟨rfl, hb⟩
          replace hP := hP.call hb
          clear hb
          have hh := hP.x.head
          rw [hm] at hh
          have hy := hP.x.byte q (by omega)
          have hyr := byte_rg hP.x.rg q
          generalize W.byte G q = y at *
          go_wp2
          go_roundw
          case rel => exact ⟨q + 1, by omega, by go_num, hP⟩
          case measure => simp [intOf]; omega
        · have hqm : m = q := by omega
          subst hqm
          go_wp2_with fail
          refine (rnew_k n m ba off k cap _ u _ hm n1 n2 hkn (fun h => ⟨(HA.out h).1, by have := hP.bel.size; have := (HA.out h).2; omega⟩) (fun j hj => (hP.bel.cell (p := ⟨ba, off + j, none⟩) (HA.out (by omega)).2).trans (HU.out j hj)) hur).mono ?_
          rintro e v2 ⟨rfl, hY, hb⟩
          replace hP := hP.call hb
          clear hb
          rw [HF.out] at hY
          generalize wr.heap.size = g7 at *
          have hcm := sameW_comm n F G
          have hre := (sameW_iff n G G).2 (fun _ _ => rfl)
          have HC : Hid (W.sameW n G F = W.sameW n F G) := hcm
          have HR : Hid (W.sameW n G G = true) := hre
          clear hcm hre
          go_wp2_with fail
          have hPd := hP.drew
          have hYd := hY.below (Below.refl _ _).drew
          have hx0 := hPd.x.head
          have hy0 := hYd.head
          rw [hm] at hx0 hy0
          have SBm : Hid (∀ v : World, RAt bx g2 n G v → RAt (g7 + 1) g7 n F v → Calls Tryd.prog 25 #[.slice (some ⟨g2, 0, none⟩) m m, .slice (some ⟨g7, 0, none⟩) m m] v fun e w' => e = .returned (.bool (W.sameW n F G)) ∧ Below v.heap.size v w') := by
            have : ∀ v : World, RAt bx g2 n G v → RAt (g7 + 1) g7 n F v → Calls Tryd.prog 25 #[.slice (some ⟨g2, 0, none⟩) m m, .slice (some ⟨g7, 0, none⟩) m m] v fun e w' => e = .returned (.bool (W.sameW n F G)) ∧ Below v.heap.size v w' := by
              intro v k1 k2
              have := sameBytes_any bx g2 (g7 + 1) g7 n G F v k1 k2
              rw [hm, HC.out] at this
              exact this
            exact this
          go_region_held3 (fun w' => w'.cell? ⟨bx, 0, none⟩ = some (.slice (some ⟨g2, 0, none⟩) m m) ∧ w'.cell? ⟨g7 + 1, 0, none⟩ = some (.slice (some ⟨g7, 0, none⟩) m m))
            (first | (refine ⟨?_, ?_⟩ <;> assumption) | go_keep)
            (first
              | (go_at_call 12; refine (bytes_m _ _ _ _ _ m hm _ hPd.k).mono ?_; rintro e wa ⟨rfl, rfl⟩)
              | (go_at_call_of 24 (Value.pointer (some ⟨bk, 0, none⟩)); refine (same_any _ _ _ _ _ _ n F G _ hPd.k hPd.m).mono ?_; rintro e wb ⟨rfl, hb1⟩; have hP1 := hPd.call hb1; have hY1 := hYd.below hb1; have hx1 := hP1.x.head; have hy1 := hY1.head; rw [hm] at hx1 hy1)
              | (go_at_call 25; refine (SBm.out _ hP1.x hY1).mono ?_; rintro e wc ⟨rfl, hb2⟩; have hP2 := hP1.call hb2; have hY2 := hY1.below hb2; have hx2 := hP2.x.head; have hy2 := hY2.head; rw [hm] at hx2 hy2)
              | (go_at_call 13; refine (clone_any _ _ _ _ _ _ hP2.m).mono ?_; rintro e wd ⟨b8, c8, cap8, rfl, hK8, _, _, hb3⟩; have hP3 := hP2.call hb3; have hY3 := hY2.below hb3; have hx3 := hP3.x.head; have hy3 := hY3.head; rw [hm] at hx3 hy3)
              | (go_at_call_of 24 (Value.pointer (some ⟨bm, 0, none⟩)); refine (same_any _ _ _ _ _ _ n G G _ hP3.m hK8).mono ?_; rw [HR.out]; rintro e we ⟨rfl, hb4⟩; have hP4 := hP3.call hb4; have hY4 := hY3.below hb4; have hx4 := hP4.x.head; have hy4 := hY4.head; rw [hm] at hx4 hy4))
          all_goals
            go_wp2
            go_ret
            exact ⟨rfl, hP4.bel⟩
end Go.Proofs.YtjdiepklgcdamaaDoor
