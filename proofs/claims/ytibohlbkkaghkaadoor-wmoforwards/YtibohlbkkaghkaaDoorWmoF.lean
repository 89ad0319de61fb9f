/- wmo: lay. -/
import Derived.Test.YtibohlbkkaghkaaDoorWmoE
namespace Go.Proofs.YtibohlbkkaghkaaDoor
open Go.ChangeShapes Go.WideShapes Go.ChangeAt Go.RowKit
set_option linter.unusedVariables false
set_option linter.unusedSimpArgs false

theorem W.tot_mono {f g : Nat → Nat} (h : ∀ j, f j ≤ g j) : ∀ k, W.tot f k ≤ W.tot g k
  | 0 => Nat.le_refl _
  | k + 1 => Nat.add_le_add (W.tot_mono h k) (h k)
/-- What lay's test reads: a Ref, a list of places, a place. -/
abbrev SLy (W : World) (rb PB pbh h i : Nat) (nh : Nat) (w : World) : Prop := Below W.heap.size W w ∧ rb < w.heap.size ∧ PB < w.heap.size ∧ pbh < w.heap.size ∧ w.cell? ⟨rb, 0, none⟩ = some (.int .i64 (h : Int)) ∧ w.cell? ⟨rb, 1, none⟩ = some (.int .i64 (i : Int)) ∧ w.cell? ⟨PB, h, none⟩ = some (.slice (some ⟨pbh, 0, none⟩) nh nh) ∧ w.cell? ⟨pbh, i, none⟩ = some (.int .i64 0)
theorem SLy.below {W : World} {rb PB pbh h i nh : Nat} {w w' : World} (s : SLy W rb PB pbh h i nh w) (hb : Below w.heap.size w w') : SLy W rb PB pbh h i nh w' := by
  obtain ⟨s1, s2, s3, s4, s5, s6, s7, s8⟩ := s
  exact ⟨s1.trans (hb.mono s1.size), Nat.lt_of_lt_of_le s2 hb.size, Nat.lt_of_lt_of_le s3 hb.size, Nat.lt_of_lt_of_le s4 hb.size, (hb.cell (p := ⟨rb, _, none⟩) s2).trans s5, (hb.cell (p := ⟨rb, _, none⟩) s2).trans s6, (hb.cell (p := ⟨PB, _, none⟩) s3).trans s7, (hb.cell (p := ⟨pbh, _, none⟩) s4).trans s8⟩
set_option maxHeartbeats 1600000 in
theorem lay_any (b K KC : Nat) (a : Nat → Option Addr) (n c : Nat → Nat) (x : Nat → Nat → W.Oz) (oa : Option Addr) (N oc : Nat) (r : Nat → Nat × Nat) (w : World) (h : Hs b K a n c x w) (v : W.Vd K n x) (ho : Os oa N r w) (hr : W.Or K n x N r) :
    Calls Tryd.prog 25 #[.slice (some ⟨b, 0, none⟩) K KC, .slice oa N oc] w fun e w' => (∃ PB pb, e = .returned (.tuple #[.slice (some ⟨PB, 0, none⟩) K K, .int .i64 0]) ∧ Pl w.heap.size PB K n pb (W.plc r N) K w') ∧ Below w.heap.size w w' := by
  have k1 := v.k
  have hmk := make_lists K (by omega) w
  have P0 := Pl.start w K n 23
  have B0 : Below w.heap.size w (w.alloc (.cells (madeCells #[.slice none 0 0] K) 23)) := (Below.refl _ _).alloc (Nat.le_refl _) _
  generalize w.alloc _ = W1 at *
  have HH : Hid (_ ∧ _ ∧ _ ∧ _ ∧ _ ∧ _) := ⟨h, v, ho, hr, P0, B0⟩
  clear h v ho hr P0 B0
  go_enter Tryd.func25, Tryd.ntmps25
  go_wp2
  go_loopw [7, 17] (fun s i wr => ∃ j : Nat, j ≤ K ∧ s = .int .i64 (W.tot (fun h => W.cnt (x h) (n h)) j : Int) ∧ i = .int .i64 (j : Int) ∧ (∃ pb, Pl w.heap.size w.heap.size K n pb (fun _ _ => 0) j wr) ∧ Below w.heap.size w wr) (fun _ i _ => K - (intOf i).toNat)
  case atStart => exact ⟨0, by omega, rfl, rfl, ⟨_, HH.out.2.2.2.2.1⟩, HH.out.2.2.2.2.2⟩
  case round =>
    clear hmk
    obtain ⟨j, hj, rfl, rfl, ⟨pb, hP⟩, br⟩ := hrel
    by_cases hlt : j < K
    · have hm := HH.out.1.below br
      have g0 := hm.cl j hlt
      have lt := hm.lt
      have hjn : (j : Int) < (K : Int) := by omega
      have nle := HH.out.2.1.le j hlt
      have hmi := make_ints (n j) (by omega) wr
      have P1 := hP.below ((Below.refl _ _).alloc (Nat.le_refl _) (.cells (madeCells #[.int .i64 0] (n j)) 3))
      have q := P1.o.c j hlt
      rw [if_neg (Nat.lt_irrefl j)] at q
      have fz := P1.o.fz
      have ql := P1.o.lt
      have P2 := hP.step hlt 3 (fun _ => rfl) br.size
      have B2 : Below w.heap.size w ((wr.alloc (.cells (madeCells #[.int .i64 0] (n j)) 3)).setCell ⟨w.heap.size, j, none⟩ (.slice (some ⟨wr.heap.size, 0, none⟩) (n j) (n j))) := (br.alloc br.size _).setCell (p := ⟨w.heap.size, j, none⟩) (Nat.le_refl _) _
      have e1 : W.tot (fun h => W.cnt (x h) (n h)) (j + 1) = W.tot (fun h => W.cnt (x h) (n h)) j + W.cnt (x j) (n j) := rfl
      have tj1 := W.tot_le (fun h => W.cnt (x h) (n h)) (j + 1) K (by omega)
      have tn := W.tot_mono (fun h => W.cnt_le (x h) (n h)) K
      have tt := HH.out.2.1.t
      have ac := accesses_any (a j) (n j) (c j) (x j) _ ((HH.out.1.below B2).ol j hlt) nle
      have HX : Hid (Calls _ _ _ _ _ ∧ _ ∧ _) := ⟨ac, P2, B2⟩
      clear ac P2 B2 P1 hP hm
      rw [e1] at tj1
      generalize wr.alloc _ = W2 at *
      generalize n j = nj at *
      generalize a j = aj at *
      generalize c j = cj at *
      generalize hT : W.tot (fun h => W.cnt (x h) (n h)) j = T at *
      go_wp2_with (fail)
      refine HX.out.1.mono ?_
      rintro e w3 ⟨rfl, rfl⟩
      generalize hC : W.cnt (x j) nj = CN at *
      go_wp2
      go_roundw
      case rel => exact ⟨j + 1, by omega, by rw [e1]; go_num, by go_num, ⟨_, HX.out.2.1⟩, HX.out.2.2⟩
      case measure => simp [intOf]; omega
    · obtain rfl : j = K := by omega
      have hjn : ¬ (j : Int) < (j : Int) := by omega
      have et := HH.out.2.2.2.1.t
      have tn := W.tot_mono (fun h => W.cnt_le (x h) (n h)) j
      have tt := HH.out.2.1.t
      rw [et] at tn ⊢
      have HP : Hid (_ ∧ _) := ⟨hP, br⟩
      clear hP br
      go_wp2
      go_loopw [7, 35] (fun s i wx => ∃ q : Nat, q ≤ N ∧ s = .int .i64 ((N - q : Nat) : Int) ∧ i = .int .i64 (q : Int) ∧ Pl w.heap.size w.heap.size j n pb (W.plc r q) j wx ∧ Below w.heap.size w wx) (fun _ i _ => N - (intOf i).toNat)
      case atStart => exact ⟨0, by omega, rfl, rfl, HP.out.1, HP.out.2⟩
      case round =>
        clear HP
        obtain ⟨q, hq, rfl, rfl, hP, br⟩ := hrel
        by_cases hlt : q < N
        · have hqn : (q : Int) < (N : Int) := by omega
          obtain ⟨ob, rfl, ol, oc'⟩ := (HH.out.2.2.1.below br).at_ (by omega)
          obtain ⟨o1, o2⟩ := oc' q hlt
          have rh := HH.out.2.2.2.1.h q hlt
          have ri := HH.out.2.2.2.1.i q hlt
          have rk := HH.out.2.2.2.1.k q hlt
          have rf := HH.out.2.2.2.1.f q hlt
          generalize hrq : r q = rq at *
          obtain ⟨H, I⟩ := rq
          dsimp only at *
          have nH := HH.out.2.1.le H rh
          have P1 := hP.below ((Below.refl _ _).alloc (Nat.le_refl _) (.cells #[.int .i64 (H : Int), .int .i64 (I : Int)] 41))
          have B1 : Below w.heap.size w (wr.alloc (.cells #[.int .i64 (H : Int), .int .i64 (I : Int)] 41)) := br.alloc br.size _
          have p1 := P1.o.c H rh
          try dsimp only at p1
          rw [if_pos rh] at p1
          have p2 := (P1.i H rh).c I ri
          rw [rf] at p2
          have hrow := heap_alloc_last wr (.cells #[.int .i64 (H : Int), .int .i64 (I : Int)] 41)
          have S0 : SLy w wr.heap.size w.heap.size (pb H) H I (n H) (wr.alloc (.cells #[.int .i64 (H : Int), .int .i64 (I : Int)] 41)) := ⟨B1, by simp, P1.o.lt, (P1.i H rh).lt, cell_of_row _ _ 0 _ _ (0, 0) hrow, cell_of_row _ _ 1 _ _ (0, 0) hrow, p1, p2⟩
          have S1 := S0.below (Below.refl _ _).drew
          have hfi := fun W' (hb : Below w.heap.size w W') => find_any b j KC a n c x W' (HH.out.1.below hb) (fun h hh => HH.out.2.1.le h hh) k1 H I rh ri rk
          have hHj : (H : Int) < (j : Int) := by omega
          have hIn : (I : Int) < (n H : Int) := by omega
          have HS : Hid (SLy w wr.heap.size w.heap.size (pb H) H I (n H) _ ∧ _ ∧ _ ∧ _) := ⟨S1, hfi, P1, B1⟩
          clear S0 S1 hfi P1 B1 p1 p2 hrow hP br oc'
          generalize hnH : n H = nH' at *
          generalize hpH : pb H = pH at *
          go_wp2_with (fail)
          go_region_held3 (fun w' => Below w.heap.size w w' ∧ wr.heap.size < w'.heap.size ∧ w.heap.size < w'.heap.size ∧ pH < w'.heap.size ∧ w'.cell? ⟨wr.heap.size, 0, none⟩ = some (.int .i64 (H : Int)) ∧ w'.cell? ⟨wr.heap.size, 1, none⟩ = some (.int .i64 (I : Int)) ∧ w'.cell? ⟨w.heap.size, H, none⟩ = some (.slice (some ⟨pH, 0, none⟩) nH' nH') ∧ w'.cell? ⟨pH, I, none⟩ = some (.int .i64 0))
            (first
              | exact HS.out.1
              | (refine SLy.below ?_ b2; assumption)
              | with_reducible assumption)
            (first
              | (go_at_call 37; refine (HS.out.2.1 _ (And.left (by assumption))).mono ?_; rintro e w2 ⟨⟨p, rfl⟩, b2⟩))
          all_goals
            obtain ⟨t1, t2, t3, t4, t5, t6, t7, t8⟩ := SLy.below HS.out.1 b2
            have D2 := (Below.refl (wr.alloc (.cells #[.int .i64 (H : Int), .int .i64 (I : Int)] 41)).heap.size (wr.alloc (.cells #[.int .i64 (H : Int), .int .i64 (I : Int)] 41))).drew.trans b2
            have P2 := HS.out.2.2.1.below D2
            have fz := (P2.i H rh).fz
            rw [hpH] at fz
            have P3 := P2.set H I rh ((q : Int) + 1)
            rw [hpH] at P3
            have P4 := P3.congr (g := W.plc r (q + 1)) (fun h' i' => by
              show _ = if h' = (r q).1 ∧ i' = (r q).2 then (q : Int) + 1 else W.plc r q h' i'
              rw [hrq])
            have B4 := t1.setCell (p := ⟨pH, I, none⟩) (by have := P2.bi H rh; rw [hpH] at this; exact this) (.int .i64 ((q : Int) + 1))
            have HZ : Hid (_ ∧ _) := ⟨P4, B4⟩
            clear P2 P3 P4 B4 D2 HS b2 t1
            go_wp2
            go_region
            go_wp2
            go_roundw
            case rel => exact ⟨q + 1, by omega, by go_num, by go_num, HZ.out.1.below (Below.refl _ _).drew, HZ.out.2.drew⟩
            case measure => simp [intOf]; omega
        · obtain rfl : q = N := by omega
          have hqn : ¬ (q : Int) < (q : Int) := by omega
          have HZ : Hid (_ ∧ _) := ⟨hP, br⟩
          clear hP br
          have z0 : ((q - q : Nat) : Int) = 0 := by omega
          rw [z0]
          go_wp2
          refine bodyPost_ret (v := .tuple #[.slice (some ⟨w.heap.size, 0, none⟩) j j, .int .i64 0]) (by simp [results, Tryd.results25, go_sem]) rfl ⟨⟨_, rfl, pb, HZ.out.1⟩, HZ.out.2⟩
end Go.Proofs.YtibohlbkkaghkaaDoor
